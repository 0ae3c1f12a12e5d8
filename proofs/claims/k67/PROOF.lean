import PyProof.Rows.All
import Wide.All
import OpenK.AllK
import Wide.FinOn
import Lean
import PyProof.EqAt
import PyProof.EqKinds
import PyProof.TupleCall
import PySem.Challenge.RW_onceshade_k67_papers_of_fellows
set_option Elab.async false
set_option linter.all false
set_option maxRecDepth 100000
abbrev Fg:=PySem.W.Frag
variable {P:PySem.Program}{K:Fg}{mg:PySem.Str->Option PySem.Value}{base:PySem.Heap}{fd:PySem.FuncData}{b:Option PySem.Addr}{M:PySem.Addr->Prop}
namespace L2
open PySem PySem.Spec PyProof.Rows
abbrev Key:=Sum Int Str
def J5w:Key->Value->Bool
 | .inl k,v=>Value.isInt k v
 | .inr x,v=>Value.isStrOf x v
def Q3a (w:World):Key->Int
 | .inl k=>hashInt k
 | .inr x=>hashStr w x
theorem AS:∀ {k:Key} {v:Value},J5w k v=true->(∃ i t,k=Sum.inl i/\v=Value.int i t)\/(∃ x t,k=Sum.inr x/\v=Value.str x t)
 | .inl i,v,h=>by
   obtain ⟨t,e⟩:=Value.isInt_shape (k:=i) (v:=v) h
   exact .inl ⟨i,t,rfl,e⟩
 | .inr x,v,h=>by
   obtain ⟨t,e⟩:=Value.isStrOf_shape (x:=x) (v:=v) h
   exact .inr ⟨x,t,rfl,e⟩
theorem J8k (a b:Int):decide ((Sum.inl a:Key)=Sum.inl b)=(a==b):=by
 by_cases e:a=b
 · subst e;simp
 · have h:¬ (Sum.inl a:Key)=Sum.inl b:=fun q=>e (Sum.inl.inj q)
   rw [decide_eq_false h]
   exact (beq_eq_false_iff_ne.mpr e).symm
theorem J8h (a b:Str):decide ((Sum.inr a:Key)=Sum.inr b)=decide (a=b):=by
 by_cases e:a=b
 · subst e;simp
 · have h:¬ (Sum.inr a:Key)=Sum.inr b:=fun q=>e (Sum.inr.inj q)
   rw [decide_eq_false h,decide_eq_false e]
theorem J8j (a:Int)(b:Str):decide ((Sum.inl a:Key)=Sum.inr b)=false:=decide_eq_false (fun q=>nomatch q)
theorem J8i (a:Str)(b:Int):decide ((Sum.inr a:Key)=Sum.inl b)=false:=decide_eq_false (fun q=>nomatch q)
def PJ (prog:Program)(w:World):PySem.KeyKind prog w Key where
 is:=J5w
 hash:=Q3a w
 inj:=fun v a b ha hb=>by
  rcases AS ha with ⟨i,t,rfl,rfl⟩|⟨x,t,rfl,rfl⟩
  · rcases AS hb with ⟨j,u,rfl,e⟩|⟨y,u,rfl,e⟩
    · injection e with e1 _;rw [e1]
    · exact nomatch e
  · rcases AS hb with ⟨j,u,rfl,e⟩|⟨y,u,rfl,e⟩
    · exact nomatch e
    · injection e with e1 _;rw [e1]
 byValue:=fun k v h=>by
  rcases AS h with ⟨i,t,rfl,rfl⟩|⟨x,t,rfl,rfl⟩<;>rfl
 pyHash:=fun hv h=>by
  rcases AS hv with ⟨i,t,rfl,rfl⟩|⟨x,t,rfl,rfl⟩
  · exact wpAny_pyHash_int h
  · exact wpAny_pyHash_str h
 eqBool:=fun hu hv h=>by
  rcases AS hu with ⟨i,t,rfl,rfl⟩|⟨x,t,rfl,rfl⟩
  · rcases AS hv with ⟨j,u,rfl,rfl⟩|⟨y,u,rfl,rfl⟩
    · rw [J8k] at h;exact wpAny_eqBool_int h
    · rw [J8j] at h;exact SeqAt.EqAt.int_str i t y u _ _ _ _ h
  · rcases AS hv with ⟨j,u,rfl,rfl⟩|⟨y,u,rfl,rfl⟩
    · rw [J8i] at h;exact SeqAt.EqAt.str_int x t j u _ _ _ _ h
    · rw [J8h] at h;exact wpAny_eqBool_str h
 «strs»:=fun k x t v h=>by
  rcases AS h with ⟨i,u,rfl,e⟩|⟨y,u,rfl,e⟩
  · exact nomatch e
  · injection e with e1 _
    subst e1
    cases v<;>rfl
inductive V where
 | non|bl (b:Bool)|int (i:Int)|str (x:Str)|byt (b:Array UInt8)|flt (b:UInt64)|ref (a:Addr)|ty (n:String)
 deriving DecidableEq
def RelV:V->Value->Prop
 | .non,u=>u=Value.none
 | .bl b,u=>u=Value.bool b
 | .int i,u=>∃ t,u=Value.int i t
 | .str x,u=>∃ t,u=Value.str x t
 | .byt b,u=>∃ t,u=Value.bytes b t
 | .flt b,u=>∃ t,u=Value.float b t
 | .ref a,u=>u=Value.ref a
 | .ty n,u=>u=Value.type n
abbrev Vals:List V->List Value->Prop:=Paired RelV
theorem Vals.length {xs:List V}{us:List Value}(r:Vals xs us):xs.length=us.length:=Paired.length r
theorem Vals.get:∀ {xs:List V} {us:List Value} {i:Nat} {x:V},Vals xs us->xs[i]?=some x->∃ u,us[i]?=some u/\RelV x u
 | _,_,_,_,.nil,e=>by simp at e
 | _,_,0,_,.cons r _,e=>by simp at e;subst e;exact ⟨_,rfl,r⟩
 | _,_,i+1,x,.cons _ t,e=>by
   obtain ⟨u,h1,h2⟩:=Vals.get (i:=i) (x:=x) t (by simpa using e)
   exact ⟨u,by simpa using h1,h2⟩
theorem Vals.set {x:V}{u:Value}(r:RelV x u):∀ {xs:List V} {us:List Value} (i:Nat),Vals xs us->Vals (xs.set i x) (us.set i u)
 | _,_,_,.nil=>.nil
 | _,_,0,.cons _ t=>.cons r t
 | _,_,i+1,.cons q t=>.cons q (Vals.set r i t)
theorem Vals.append:∀ {xs ys:List V} {us ws:List Value},Vals xs us->Vals ys ws->Vals (xs++ys) (us++ws)
 | _,_,_,_,.nil,s=>s
 | _,_,_,_,.cons r t,s=>.cons r (Vals.append t s)
theorem Vals.take:∀ {xs:List V} {us:List Value} (n:Nat),Vals xs us->Vals (xs.take n) (us.take n)
 | _,_,0,_=>.nil
 | _,_,_+1,.nil=>.nil
 | _,_,n+1,.cons r t=>.cons r (Vals.take n t)
theorem Vals.drop:∀ {xs:List V} {us:List Value} (n:Nat),Vals xs us->Vals (xs.drop n) (us.drop n)
 | _,_,0,r=>r
 | _,_,_+1,.nil=>.nil
 | _,_,n+1,.cons _ t=>Vals.drop n t
def Q0g:Option V->Option Value->Prop
 | some v,some u=>RelV v u
 | none,none=>True
 | _,_=>False
def KV {κ:Type}:List (κ×V)->List (κ×Value)->Prop:=Paired fun (p:κ×V) (q:κ×Value)=>p.1=q.1/\RelV p.2 q.2
def kV:Key->V
 | .inl i=>.int i
 | .inr x=>.str x
inductive HO where
 | lst (xs:List V)
 | tup (xs:List V)
 | dK (kvs:List (Key×V))|dT (kvs:List (List Key×V))
 | set (S:Int->Bool) (n:Nat)
 | ins (C dx:Addr) (fs:List (Str×V))
 | own (x:Addr)
 | xd (fs:List (Str×V))
 | met (f x:Addr)
 | rng (lo hi:Int)
 | frz (o:Obj) (u:HO)
 | tbl (ps:Array Value)
 | cod (q:Str)
 | ext (φ:Heap->Prop)
abbrev Hp:=Addr->Option HO
def upd (H:Hp)(a:Addr)(o:HO):Hp:=fun b=>if b=a then some o else H b
theorem AA {H:Hp}{a:Addr}{o:HO}:upd H a o a=some o:=by unfold upd;rw [if_pos rfl]
theorem V1 {H:Hp}{a b:Addr}{o:HO}(h:b≠a):upd H a o b=H b:=by unfold upd;rw [if_neg h]
theorem ZX {H:Hp}{a b:Addr}{o u:HO}(h:H a=some o)(h':H b=some u)(d:o≠u):a≠b:=by
 intro e;subst e;rw [h] at h';exact d (Option.some.inj h')
theorem V3 {H:Hp}{a b:Addr}{o:HO}(h:H a=some o)(h':H b=none):a≠b:=by
 intro e;subst e;rw [h] at h';cases h'
section
variable (P:Program) (w:World)
def ObjOk (H:Hp)(h:Heap)(a:Addr):HO->Prop
 | .lst xs=>xs.length<=sizeLine/\∃ (its:List Value) (n:Nat),Vals xs its/\h.get? a=some { cls:=.type "list",data:=.seq its.toArray n }
 | .tup xs=>xs.length<=sizeLine/\∃ its:List Value,Vals xs its/\IsTup h a its.toArray
 | .dK kvs=>kvs.length<=sizeLine/\(a==sysModules)=false/\∃ vs,KV kvs vs/\h.DictOf (PJ P w) a vs
 | .dT kvs=>kvs.length<=sizeLine/\(a==sysModules)=false/\∃ xs:List (List Key×Addr×Value),
  Paired (fun (p:List Key×V) (q:List Key×Addr×Value)=>p.1=q.1/\H q.2.1=some (.tup (p.1.map kV))/\RelV p.2 q.2.2) kvs xs /\
  ∃ o es ep,h.get? a=some o/\o.ExactDict/\o.data=.dict es ep/\es.toList=xs.map (entryOfKey (tupleKind (PJ P w)))/\(xs.map (·.1)).Nodup
 | .set S n=>h.SetOf (intKind P w) a S n
 | .ins C dx fs=>H dx=some (.own a)/\fs.length<=1000/\dx≠a/\h.get? a=some (PySem.W.instObj C dx) /\
  ∃ mA,h.Ns1 dx mA/\(∀ f,Q0g (fs.lookup f) (mA f))/\PySem.Within mA (fs.map (·.1))
 | .own _=>∃ o,h.get? a=some o
 | .xd fs=>∃ mA,h.Ns1 a mA/\∀ f,Q0g (fs.lookup f) (mA f)
 | .rng lo hi=>∃ t u v,h.get? a=some { cls:=.type "range",data:=.fields #[.int lo t,.int hi u,.int 1 v] }
 | .frz o u=>h.get? a=some o/\ObjOk H h a u
 | .tbl ps=>h.get? a=some { cls:=.none,data:=.fields ps }
 | .met f x=>h.get? a=some (PySem.W.methodObj (.ref f) (.ref x))
 | .cod q=>∃ ps:Array Value,h.get? a=some { cls:=.none,data:=.fields ps }/\TriplesOk ps.toList/\∀ pos cv,codeAmong pos ps.toList=some cv->∃ (c':Addr) (oc:Obj) (vs:Array Value) (t:Tok),cv=.ref c'/\H c'=some (.frz oc (.own 0))/\oc.data=.fields vs/\vs[1]?=some (.str q t)
 | .ext φ=>φ h/\(∃ o,h.get? a=some o)/\∀ h1 h2:Heap,φ h1->(∀ o,h1.get? a=some o->h2.get? a=some o)->φ h2
def HOk (H:Hp)(h:Heap):Prop:=∀ a o,H a=some o->ObjOk P w H h a o
end
section
variable {P:Program}{w:World}{H H':Hp}{h h':Heap}{a:Addr}{o:HO}
theorem ObjOk.lt (x:ObjOk P w H h a o):a<h.objs.size:=by
 cases o with
 | lst xs=>obtain ⟨_,_,_,_,e⟩:=x;exact Heap.lt_size e
 | tup xs=>obtain ⟨_,_,_,p⟩:=x;exact p.lt
 | dK kvs=>obtain ⟨_,_,_,_,o,_,_,e,_⟩:=x;exact Heap.lt_size e
 | dT kvs=>obtain ⟨_,_,_,_,o,_,_,e,_⟩:=x;exact Heap.lt_size e
 | set S n=>obtain ⟨o,_,_,_,e,_⟩:=x;exact Heap.lt_size e
 | ins C dx fs=>obtain ⟨_,_,_,e,_⟩:=x;exact Heap.lt_size e
 | own y=>obtain ⟨_,e⟩:=x;exact Heap.lt_size e
 | xd fs=>obtain ⟨_,⟨_,_,_,e,_⟩,_⟩:=x;exact Heap.lt_size e
 | rng lo hi=>obtain ⟨_,_,_,e⟩:=x;exact Heap.lt_size e
 | frz ob u=>obtain ⟨e,_⟩:=x;exact Heap.lt_size e
 | tbl ps=>exact Heap.lt_size (show h.get? a=some _ from x)
 | met f y=>exact Heap.lt_size (show h.get? a=some _ from x)
 | cod q=>obtain ⟨_,e,_⟩:=x;exact Heap.lt_size e
 | ext φ=>obtain ⟨_,⟨_,e⟩,_⟩:=x;exact Heap.lt_size e
theorem Paired.mapP {α β:Type}{F G:α->β->Prop}:∀ {l₁:List α} {l₂:List β},Paired F l₁ l₂->(∀ a b,F a b->G a b)->Paired G l₁ l₂
 | _,_,.nil,_=>.nil
 | _,_,.cons r t,f=>.cons (f _ _ r) (Paired.mapP t f)
theorem ObjOk.stay (x:ObjOk P w H h a o)(k:∀ b u,(b=a\/H b=some (.own a))->h.get? b=some u->h'.get? b=some u)
 (ho:∀ b,H b=some (.own a)->H' b=some (.own a)) (ht:∀ b xs,H b=some (.tup xs)->H' b=some (.tup xs)) (hz:∀ b ob u,H b=some (.frz ob u)->H' b=some (.frz ob u):=by first|exact fun _ _ _ q=>q|(intro c ob uz q;rw [L2.V1 (L2.V3 q (by assumption))];exact q)):ObjOk P w H' h' a o:=by
 induction o with
 | lst xs=>obtain ⟨z,its,n,r,e⟩:=x;exact ⟨z,its,n,r,k _ _ (.inl rfl) e⟩
 | tup xs=>obtain ⟨z,its,r,ob,e,c⟩:=x;exact ⟨z,its,r,ob,k _ _ (.inl rfl) e,c⟩
 | dK kvs=>obtain ⟨z,y,vs,r,ob,es,ep,e,c⟩:=x;exact ⟨z,y,vs,r,ob,es,ep,k _ _ (.inl rfl) e,c⟩
 | dT kvs =>
   obtain ⟨z,y,xs,r,ob,es,ep,e,c⟩:=x
   exact ⟨z,y,xs,Paired.mapP r fun p q z=>⟨z.1,ht _ _ z.2.1,z.2.2⟩,ob,es,ep,k _ _ (.inl rfl) e,c⟩
 | set S n=>obtain ⟨ob,es,ep,t,e,c⟩:=x;exact ⟨ob,es,ep,t,k _ _ (.inl rfl) e,c⟩
 | ins C dx fs =>
   obtain ⟨d,z,ne,e,mA,⟨od,es,ep,e2,c⟩,r⟩:=x
   exact ⟨ho _ d,z,ne,k _ _ (.inl rfl) e,mA,⟨od,es,ep,k _ _ (.inr d) e2,c⟩,r⟩
 | own y=>obtain ⟨ob,e⟩:=x;exact ⟨ob,k _ _ (.inl rfl) e⟩
 | xd fs=>obtain ⟨mA,⟨od,es,ep,e,c⟩,r⟩:=x;exact ⟨mA,⟨od,es,ep,k _ _ (.inl rfl) e,c⟩,r⟩
 | rng lo hi=>obtain ⟨t,u,v,e⟩:=x;exact ⟨t,u,v,k _ _ (.inl rfl) e⟩
 | frz ob u ih=>obtain ⟨e,q⟩:=x;exact ⟨k _ _ (.inl rfl) e,ih q⟩
 | tbl ps =>
   have e:h.get? a=some { cls:=.none,data:=.fields ps }:=x
   show h'.get? a=some { cls:=.none,data:=.fields ps }
   exact k a _ (.inl rfl) e
 | met f y =>
   have e:h.get? a=some (PySem.W.methodObj (.ref f) (.ref y)):=x
   show h'.get? a=some (PySem.W.methodObj (.ref f) (.ref y))
   exact k a _ (.inl rfl) e
 | cod q=>obtain ⟨ps,e,t,r⟩:=x;exact ⟨ps,k _ _ (.inl rfl) e,t,fun pos cv hc=>let ⟨c',oc,vs,tt,z1,z2,z3⟩:=r pos cv hc;⟨c',oc,vs,tt,z1,hz _ _ _ z2,z3⟩⟩
 | ext φ=>obtain ⟨p,⟨o,e⟩,st⟩:=x;exact ⟨st _ _ p fun o q=>k _ _ (.inl rfl) q,⟨o,k _ _ (.inl rfl) e⟩,st⟩
theorem HOk.lt (x:HOk P w H h)(e:H a=some o):a<h.objs.size:=(x a o e).lt
theorem HOk.fresh (x:HOk P w H h)(e:h.objs.size<=a):H a=none:=by
 cases q:H a with
 | none=>rfl
 | some u=>exact absurd (Nat.lt_of_lt_of_le (x.lt q) e) (Nat.lt_irrefl _)
theorem HOk.kept (x:HOk P w H h)(k:∀ b u,h.get? b=some u->h'.get? b=some u):HOk P w H h':=fun a o e =>
 (x a o e).stay (fun b u _ q=>k b u q) (fun _ q=>q) fun _ _ q=>q
theorem HOk.laid (x:HOk P w H h)(k:∀ b u,h.get? b=some u->h'.get? b=some u)(hp:h.objs.size<=a)(new:ObjOk P w (upd H a o) h' a o):HOk P w (upd H a o) h':=fun b u e=>by
 have hn:=x.fresh hp
 by_cases hb:b=a
 · subst hb;rw [AA] at e;cases e;exact new
 · rw [V1 hb] at e
   exact (x b u e).stay (fun c v _ q=>k c v q) (fun c q=>by rw [V1 (V3 q hn)];exact q) fun c xs q=>by rw [V1 (V3 q hn)];exact q
end
def Rd (H:Hp)(a:Addr)(u:HO):Prop:=H a=some u\/∃ o,H a=some (.frz o u)
theorem Rd.ok {w:World}{H:Hp}{h:Heap}{a:Addr}{u:HO}(r:Rd H a u)(x:HOk P w H h):ObjOk P w H h a u:=by
 rcases r with r|⟨o,r⟩
 · exact x a u r
 · obtain ⟨_,q⟩:=x a _ r
   exact q
def Mut:Option HO->Prop
 | some (.lst _)=>True
 | some (.dK _)=>True
 | some (.dT _)=>True
 | some (.set _ _)=>True
 | some (.ins _ _ _)=>True
 | some (.ext _)=>True
 | _=>False
section
variable {P:Program}{w:World}{H:Hp}{h h':Heap}{x e:Addr}{o':HO}
theorem HOk.write (ok:HOk P w H h)(mu:Mut (H x))(he:e=x\/H e=some (.own x))(k:∀ b u,b≠e->h.get? b=some u->h'.get? b=some u)(heo:∃ u,h'.get? e=some u)
 (new:ObjOk P w (upd H x o') h' x o'):HOk P w (upd H x o') h':=fun b u q=>by
 have nown:∀ c y,H c=some (.own y)->c≠x:=fun c y r z=>by subst z;rw [r] at mu;exact mu
 have ntup:∀ c xs,H c=some (.tup xs)->c≠x:=fun c xs r z=>by subst z;rw [r] at mu;exact mu
 have nfrz:∀ c ob uz,H c=some (.frz ob uz)->c≠x:=fun c ob uz r z=>by subst z;rw [r] at mu;exact mu
 by_cases hb:b=x
 · subst hb;rw [AA] at q;cases q;exact new
 · rw [V1 hb] at q
   by_cases hbe:b=e
   · have q':H b=some (.own x):=by
      rcases he with z|z
      · exact absurd (hbe.trans z) hb
      · rw [hbe];exact z
     rw [q] at q';cases q'
     obtain ⟨v,hv⟩:=heo
     exact ⟨v,by rw [hbe];exact hv⟩
   · refine (ok b u q).stay (fun c v hc r=>k c v ?_ r) (fun c r=>by rw [V1 (nown c b r)];exact r) (fun c xs r=>by rw [V1 (ntup c xs r)];exact r) fun c ob uz r=>by rw [V1 (nfrz c ob uz r)];exact r
     rcases hc with rfl|hc
     · exact hbe
     · rintro rfl
       rcases he with z|z
       · exact nown c b hc z
       · rw [hc] at z;cases z;exact hb rfl
end
structure Un (fs ex:List Addr)(H H':Hp)(h h':Heap):Prop where
 keep:∀ b o,h.get? b=some o->H b=none->b∉fs->b∉ex->h'.get? b=some o
 slot:∀ b o,h.get? b=some o->H b=none->b∈fs->b∉ex->∃ sl,h'.get? b=some { o with slots:=sl }
 free:∀ b o,h.get? b=some o->H b=none->b∉ex->H' b=none
 there:∀ b o,h.get? b=some o->b∉ex->∃ o',h'.get? b=some o'
 tups:∀ b xs,H b=some (.tup xs)->H' b=some (.tup xs)
 frzs:∀ b o u,H b=some (.frz o u)->H' b=some (.frz o u)
 tbls:∀ b ps,H b=some (.tbl ps)->∃ more,H' b=some (.tbl (ps++more))
section
variable {fs ex:List Addr}{H H1:Hp}{h h1 h':Heap}{a x e:Addr}{o:HO}
theorem Un.any (u:Un fs ex H H1 h h1){b:Addr}{ob:Obj}(q:h.get? b=some ob)(n:H b=none)(hx:b∉ex):∃ sl,h1.get? b=some { ob with slots:=sl }:=by
 by_cases hb:b∈fs
 · exact u.slot b ob q n hb hx
 · exact ⟨ob.slots,u.keep b ob q n hb hx⟩
theorem Un.kept (k:∀ b u,h.get? b=some u->h'.get? b=some u):Un fs ex H H h h' :=
 ⟨fun b ob q _ _ _=>k b ob q,fun b ob q _ _ _=>⟨ob.slots,k b ob q⟩,fun _ _ _ n _=>n,fun b ob q _=>⟨ob,k b ob q⟩,fun _ _ q=>q,fun _ _ _ q=>q,fun _ ps q=>⟨#[],by rw [q];simp⟩⟩
theorem Un.refl:Un fs ex H H h h:=Un.kept fun _ _ q=>q
theorem Un.laid (k:∀ b u,h.get? b=some u->h'.get? b=some u)(hp:h.objs.size<=a)(hn:H a=none):Un fs ex H (upd H a o) h h' where
 keep:=fun b u q _ _ _=>k b u q
 slot:=fun b u q _ _ _=>⟨u.slots,k b u q⟩
 free:=fun b u q n _=>by rw [V1 (Nat.ne_of_lt (Nat.lt_of_lt_of_le (Heap.lt_size q) hp))];exact n
 there:=fun b u q _=>⟨u,k b u q⟩
 tups:=fun b xs q=>by rw [V1 (V3 q hn)];exact q
 frzs:=fun b u xs q=>by rw [V1 (V3 q hn)];exact q
 tbls:=fun b ps q=>⟨#[],by rw [V1 (V3 q hn),q];simp⟩
theorem Un.write (mu:Mut (H x))(he:e=x\/H e=some (.own x))(k:∀ b u,b≠e->h.get? b=some u->h'.get? b=some u)(heo:∃ u,h'.get? e=some u):Un fs ex H (upd H x o) h h':=by
 have hx:∀ b,H b=none->b≠x:=fun b n z=>by subst z;rw [n] at mu;exact mu
 have hb:∀ b,H b=none->b≠e:=fun b n z=>by
  subst z
  rcases he with r|r
  · exact hx b n r
  · rw [n] at r;cases r
 have hm:∀ b u,H b=some u->¬ Mut (some u)->b≠x:=fun b u q nm z=>by subst z;rw [q] at mu;exact nm mu
 refine ⟨fun b u q n _ _=>k b u (hb b n) q,fun b u q n _ _=>⟨u.slots,k b u (hb b n) q⟩,fun b u q n _=>by rw [V1 (hx b n)];exact n,fun b u q _=>?_,
  fun b xs q=>by rw [V1 (hm b _ q fun z=>z)];exact q,fun b u xs q=>by rw [V1 (hm b _ q fun z=>z)];exact q,fun b ps q=>⟨#[],by rw [V1 (hm b _ q fun z=>z),q];simp⟩⟩
 by_cases hbe:b=e
 · subst hbe;exact heo
 · exact ⟨u,k b u hbe q⟩
end
def trk (h:Heap)(H:Hp):List Addr:=(List.range h.objs.size).filter fun a=>(H a).isSome
def PU (h:Heap)(H:Hp):Heap:=PySem.W.hideAll h (trk h H)
theorem XQ (h:Heap)(H:Hp):(PU h H).objs.size=h.objs.size:=PySem.W.hideAll_size _ _
theorem J0m {h:Heap}{H:Hp}{b:Addr}{o:Obj}(e:h.get? b=some o)(n:H b=none):(PU h H).get? b=some o :=
 PySem.W.hideAll_get _ e fun hm=>by
  have q:(H b).isSome=true:=(List.mem_filter.mp hm).2
  rw [n] at q;simp at q
theorem J3s {h:Heap}{H:Hp}{b:Addr}{o:Obj}(e:(PU h H).get? b=some o):h.get? b=some o/\H b=none:=by
 have e':h.get? b=some o:=PySem.W.of_hideAll (trk h H) e
 refine ⟨e',?_⟩
 cases q:H b with
 | none=>rfl
 | some x =>
   have hm:b∈trk h H:=List.mem_filter.mpr ⟨List.mem_range.mpr (Heap.lt_size e'),by simp [q]⟩
   have z:(PU h H).get? b=none:=PySem.W.hideAll_none (trk h H) hm
   rw [z] at e;cases e
def J5i (g h:Heap)(L:Addr):List (Addr×Obj):=(List.range h.objs.size).filterMap fun a=>if a=L\/(g.get? a).isSome=true then none else (h.get? a).map fun o=>(a,o)
def rest (g h:Heap)(L d:Addr):List (Addr×Obj):=(J5i g h L).filter fun p=>decide (p.1≠d)
structure Mod (K:Fg)(mg:Str->Option Value)(base:Heap):Prop where
 kin:K.In base
 glob:base.Ns mainGlobals mg
 blt:∃ mb,base.Ns builtinsNs mb/\∀ x:Str,x≠"__name__"->mb x=bootBuiltins x
 nolimit:base.NoLimit
structure Cx where
 prog:Program
 w:World
 K:Fg
 mg:Str->Option Value
 base:Heap
 A:Around
 N:List Str
 s₀:Shared
 H₀:Hp
 env:Env
 outer:List Env
 stack:List Env
 ex:List Addr
 fn:Str->Bool
 calm:Bool
 pn:List (Addr×Obj)
 xe:Value->Shared->Prop
def frs (l:List Env):List Addr:=l.filterMap (·.frame)
abbrev Cx.fs (X:Cx):List Addr:=frs X.outer
def Vis (sc:Scope)(x:Str):Prop:=sc.names.lookup x=some .local\/sc.names.lookup x=some .cell\/sc.names.lookup x=some .free
def Loc (sc:Scope)(x:Str):Prop:=sc.names.lookup x=some .local\/sc.names.lookup x=some .cell
def Q3m (env:Env)(h:Heap)(m:Str->Option Value)(x:Str)(u:Value):Prop :=
 (env.kindOf x=some .local/\m x=some u)\/((env.kindOf x=some .cell\/env.kindOf x=some .free)/\∃ c,env.cells.lookup x=some c/\h.IsCell c (some u))
structure Cx.Ok (X:Cx):Prop where
 mod:Mod X.K X.mg X.base
 kind:X.env.scope.kind=.function
 glob:X.env.globals=mainGlobals
 blt:X.env.builtins=builtinsNs
 above:X.s₀.heap.objs.size<=X.env.locals
 inj:∀ x y c,X.env.cells.lookup x=some c->X.env.cells.lookup y=some c->x=y
 has:∀ x,(X.env.kindOf x=some .cell\/X.env.kindOf x=some .free)->∃ c,X.env.cells.lookup x=some c
 cab:∀ x c,X.fn x=true->X.env.cells.lookup x=some c->X.s₀.heap.objs.size<=c
 hd:X.calm=true->X.A.handled=none
 frames:X.A.frames=some X.stack
 stk:X.stack=X.outer\/(X.stack=X.env::X.outer/\X.env.frame=some X.env.locals)
 exf:∀ b∈X.ex,b≠X.env.locals/\∀ x c,X.env.cells.lookup x=some c->c≠b
 bs:∀ b o,X.base.get? b=some o->X.s₀.heap.get? b=some o/\X.H₀ b=none
 bsz:X.base.objs.size<=X.s₀.heap.objs.size
 noex:∀ b o,X.base.get? b=some o->b∉X.ex
 exfs:∀ b∈X.ex,b∉X.fs
 funs:X.s₀.heap.FunFrames X.base X.outer
 frf:∀ b∈X.fs,X.H₀ b=none
structure Inv (X:Cx)(pins:List (Addr×Obj))(σ:List (Option V))(H:Hp)(s:Shared):Prop where
 ok:X.Ok
 os:s.os=X.s₀.os
 bare:AllBare s.gens
 base:Un X.fs X.ex X.H₀ H X.s₀.heap s.heap
 loc:∃ m,s.heap.Ns X.env.locals m/\∀ (i:Nat) (x:Str) (v:V),X.N[i]?=some x->σ[i]?=some (some v)->Vis X.env.scope x->∃ u,RelV v u/\Q3m X.env s.heap m x u
 cell:∀ x c,X.env.cells.lookup x=some c->∃ v,s.heap.IsCell c v
 free:H X.env.locals=none
 freeC:∀ x c,X.env.cells.lookup x=some c->H c=none
 pin:∀ p∈X.pn++pins,s.heap.get? p.1=some p.2/\H p.1=none/\p.1≠X.env.locals/\p.1∉X.fs/\∀ v,p.2.data≠.cell v
 hok:HOk X.prog X.w H s.heap
 len:σ.length=X.N.length
section
variable {X:Cx}{pins:List (Addr×Obj)}{σ:List (Option V)}{H H':Hp}{s:Shared}{h':Heap}
theorem Cx.Ok.nofr (ok:X.Ok){b:Addr}{o:Obj}(e:X.base.get? b=some o):b∉X.fs:=fun hb=>by
 have:=(ok.funs.mem hb).1
 rw [e] at this;cases this
theorem Inv.bs (I:Inv X pins σ H s):∀ b o,X.base.get? b=some o->s.heap.get? b=some o/\H b=none:=fun b o e =>
 ⟨I.base.keep b o (I.ok.bs b o e).1 (I.ok.bs b o e).2 (I.ok.nofr e) (I.ok.noex b o e),I.base.free b o (I.ok.bs b o e).1 (I.ok.bs b o e).2 (I.ok.noex b o e)⟩
theorem Inv.bk (I:Inv X pins σ H s):∀ b o,X.base.get? b=some o->s.heap.get? b=some o:=fun b o e=>(I.bs b o e).1
theorem Inv.mod (I:Inv X pins σ H s):Mod X.K X.mg X.base:=I.ok.mod
theorem Inv.kIn (I:Inv X pins σ H s):X.K.In s.heap:=I.ok.mod.kin.keeps I.bk
theorem Inv.lt (I:Inv X pins σ H s):X.env.locals<s.heap.objs.size:=let ⟨_,hn,_⟩:=I.loc;hn.lt
theorem Inv.sz (I:Inv X pins σ H s):X.s₀.heap.objs.size<=s.heap.objs.size:=Nat.le_trans I.ok.above (Nat.le_of_lt I.lt)
theorem Inv.nofs (I:Inv X pins σ H s){a:Addr}(h:s.heap.objs.size<=a):a∉X.fs:=fun hb=>by
 obtain ⟨_,o,ho,_⟩:=I.ok.funs.mem hb
 exact absurd (Nat.lt_of_lt_of_le (Heap.lt_size ho) (Nat.le_trans I.sz h)) (Nat.lt_irrefl _)
theorem Inv.cne (I:Inv X pins σ H s):∀ x c,X.env.cells.lookup x=some c->c≠X.env.locals:=fun x c e z=>by
 obtain ⟨v,o,ho,hd⟩:=I.cell x c e
 obtain ⟨m,⟨o',es,ep,ho',hd',_⟩,_⟩:=I.loc
 rw [z,ho'] at ho;cases ho;rw [hd'] at hd;cases hd
theorem Inv.funs (I:Inv X pins σ H s):s.heap.FunFrames X.base X.outer:=by
 have all:∀ (l:List Env),(∀ b∈frs l,b∈X.fs)->X.s₀.heap.FunFrames X.base l->s.heap.FunFrames X.base l:=by
  intro l
  induction l with
  | nil=>intro _ _;trivial
  | cons env r ih =>
    intro hs hl
    obtain ⟨hk,⟨L,o,hf,hn,ho,hd⟩,hr⟩:=hl
    have hL:L∈X.fs:=hs L (by unfold frs;rw [List.filterMap_cons,hf];exact List.mem_cons_self)
    obtain ⟨sl,e⟩:=I.base.slot L o ho (I.ok.frf L hL) hL fun z=>I.ok.exfs L z hL
    exact ⟨hk,⟨L,_,hf,hn,e,hd⟩,ih (fun b hb=>hs b (by unfold frs;rw [List.filterMap_cons,hf];exact List.mem_cons_of_mem _ hb)) hr⟩
 exact all X.outer (fun _ hb=>hb) I.ok.funs
theorem Inv.stack (I:Inv X pins σ H s):s.heap.FunFrames X.base X.stack:=by
 rcases I.ok.stk with e|⟨e,hf⟩
 · rw [e];exact I.funs
 · rw [e]
   obtain ⟨m,hn,_⟩:=I.loc
   refine .cons (by rw [I.ok.kind];decide) hf hn ?_ I.funs
   exact Heap.get?_none_of_le (Nat.le_trans I.ok.bsz I.ok.above)
theorem Inv.stkSub (I:Inv X pins σ H s):∀ b∈frs X.stack,b∈X.env.locals::X.fs:=fun b hb=>by
 rcases I.ok.stk with e|⟨e,hf⟩
 · rw [e] at hb;exact List.mem_cons_of_mem _ hb
 · rw [e] at hb
   unfold frs at hb
   rw [List.filterMap_cons,hf] at hb
   exact hb
theorem Inv.stkFree (I:Inv X pins σ H s):∀ b∈frs X.stack,H b=none:=fun b hb=>by
 rcases List.mem_cons.mp (I.stkSub b hb) with e|hb
 · rw [e];exact I.free
 · obtain ⟨_,o,ho,_⟩:=I.ok.funs.mem hb
   exact I.base.free b o ho (I.ok.frf b hb) fun z=>I.ok.exfs b z hb
theorem Inv.step {g':Array GenState}{t':Nat}{d':Drawn}{ch:List Addr}(I:Inv X pins σ H s)
 (hch:∀ b∈ch,(b∈X.ex\/X.s₀.heap.objs.size<=b)/\b≠X.env.locals/\(∀ x c,X.env.cells.lookup x=some c->c≠b)/\∀ p∈X.pn++pins,p.1≠b)
 (keep:∀ b o,b≠X.env.locals->b∉X.fs->b∉ch->s.heap.get? b=some o->H b=none->h'.get? b=some o)
 (slot:∀ b o,b≠X.env.locals->b∈X.fs->b∉ch->s.heap.get? b=some o->H b=none->∃ sl,h'.get? b=some { o with slots:=sl }) (free:∀ b o,b∉ch->s.heap.get? b=some o->H b=none->H' b=none)
 (there:∀ b o,b∉ch->s.heap.get? b=some o->∃ o',h'.get? b=some o')
 (tups:∀ b xs,H b=some (.tup xs)->H' b=some (.tup xs)) (frzs:∀ b o u,H b=some (.frz o u)->H' b=some (.frz o u)) (tbls:∀ b ps,H b=some (.tbl ps)->∃ more,H' b=some (.tbl (ps++more)))
 (ns:∀ m,s.heap.Ns X.env.locals m->h'.Ns X.env.locals m) (hok:HOk X.prog X.w H' h') (hg:AllBare g') :
 Inv X pins σ H' { s with heap:=h',gens:=g',drawn:=d',toks:=t' }:=by
 have neL:∀ b o,X.s₀.heap.get? b=some o->b≠X.env.locals:=fun b o e=>Nat.ne_of_lt (Nat.lt_of_lt_of_le (Heap.lt_size e) I.ok.above)
 have neC:∀ b o,X.s₀.heap.get? b=some o->b∉X.ex->b∉ch:=fun b o e hx hb=>by
  rcases (hch b hb).1 with z|z
  · exact hx z
  · exact absurd (Nat.lt_of_lt_of_le (Heap.lt_size e) z) (Nat.lt_irrefl _)
 have cellK:∀ x c,X.env.cells.lookup x=some c->∀ v,s.heap.IsCell c v->h'.IsCell c v:=fun x c e v ⟨o,ho,hd⟩=>by
  have nch:c∉ch:=fun z=>(hch c z).2.2.1 x c e rfl
  by_cases hc:c∈X.fs
  · obtain ⟨sl,q⟩:=slot c o (I.cne x c e) hc nch ho (I.freeC x c e)
    exact ⟨_,q,hd⟩
  · exact ⟨o,keep c o (I.cne x c e) hc nch ho (I.freeC x c e),hd⟩
 refine ⟨I.ok,I.os,hg,⟨fun b o e n hb hx=>?_,fun b o e n hb hx=>?_,fun b o e n hx=>?_,fun b o e hx=>?_,fun b xs e=>tups b xs (I.base.tups b xs e),fun b o xs e=>frzs b o xs (I.base.frzs b o xs e),fun b ps e=>?_⟩,?_,fun x c e=>?_,?_,fun x c e=>?_,fun p hp=>?_,hok,I.len⟩
 · exact keep b o (neL b o e) hb (neC b o e hx) (I.base.keep b o e n hb hx) (I.base.free b o e n hx)
 · obtain ⟨sl,e1⟩:=I.base.slot b o e n hb hx
   obtain ⟨sl',e2⟩:=slot b _ (neL b o e) hb (neC b o e hx) e1 (I.base.free b o e n hx)
   exact ⟨sl',e2⟩
 · obtain ⟨o',e1⟩:=I.base.there b o e hx
   exact free b o' (neC b o e hx) e1 (I.base.free b o e n hx)
 · obtain ⟨o',e1⟩:=I.base.there b o e hx
   exact there b o' (neC b o e hx) e1
 · obtain ⟨m1,e1⟩:=I.base.tbls b ps e
   obtain ⟨m2,e2⟩:=tbls b _ e1
   exact ⟨m1++m2,by rw [e2,Array.append_assoc]⟩
 · obtain ⟨m,hn,hl⟩:=I.loc
   refine ⟨m,ns m hn,fun i x v e1 e2 e3=>?_⟩
   obtain ⟨u,r,l⟩:=hl i x v e1 e2 e3
   refine ⟨u,r,?_⟩
   rcases l with l|⟨k,c,e,z⟩
   · exact .inl l
   · exact .inr ⟨k,c,e,cellK x c e _ z⟩
 · obtain ⟨v,z⟩:=I.cell x c e
   exact ⟨v,cellK x c e v z⟩
 · obtain ⟨m,⟨o,_,_,ho,_⟩,_⟩:=I.loc
   exact free _ o (fun z=>(hch _ z).2.1 rfl) ho I.free
 · obtain ⟨v,o,ho,hd⟩:=I.cell x c e
   exact free c o (fun z=>(hch c z).2.2.1 x c e rfl) ho (I.freeC x c e)
 · obtain ⟨e,n,ne,nf,d⟩:=I.pin p hp
   have nch:p.1∉ch:=fun z=>(hch p.1 z).2.2.2 p hp rfl
   exact ⟨keep p.1 p.2 ne nf nch e n,free p.1 p.2 nch e n,ne,nf,d⟩
theorem Inv.un {t':Nat}(I:Inv X pins σ H s)(u:Un X.fs [] H H' s.heap h')(hok:HOk X.prog X.w H' h'):Inv X pins σ H' { s with heap:=h',toks:=t' }:=by
 obtain ⟨m,⟨o,es,ep,ho,r⟩,_⟩:=id I.loc
 obtain ⟨sl,hL⟩:=u.any ho I.free (by simp)
 exact I.step (g':=s.gens) (d':=s.drawn) (ch:=[]) (fun _ z=>nomatch z) (fun b o _ hb _ e n=>u.keep b o e n hb (by simp)) (fun b o _ hb _ e n=>u.slot b o e n hb (by simp)) (fun b o _ e n=>u.free b o e n (by simp)) (fun b o _ e=>u.there b o e (by simp)) u.tups u.frzs u.tbls (fun m' hm=>by
  obtain ⟨o',es',ep',ho',r'⟩:=hm
  rw [ho] at ho';cases ho'
  exact ⟨_,es',ep',hL,r'⟩) hok I.bare
theorem Inv.call {g':Array GenState}{t':Nat}{d':Drawn}{ch:List Addr}(I:Inv X pins σ H s)(u:Un (frs X.stack) ch H H' s.heap h')(hok:HOk X.prog X.w H' h')(hg:AllBare g')
 (hch:∀ b∈ch,(b∈X.ex\/X.s₀.heap.objs.size<=b)/\b≠X.env.locals/\(∀ x c,X.env.cells.lookup x=some c->c≠b)/\∀ p∈X.pn++pins,p.1≠b) :
 Inv X pins σ H' { s with heap:=h',gens:=g',drawn:=d',toks:=t' }:=by
 obtain ⟨m,⟨o,es,ep,ho,r⟩,_⟩:=id I.loc
 obtain ⟨sl,hL⟩:=u.any ho I.free fun z=>(hch _ z).2.1 rfl
 exact I.step (ch:=ch) hch (fun b o hL hb hc e n=>u.keep b o e n (fun z=>(List.mem_cons.mp (I.stkSub b z)).elim hL hb) hc) (fun b o _ _ hc e n=>u.any e n hc) (fun b o hc e n=>u.free b o e n hc) (fun b o hc e=>u.there b o e hc) u.tups u.frzs u.tbls (fun m' hm=>by
  obtain ⟨o',es',ep',ho',r'⟩:=hm
  rw [ho] at ho';cases ho'
  exact ⟨_,es',ep',hL,r'⟩) hok hg
theorem Inv.turned {t':Nat}{it:Addr}(I:Inv X pins σ H s)(k:∀ b o,b≠it->s.heap.get? b=some o->h'.get? b=some o)(hn:H it=none)(hL:it≠X.env.locals)
 (h1:it∈X.ex\/X.s₀.heap.objs.size<=it) (h2:∀ x c,X.env.cells.lookup x=some c->c≠it) (h3:∀ p∈X.pn++pins,p.1≠it):Inv X pins σ H { s with heap:=h',toks:=t' }:=by
 have nit:∀ b u,H b=some u->b≠it:=fun b u e z=>by rw [z,hn] at e;cases e
 refine I.step (g':=s.gens) (d':=s.drawn) (ch:=[it]) (fun b hb=>?_) (fun b o _ _ hc e _=>k b o (fun z=>hc (by simp [z])) e) (fun b o _ _ hc e _=>⟨o.slots,k b o (fun z=>hc (by simp [z])) e⟩) (fun _ _ _ _ n=>n)
  (fun b o hc e=>⟨o,k b o (fun z=>hc (by simp [z])) e⟩) (fun _ _ e=>e) (fun _ _ _ e=>e) (fun b ps e=>⟨#[],by rw [e];simp⟩) (fun m hm=>?_) (fun b u e=>?_) I.bare
 · have e:b=it:=by simpa using hb
   subst e
   exact ⟨h1,hL,h2,h3⟩
 · obtain ⟨o,es,ep,ho,r⟩:=hm
   exact ⟨o,es,ep,k _ o (Ne.symm hL) ho,r⟩
 · refine (I.hok b u e).stay (fun c v hc q=>k c v ?_ q) (fun _ q=>q) fun _ _ q=>q
   rcases hc with z|z
   · rw [z];exact nit b u e
   · exact nit c _ z
theorem Inv.tok (I:Inv X pins σ H s)(t:Nat):Inv X pins σ H { s with toks:=t }:=I.un (h':=s.heap) (t':=t) Un.refl I.hok
theorem Inv.kept {t':Nat}(I:Inv X pins σ H s)(k:∀ b u,s.heap.get? b=some u->h'.get? b=some u):Inv X pins σ H { s with heap:=h',toks:=t' }:=I.un (Un.kept k) (I.hok.kept k)
theorem Inv.laid {a:Addr}{o:HO}{t':Nat}(I:Inv X pins σ H s)(k:∀ b u,s.heap.get? b=some u->h'.get? b=some u)(hp:s.heap.objs.size<=a)(new:ObjOk X.prog X.w (upd H a o) h' a o) :
 Inv X pins σ (upd H a o) { s with heap:=h',toks:=t' }:=I.un (Un.laid k hp (I.hok.fresh hp)) (I.hok.laid k hp new)
theorem Inv.write {x e:Addr}{o:HO}{t':Nat}(I:Inv X pins σ H s)(mu:Mut (H x))(he:e=x\/H e=some (.own x))(k:∀ b u,b≠e->s.heap.get? b=some u->h'.get? b=some u)(heo:∃ u,h'.get? e=some u)
 (new:ObjOk X.prog X.w (upd H x o) h' x o):Inv X pins σ (upd H x o) { s with heap:=h',toks:=t' }:=I.un (Un.write mu he k heo) (I.hok.write mu he k heo new)
theorem Inv.weak {σ':List (Option V)}(I:Inv X pins σ H s)(hl:σ'.length=σ.length)(w:∀ (i:Nat) v,σ'[i]?=some (some v)->σ[i]?=some (some v)):Inv X pins σ' H s :=
 ⟨I.ok,I.os,I.bare,I.base,let ⟨m,hn,hl'⟩:=I.loc;⟨m,hn,fun i x v e1 e2 e3=>hl' i x v e1 (w i v e2) e3⟩,I.cell,I.free,I.freeC,I.pin,I.hok,hl.trans I.len⟩
theorem Inv.pins_of {pins':List (Addr×Obj)}(I:Inv X pins σ H s)(h:∀ p∈pins',s.heap.get? p.1=some p.2/\H p.1=none/\p.1≠X.env.locals/\p.1∉X.fs/\∀ v,p.2.data≠.cell v):Inv X pins' σ H s :=
 ⟨I.ok,I.os,I.bare,I.base,I.loc,I.cell,I.free,I.freeC,fun p hp=>(List.mem_append.mp hp).elim (fun z=>I.pin p (List.mem_append_left _ z)) (h p),I.hok,I.len⟩
theorem RK {N:List Str}(hN:N.Nodup){i j:Nat}{x:Str}(a:N[i]?=some x)(b:N[j]?=some x):i=j:=by
 obtain ⟨h1,e1⟩:=List.getElem?_eq_some_iff.mp a
 obtain ⟨h2,e2⟩:=List.getElem?_eq_some_iff.mp b
 exact (List.getElem_inj hN).mp (e1.trans e2.symm)
theorem NL {M:Model}{A:Around}{E:Value->Shared->Prop}{i:Nat}{x:Str}{v:V}{u:Value}{Q:Unit->Shared->Prop}(I:Inv X pins σ H s)(hN:X.N.Nodup)(hi:X.N[i]?=some x)(hx:Loc X.env.scope x)(r:RelV v u)
 (h:∀ s',Inv X pins (σ.set i (some v)) H s'->(∃ a,Heap.SameBut a s.heap s'.heap/\(a=X.env.locals\/X.env.cells.lookup x=some a))->Q () s') (hf:X.fn x=true\/X.env.scope.names.lookup x=some .local:=by first|exact .inl rfl|exact .inr rfl|assumption):wpAny M A (storeName X.env x u) Q E s:=by
 obtain ⟨m,hn,hl⟩:=id I.loc
 have hcls:(X.env.scope.kind==.class||(X.env.scope.kind==.module&&X.env.locals != X.env.globals))=false:=by rw [I.ok.kind];rfl
 have hiσ:i<σ.length:=by rw [I.len];exact (List.getElem?_eq_some_iff.mp hi).1
 have cne:=I.cne
 have tracked:∀ {a:Addr} {h':Heap},(∃ o,s.heap.get? a=some o/\H a=none)->Heap.SameBut a s.heap h'->HOk X.prog X.w H h':=fun {a h'} ha hs b ob e=>by
  obtain ⟨_,_,hfree⟩:=ha
  refine (I.hok b ob e).stay (fun c w' hc q=>(hs.2 c ?_).trans q) (fun _ q=>q) fun _ _ q=>q
  rintro rfl
  rcases hc with rfl|hc
  · rw [hfree] at e;cases e
  · rw [hfree] at hc;cases hc
 rcases hx with hk|hk
 · refine wpAny_storeName_local hk hn (fun h' hn' hs=>?_) hcls
   obtain ⟨oL,_,_,hoL,_⟩:=id hn
   refine h _ ⟨I.ok,I.os,I.bare,⟨fun b o e n hb hx=>?_,fun b o e n hb hx=>?_,I.base.free,fun b o e hx=>?_,I.base.tups,I.base.frzs,I.base.tbls⟩,⟨_,hn',fun j y v' e1 e2 e3=>?_⟩,fun y c e=>?_,I.free,I.freeC,fun p hp=>?_,tracked ⟨oL,hoL,I.free⟩ hs,by simpa using I.len⟩ ⟨_,hs,.inl rfl⟩
   · exact (hs.2 b (Nat.ne_of_lt (Nat.lt_of_lt_of_le (Heap.lt_size e) I.ok.above))).trans (I.base.keep b o e n hb hx)
   · obtain ⟨sl,e1⟩:=I.base.slot b o e n hb hx
     exact ⟨sl,(hs.2 b (Nat.ne_of_lt (Nat.lt_of_lt_of_le (Heap.lt_size e) I.ok.above))).trans e1⟩
   · obtain ⟨o',e1⟩:=I.base.there b o e hx
     exact ⟨o',(hs.2 b (Nat.ne_of_lt (Nat.lt_of_lt_of_le (Heap.lt_size e) I.ok.above))).trans e1⟩
   · by_cases hj:j=i
     · subst hj
       rw [hi] at e1;cases e1
       rw [List.getElem?_set_self hiσ] at e2
       cases e2
       exact ⟨u,r,.inl ⟨hk,by simp⟩⟩
     · rw [List.getElem?_set_ne (Ne.symm hj)] at e2
       obtain ⟨u',r',q⟩:=hl j y v' e1 e2 e3
       refine ⟨u',r',?_⟩
       rcases q with ⟨k,e⟩|⟨k,c,e,z⟩
       · refine .inl ⟨k,?_⟩
         have:y≠x:=fun e=>hj (RK hN e1 (e▸hi))
         simp [this,e]
       · exact .inr ⟨k,c,e,z.sameBut hs (cne y c e)⟩
   · obtain ⟨w',z⟩:=I.cell y c e
     exact ⟨w',z.sameBut hs (cne y c e)⟩
   · obtain ⟨e,n,ne,nf,d⟩:=I.pin p hp
     exact ⟨(hs.2 p.1 ne).trans e,n,ne,nf,d⟩
 · have hfn:X.fn x=true:=by
    rcases hf with z|z
    · exact z
    · rw [z] at hk;cases hk
   obtain ⟨c,hc⟩:=I.ok.has x (.inl hk)
   obtain ⟨w',z⟩:=I.cell x c hc
   refine wpAny_storeName_cell I.ok.kind hk hc z (fun h' hc' hs=>?_)
   obtain ⟨oc,hoc,hocd⟩:=id z
   refine h { s with heap:=h' } ⟨I.ok,I.os,I.bare,⟨fun b o e n hb hx=>?_,fun b o e n hb hx=>?_,I.base.free,fun b o e hx=>?_,I.base.tups,I.base.frzs,I.base.tbls⟩,⟨m,hn.sameBut hs (Ne.symm (cne x c hc)),fun j y v' e1 e2 e3=>?_⟩,fun y c' e=>?_,I.free,I.freeC,fun p hp=>?_,tracked ⟨oc,hoc,I.freeC x c hc⟩ hs,by simpa using I.len⟩ ⟨c,hs,.inr hc⟩
   · exact (hs.2 b (Nat.ne_of_lt (Nat.lt_of_lt_of_le (Heap.lt_size e) (I.ok.cab x c hfn hc)))).trans (I.base.keep b o e n hb hx)
   · obtain ⟨sl,e1⟩:=I.base.slot b o e n hb hx
     exact ⟨sl,(hs.2 b (Nat.ne_of_lt (Nat.lt_of_lt_of_le (Heap.lt_size e) (I.ok.cab x c hfn hc)))).trans e1⟩
   · obtain ⟨o',e1⟩:=I.base.there b o e hx
     exact ⟨o',(hs.2 b (Nat.ne_of_lt (Nat.lt_of_lt_of_le (Heap.lt_size e) (I.ok.cab x c hfn hc)))).trans e1⟩
   · by_cases hj:j=i
     · subst hj
       rw [hi] at e1;cases e1
       rw [List.getElem?_set_self hiσ] at e2
       cases e2
       exact ⟨u,r,.inr ⟨.inl hk,c,hc,hc'⟩⟩
     · rw [List.getElem?_set_ne (Ne.symm hj)] at e2
       obtain ⟨u',r',q⟩:=hl j y v' e1 e2 e3
       refine ⟨u',r',?_⟩
       rcases q with q|⟨k,c',e,z'⟩
       · exact .inl q
       · refine .inr ⟨k,c',e,z'.sameBut hs ?_⟩
         rintro rfl
         exact hj (RK hN e1 (I.ok.inj _ _ _ e hc▸hi))
   · by_cases hcc:c'=c
     · subst hcc;exact ⟨_,hc'⟩
     · obtain ⟨w2,z2⟩:=I.cell y c' e
       exact ⟨w2,z2.sameBut hs hcc⟩
   · obtain ⟨e,n,ne,nf,d⟩:=I.pin p hp
     refine ⟨(hs.2 p.1 ?_).trans e,n,ne,nf,d⟩
     intro q
     rw [q,hoc] at e
     have q':oc=p.2:=Option.some.inj e
     exact d w' (by rw [<- q'];exact hocd)
theorem QW {M:Model}{A:Around}{E:Value->Shared->Prop}{i:Nat}{x:Str}{v:V}{u:Value}{Q:Unit->Shared->Prop}(I:Inv X pins σ H s)(hN:X.N.Nodup)(hi:X.N[i]?=some x)(hx:Loc X.env.scope x)(r:RelV v u)
 (h:∀ s',Inv X pins (σ.set i (some v)) H s'->Q () s') (hf:X.fn x=true\/X.env.scope.names.lookup x=some .local:=by first|exact .inl rfl|exact .inr rfl|assumption):wpAny M A (storeName X.env x u) Q E s :=
 NL I hN hi hx r (fun s' I' _=>h s' I') hf
theorem Inv.call' {s':Shared}{ch:List Addr}(I:Inv X pins σ H s)(ho:s'.os=s.os)(u:Un (frs X.stack) ch H H' s.heap s'.heap)(hok:HOk X.prog X.w H' s'.heap)(hg:AllBare s'.gens)
 (hch:∀ b∈ch,(b∈X.ex\/X.s₀.heap.objs.size<=b)/\b≠X.env.locals/\(∀ x c,X.env.cells.lookup x=some c->c≠b)/\∀ p∈X.pn++pins,p.1≠b):Inv X pins σ H' s':=by
 obtain ⟨h',g',d',t',o'⟩:=s'
 have e:o'=s.os:=ho
 subst e
 exact I.call (g':=g') (t':=t') (d':=d') u hok hg hch
end
abbrev XK:=Value->Option Addr->Hp->Prop
abbrev St:=List (Option V)
abbrev VK:=V->Hp->Prop
abbrev TE:=St->Hp->VK->Prop
abbrev TT:=St->Hp->(Bool->Hp->Prop)->Prop
abbrev TA:=St->Hp->(List V->Hp->Prop)->Prop
structure Ends where
 nx:St->Hp->Prop
 rt:VK
 bk:St->Hp->Prop:=fun _ _=>False
 ct:St->Hp->Prop:=fun _ _=>False
abbrev TS:=Ends->St->Hp->Prop
def EP (X:Cx)(pins:List (Addr×Obj))(σ:St)(Q:VK)(u:Value)(s':Shared):Prop:=∃ v H',Inv X pins σ H' s'/\RelV v u/\Q v H'
def TP (X:Cx)(pins:List (Addr×Obj))(σ:St)(Q:Bool->Hp->Prop)(b:Bool)(s':Shared):Prop:=∃ H',Inv X pins σ H' s'/\Q b H'
def AP (X:Cx)(pins:List (Addr×Obj))(σ:St)(Q:List V->Hp->Prop)(us:List Value)(s':Shared):Prop:=∃ vs H',Inv X pins σ H' s'/\Vals vs us/\Q vs H'
def SP (X:Cx)(pins:List (Addr×Obj))(D:Ends)(f:Flow)(s':Shared):Prop :=
 match f with
 | .next=>∃ σ' H',Inv X pins σ' H' s'/\D.nx σ' H'
 | .brk=>∃ σ' H',Inv X pins σ' H' s'/\D.bk σ' H'
 | .cont=>∃ σ' H',Inv X pins σ' H' s'/\D.ct σ' H'
 | .ret u=>∃ v σ' H',Inv X pins σ' H' s'/\RelV v u/\D.rt v H'
def PE (X:Cx)(e:Expr)(t:TE):Prop :=
 ∀ (pins:List (Addr×Obj)) (s:Shared) (σ:St) (H:Hp) (Q:VK),Inv X pins σ H s->t σ H Q->wpAny (model X.prog X.w) X.A (eval e X.env) (EP X pins σ Q) X.xe s
def PT (X:Cx)(e:Expr)(t:TT):Prop :=
 ∀ (pins:List (Addr×Obj)) (s:Shared) (σ:St) (H:Hp) (Q:Bool->Hp->Prop),Inv X pins σ H s->t σ H Q->wpAny (model X.prog X.w) X.A (isTrue e X.env (eval e X.env)) (TP X pins σ Q) X.xe s
def PW (X:Cx)(e:Expr)(t:TT):Prop :=
 ∀ (whole:Sem Value) (pins:List (Addr×Obj)) (s:Shared) (σ:St) (H:Hp) (Q:Bool->Hp->Prop),Inv X pins σ H s->t σ H Q->wpAny (model X.prog X.w) X.A (isTrue e X.env whole) (TP X pins σ Q) X.xe s
theorem PW.pt {X:Cx}{e:Expr}{t:TT}(h:PW X e t):PT X e t:=h _
def PA (X:Cx)(es:List Expr)(t:TA):Prop :=
 ∀ (pos:Pos) (pins:List (Addr×Obj)) (s:Shared) (σ:St) (H:Hp) (Q:List V->Hp->Prop),Inv X pins σ H s->t σ H Q->wpAny (model X.prog X.w) X.A (spliced (backTo pos (starEach es X.env))) (AP X pins σ Q) X.xe s
def PS (X:Cx)(st:Stmt)(t:TS):Prop :=
 ∀ (pins:List (Addr×Obj)) (s:Shared) (σ:St) (H:Hp) (D:Ends),Inv X pins σ H s->t D σ H->wpAny (model X.prog X.w) X.A (exec st X.env) (SP X pins D) X.xe s
def PSs (X:Cx)(st:List Stmt)(t:TS):Prop :=
 ∀ (pins:List (Addr×Obj)) (s:Shared) (σ:St) (H:Hp) (D:Ends),Inv X pins σ H s->t D σ H->wpAny (model X.prog X.w) X.A (execs st X.env) (SP X pins D) X.xe s
theorem thn {α:Type}{t:Sem α}{Q Q':α->Shared->Prop}{M:Model}{A:Around}{E:Value->Shared->Prop}{s:Shared}(h:wpAny M A t Q E s)(hQ:∀ a s,Q a s->Q' a s):wpAny M A t Q' E s:=wpAny_mono h hQ fun _ _ x=>x
section
variable {X:Cx}
def FI (i:Nat):TE:=fun σ H Q=>∃ v,σ[i]?=some (some v)/\Q v H
def tC (v:V):TE:=fun _ H Q=>Q v H
theorem OS {i:Nat}{x:Str}{pos:Pos}(hN:X.N[i]?=some x)(hv:Vis X.env.scope x)(hd:(x==("__debug__" : Str))=false:=by decide) (hcd:(x==("__classdict__" : Str))=false:=by decide):PE X (.Name x pos) (FI i):=by
 intro pins s σ H Q I h
 obtain ⟨v,e,h⟩:=h
 obtain ⟨m,hn,hl⟩:=I.loc
 obtain ⟨u,r,l⟩:=hl i x v hN e hv
 have fin:EP X pins σ Q u s:=⟨v,H,I,r,h⟩
 rcases l with ⟨hk,hm⟩|⟨hk,c,hc,hcell⟩
 · exact wpAny_Name (wpAny_loadName_local I.ok.kind hk hn hm fin) hd
 · rcases hk with hk|hk
   · exact wpAny_Name (wpAny_loadName_cell I.ok.kind hk hc hcell fin) hd
   · exact wpAny_Name (wpAny_loadName_free I.ok.kind hk hc hcell fin hcd) hd
theorem Z7 {i j pos}:PE X (.Constant (.int i) j pos) (tC (.int i)):=fun _ _ _ H _ I h=>wpAny_Constant_int ⟨.int i,H,I.tok _,⟨_,rfl⟩,h⟩
theorem J5s {b j pos}:PE X (.Constant (.bool b) j pos) (tC (.bl b)):=fun _ _ _ H _ I h=>Constant_bool ⟨.bl b,H,I,rfl,h⟩
theorem J8a {j pos}:PE X (.Constant .none j pos) (tC .non):=fun _ _ _ H _ I h=>Constant_none ⟨.non,H,I,rfl,h⟩
theorem ZL {x j pos}:PE X (.Constant (.str x) j pos) (tC (.str x)):=fun _ _ _ H _ I h=>Calls.Constant_str ⟨.str x,H,I.tok _,⟨_,rfl⟩,h⟩
def Gl (X:Cx)(x:Str):Prop:=X.env.kindOf x=some .globalImplicit
theorem LD {E:Value->Shared->Prop}{pins:List (Addr×Obj)}{s:Shared}{σ:St}{H:Hp}{x:Str}{u:Value}{pos:Pos}{Q:Value->Shared->Prop}(I:Inv X pins σ H s)(hg:Gl X x)(hm:X.mg x=some u)(h:Q u s)
 (hd:(x==("__debug__" : Str))=false:=by decide):wpAny (model X.prog X.w) X.A (eval (.Name x pos) X.env) Q E s :=
 Calls.Name_function_global I.ok.kind hg (Calls.loadGlobal_global (by rw [I.ok.glob];exact I.mod.glob.keeps I.bk) hm h) hd
theorem PL {E:Value->Shared->Prop}{pins:List (Addr×Obj)}{s:Shared}{σ:St}{H:Hp}{x:Str}{u:Value}{pos:Pos}{Q:Value->Shared->Prop}(I:Inv X pins σ H s)(hg:Gl X x)(hm:X.mg x=none)(hv:bootBuiltins x=some u)(h:Q u s)
 (hn:x≠"__name__":=by decide) (hd:(x==("__debug__" : Str))=false:=by decide):wpAny (model X.prog X.w) X.A (eval (.Name x pos) X.env) Q E s:=by
 obtain ⟨mb,h1,h2⟩:=I.mod.blt
 exact Calls.Name_function_global I.ok.kind hg (Calls.loadGlobal_builtin (by rw [I.ok.glob];exact I.mod.glob.keeps I.bk) hm (by rw [I.ok.blt];exact h1.keeps I.bk) ((h2 x hn).trans hv) h) hd
theorem J3o {x:Str}{v:V}{u:Value}{pos:Pos}(hg:Gl X x)(hm:X.mg x=some u)(r:RelV v u)(hd:(x==("__debug__" : Str))=false:=by decide):PE X (.Name x pos) (tC v) :=
 fun _ _ _ H _ I h=>LD I hg hm ⟨v,H,I,r,h⟩ hd
theorem J3p {x:Str}{v:V}{u:Value}{pos:Pos}(hg:Gl X x)(hm:X.mg x=none)(hv:bootBuiltins x=some u)(r:RelV v u)(hn:x≠"__name__":=by decide) (hd:(x==("__debug__" : Str))=false:=by decide):PE X (.Name x pos) (tC v) :=
 fun _ _ _ H _ I h=>PL I hg hm hv ⟨v,H,I,r,h⟩ hn hd
variable {a b:Expr}{ta tb:TE}{pos:Pos}
def tB (t:TE):TT:=fun σ H Q=>t σ H fun x H1=>∃ c,x=.bl c/\Q c H1
variable {tA tB':TT}{rest:List Expr}
def J7n (t u:TT):TT:=fun σ H Q=>t σ H fun c H1=>if c=true then u σ H1 Q else Q false H1
def tOr (t u:TT):TT:=fun σ H Q=>t σ H fun c H1=>if c=true then Q true H1 else u σ H1 Q
def Q2r (t:TT):TT:=fun σ H Q=>t σ H fun c H1=>Q (!c) H1
theorem UY (ha:PT X a tA):PW X (.BoolOp .And [a] pos) tA:=by
 intro wh pins s σ H Q I h
 refine isTrue_and (thn (ha pins s σ H Q I h) fun c s1 e=>?_)
 cases c with
 | true=>exact isTrue_and_nil e
 | false=>exact e
theorem J7u (ha:PT X a tA):PW X (.BoolOp .Or [a] pos) tA:=by
 intro wh pins s σ H Q I h
 refine isTrue_or (thn (ha pins s σ H Q I h) fun c s1 e=>?_)
 cases c with
 | false=>exact isTrue_or_nil e
 | true=>exact e
theorem ZC (ha:PT X a tA)(hb:PW X (.BoolOp .And (b::rest) pos) tB'):PW X (.BoolOp .And (a::b::rest) pos) (J7n tA tB'):=by
 intro wh pins s σ H Q I h
 refine isTrue_and (thn (ha pins s σ H _ I h) fun c s1 ⟨H1,I1,q1⟩=>?_)
 cases c with
 | true=>exact hb wh pins s1 σ H1 Q I1 q1
 | false=>exact ⟨H1,I1,q1⟩
theorem Q0z (ha:PT X a tA)(hb:PW X (.BoolOp .Or (b::rest) pos) tB'):PW X (.BoolOp .Or (a::b::rest) pos) (tOr tA tB'):=by
 intro wh pins s σ H Q I h
 refine isTrue_or (thn (ha pins s σ H _ I h) fun c s1 ⟨H1,I1,q1⟩=>?_)
 cases c with
 | true=>exact ⟨H1,I1,q1⟩
 | false=>exact hb wh pins s1 σ H1 Q I1 q1
theorem J7v (ha:PT X a tA):PT X (.UnaryOp .Not a pos) (Q2r tA):=by
 intro pins s σ H Q I h
 exact isTrue_not (ha pins s σ H (fun c H1=>Q (!c) H1) I h)
def Q0v (ta tb:TE):TE:=fun σ H Q=>ta σ H fun x H1=>∃ c,x=.bl c/\if c=true then tb σ H1 Q else Q (.bl false) H1
def Q0r (ta:TE):TE:=fun σ H Q=>ta σ H fun x H1=>∃ c,x=.bl c/\Q (.bl (!c)) H1
theorem J7y {op}{t:TE}(h:PE X a t):PE X (.BoolOp op [a] pos) t:=fun pins s σ H Q I hw=>BoolOp_one (h pins s σ H Q I hw)
theorem J8b (ha:PE X a ta)(hb:PE X (.BoolOp .And (b::rest) pos) tb):PE X (.BoolOp .And (a::b::rest) pos) (Q0v ta tb):=by
 intro pins s σ H Q I h
 refine BoolOp_and (thn (ha pins s σ H _ I h) fun v s1 ⟨x,H1,I1,r1,q1⟩=>?_)
 obtain ⟨c,rfl,q1⟩:=q1
 cases r1
 refine wpAny_truthy_bool ?_
 cases c with
 | true=>exact hb pins s1 σ H1 Q I1 q1
 | false=>exact ⟨.bl false,H1,I1,rfl,q1⟩
theorem J7z (ha:PE X a ta):PE X (.UnaryOp .Not a pos) (Q0r ta):=by
 intro pins s σ H Q I h
 refine UnaryOp_ (thn (ha pins s σ H _ I h) fun v s1 ⟨x,H1,I1,r1,q1⟩=>?_)
 obtain ⟨c,rfl,q1⟩:=q1
 cases r1
 exact not_of (wpAny_truthy_bool ⟨.bl (!c),H1,I1,rfl,q1⟩)
def tIf (t:TT)(ta tb:TE):TE:=fun σ H Q=>t σ H fun c H1=>if c=true then ta σ H1 Q else tb σ H1 Q
theorem ZN {c:Expr}(hc:PT X c tA)(ha:PE X a ta)(hb:PE X b tb):PE X (.IfExp c a b pos) (tIf tA ta tb):=by
 intro pins s σ H Q I h
 refine wpAny_IfExp (thn (hc pins s σ H _ I h) fun d s1 ⟨H1,I1,q1⟩=>?_)
 cases d with
 | true=>exact ha pins s1 σ H1 Q I1 q1
 | false=>exact hb pins s1 σ H1 Q I1 q1
end
def SqL (K:Fg)(H:Hp)(a:Addr)(xs:List V):Prop :=
 Rd H a (.lst xs) \/
  ∃ (o:Obj) (its:Array Value) (n:Nat),K.lookup a=some o/\o.cls=.type "list"/\o.dict=none/\o.data=.seq its n/\its.size<=sizeLine/\Vals xs its.toList
def SqT (K:Fg)(H:Hp)(a:Addr)(xs:List V):Prop :=
 Rd H a (.tup xs) \/
  ∃ (o:Obj) (its:Array Value) (n:Nat),K.lookup a=some o/\o.cls=.type "tuple"/\o.data=.seq its n/\its.size<=sizeLine/\Vals xs its.toList
def Q3k:Value->Option V
 | .none=>some .non
 | .bool b=>some (.bl b)
 | .int i _=>some (.int i)
 | .str x _=>some (.str x)
 | .bytes b _=>some (.byt b)
 | .float b _=>some (.flt b)
 | .ref a=>some (.ref a)
 | .type n=>some (.ty n)
 | _=>none
theorem RelV.abs {x:V}{u:Value}(r:RelV x u):Q3k u=some x:=by
 cases x with
 | non=>cases r;rfl
 | bl _=>cases r;rfl
 | int _=>obtain ⟨t,rfl⟩:=r;rfl
 | str _=>obtain ⟨t,rfl⟩:=r;rfl
 | byt _=>obtain ⟨t,rfl⟩:=r;rfl
 | flt _=>obtain ⟨t,rfl⟩:=r;rfl
 | ref _=>cases r;rfl
 | ty _=>cases r;rfl
theorem RelV.inj {x y:V}{u:Value}(r:RelV x u)(q:RelV y u):x=y:=Option.some.inj (r.abs.symm.trans q.abs)
theorem Vals.inj:∀ {xs ys:List V} {us:List Value},Vals xs us->Vals ys us->xs=ys
 | _,_,_,.nil,.nil=>rfl
 | _,_,_,.cons r t,.cons r' t'=>by rw [r.inj r',Vals.inj t t']
section
variable {X:Cx}{pins:List (Addr×Obj)}{σ:St}{H:Hp}{s:Shared}{a:Addr}{xs ys:List V}
theorem SqL.of (h:H a=some (.lst xs)):SqL K H a xs:=.inl (.inl h)
theorem SqT.of (h:H a=some (.tup xs)):SqT K H a xs:=.inl (.inl h)
theorem Inv.list (I:Inv X pins σ H s)(h:SqL X.K H a xs):∃ its:List Value,Vals xs its/\PlainL s.heap a its.toArray/\xs.length<=sizeLine:=by
 rcases h with h|⟨o,its,n,hk,hc,hd,hs,hz,r⟩
 · obtain ⟨z,its,n,r,e⟩:=h.ok I.hok
   exact ⟨its,r,⟨_,n,e,rfl,rfl,rfl⟩,z⟩
 · refine ⟨its.toList,r,⟨o,n,I.kIn a o hk,hc,hd,by simpa using hs⟩,?_⟩
   have e:=r.length
   simp only [Array.length_toList] at e
   omega
theorem Inv.tuple (I:Inv X pins σ H s)(h:SqT X.K H a xs):∃ its:List Value,Vals xs its/\IsTup s.heap a its.toArray/\xs.length<=sizeLine:=by
 rcases h with h|⟨o,its,n,hk,hc,hs,hz,r⟩
 · obtain ⟨z,its,r,p⟩:=h.ok I.hok
   exact ⟨its,r,p,z⟩
 · refine ⟨its.toList,r,⟨o,I.kIn a o hk,hc,n,by simpa using hs⟩,?_⟩
   have e:=r.length
   simp only [Array.length_toList] at e
   omega
theorem Inv.list_inj (I:Inv X pins σ H s)(h:SqL X.K H a xs)(h':SqL X.K H a ys):xs=ys:=by
 obtain ⟨its,r,⟨o,n,e,_,_,d⟩,_⟩:=I.list h
 obtain ⟨its',r',⟨o',n',e',_,_,d'⟩,_⟩:=I.list h'
 rw [e] at e';cases e'
 rw [d] at d'
 injection d' with d1 _
 have:its=its':=by simpa using congrArg Array.toList d1
 subst this
 exact r.inj r'
theorem Inv.tuple_inj (I:Inv X pins σ H s)(h:SqT X.K H a xs)(h':SqT X.K H a ys):xs=ys:=by
 obtain ⟨its,r,⟨o,e,_,n,d⟩,_⟩:=I.tuple h
 obtain ⟨its',r',⟨o',e',_,n',d'⟩,_⟩:=I.tuple h'
 rw [e] at e';cases e'
 rw [d] at d'
 injection d' with d1 _
 have:its=its':=by simpa using congrArg Array.toList d1
 subst this
 exact r.inj r'
end
abbrev Cx.wish (X:Cx)(E:Value->Shared->Prop):Cx:={ X with xe:=E }
abbrev Cx.nox (X:Cx):Cx:=X.wish fun _ _=>False
theorem Cx.Ok.wish {X:Cx}(ok:X.Ok)(E:Value->Shared->Prop):(X.wish E).Ok :=
 ⟨ok.mod,ok.kind,ok.glob,ok.blt,ok.above,ok.inj,ok.has,ok.cab,ok.hd,ok.frames,ok.stk,ok.exf,ok.bs,ok.bsz,ok.noex,ok.exfs,ok.funs,ok.frf⟩
theorem Cx.Ok.unwish {X:Cx}{E:Value->Shared->Prop}(ok:(X.wish E).Ok):X.Ok :=
 ⟨ok.mod,ok.kind,ok.glob,ok.blt,ok.above,ok.inj,ok.has,ok.cab,ok.hd,ok.frames,ok.stk,ok.exf,ok.bs,ok.bsz,ok.noex,ok.exfs,ok.funs,ok.frf⟩
section
variable {X:Cx}{pins:List (Addr×Obj)}{σ:St}{H:Hp}{s:Shared}{E:Value->Shared->Prop}
theorem Inv.wish (I:Inv X pins σ H s)(E:Value->Shared->Prop):Inv (X.wish E) pins σ H s:=⟨I.ok.wish E,I.os,I.bare,I.base,I.loc,I.cell,I.free,I.freeC,I.pin,I.hok,I.len⟩
theorem Inv.unwish (I:Inv (X.wish E) pins σ H s):Inv X pins σ H s:=⟨I.ok.unwish,I.os,I.bare,I.base,I.loc,I.cell,I.free,I.freeC,I.pin,I.hok,I.len⟩
theorem SP.unwish {D:Ends}{f:Flow}{s':Shared}(h:SP (X.wish E) pins D f s'):SP X pins D f s':=by
 cases f with
 | next=>obtain ⟨σ',H',I,q⟩:=h;exact ⟨σ',H',I.unwish,q⟩
 | brk=>obtain ⟨σ',H',I,q⟩:=h;exact ⟨σ',H',I.unwish,q⟩
 | cont=>obtain ⟨σ',H',I,q⟩:=h;exact ⟨σ',H',I.unwish,q⟩
 | ret u=>obtain ⟨v,σ',H',I,r,q⟩:=h;exact ⟨v,σ',H',I.unwish,r,q⟩
theorem PSs.nox {st:List Stmt}{t:TS}(h:PSs X.nox st t):PSs X st t:=fun pins s σ H D I hw =>
 wpAny_mono (h pins s σ H D (I.wish _) hw) (fun _ _ q=>q.unwish) fun _ _ z=>False.elim z
end
section
variable {X:Cx}{st:Stmt}{rest:List Stmt}{t u:TS}{e:Expr}{te:TE}{pos:Pos}
def Q0t:TS:=fun D σ H=>D.nx σ H
def Q2p (t u:TS):TS:=fun D σ H=>t { D with nx:=u D } σ H
theorem LC:PSs X [] Q0t:=fun _ _ σ H _ I h=>wpAny_execs_nil ⟨σ,H,I,h⟩
theorem AW (h1:PS X st t)(h2:PSs X rest u):PSs X (st::rest) (Q2p t u):=by
 intro pins s σ H D I h
 refine wpAny_execs_cons (thn (h1 pins s σ H { D with nx:=u D } I h) fun f s1 q=>?_)
 cases f with
 | next =>
   obtain ⟨σ',H',I',q⟩:=q
   exact h2 pins s1 σ' H' D I' q
 | ret v=>exact q
 | brk=>exact q
 | cont=>exact q
theorem FN (h1:PS X st t):PSs X [st] t:=by
 intro pins s σ H D I h
 refine wpAny_execs_cons (thn (h1 pins s σ H D I h) fun f s1 q=>?_)
 cases f with
 | next=>exact wpAny_execs_nil q
 | ret v=>exact q
 | brk=>exact q
 | cont=>exact q
theorem Inv.quiet {pins:List (Addr×Obj)}{σ:St}{H:Hp}{s:Shared}(I:Inv X pins σ H s):interactive X.env=false:=by simp [interactive,I.ok.kind]
def QV (te:TE):TS:=fun D σ H=>te σ H fun _ H1=>D.nx σ H1
theorem FP (he:PE X e te)(hs:swapsWith e none pos.line X.env=pure false:=by rfl):PS X (.Expr e pos) (QV te):=by
 intro pins s σ H D I h
 exact wpAny_Expr_any (thn (he pins s σ H _ I h) fun v s1 ⟨x,H1,I1,r1,q1⟩=>⟨σ,H1,I1,q1⟩) I.quiet hs
def Q2q (te:TE):TS:=fun D σ H=>te σ H D.rt
theorem HR (he:PE X e te):PS X (.Return (some e) pos) (Q2q te):=by
 intro pins s σ H D I h
 exact wpAny_Return_some (thn (he pins s σ H _ I h) fun v s1 ⟨x,H1,I1,r1,q1⟩=>⟨x,σ,H1,I1,r1,q1⟩)
def Q2t (c:TT)(t u:TS):TS:=fun D σ H=>c σ H fun b H1=>if b=true then t D σ H1 else u D σ H1
theorem UZ {c:Expr}{a b:List Stmt}{tc:TT}(hc:PT X c tc)(ha:PSs X a t)(hb:PSs X b u):PS X (.If c a b pos) (Q2t tc t u):=by
 intro pins s σ H D I h
 refine wpAny_If (thn (hc pins s σ H _ I h) fun d s1 ⟨H1,I1,q1⟩=>?_)
 cases d with
 | true=>exact ha pins s1 σ H1 D I1 q1
 | false=>exact hb pins s1 σ H1 D I1 q1
def J7k:TS:=fun _ _ _=>False
theorem ZI:PS X st J7k:=fun _ _ _ _ _ _ h=>h.elim
end
abbrev TG:=V->St->Hp->(St->Hp->Prop)->Prop
abbrev TGs:=List V->St->Hp->(St->Hp->Prop)->Prop
def PG (X:Cx)(target:Expr)(t:TG):Prop :=
 ∀ (pins:List (Addr×Obj)) (s:Shared) (σ:St) (H:Hp) (v:V) (u:Value) (Q:St->Hp->Prop),Inv X pins σ H s->RelV v u->t v σ H Q ->
  wpAny (model X.prog X.w) X.A (assign target X.env u) (fun _ s'=>∃ σ' H',Inv X pins σ' H' s'/\Q σ' H') X.xe s
def PGs (X:Cx)(ts:List Expr)(t:TGs):Prop :=
 ∀ (pins:List (Addr×Obj)) (s:Shared) (σ:St) (H:Hp) (vs:List V) (us:List Value) (Q:St->Hp->Prop),Inv X pins σ H s->Vals vs us->t vs σ H Q ->
  wpAny (model X.prog X.w) X.A (assignInOrder ((assignEach ts X.env).map (·.2)) us) (fun _ s'=>∃ σ' H',Inv X pins σ' H' s'/\Q σ' H') X.xe s
abbrev Q0d:=V->V->V->Hp->(Hp->Prop)->Prop
def Q2m (X:Cx)(t:Q0d):Prop :=
 ∀ (pins:List (Addr×Obj)) (s:Shared) (σ:St) (H:Hp) (o i v:V) (ov iv u:Value) (Q:Hp->Prop),Inv X pins σ H s->RelV o ov->RelV i iv->RelV v u->t o i v H Q ->
  wpAny (model X.prog X.w) X.A (setItem ov iv u) (fun _ s'=>∃ H',Inv X pins σ H' s'/\Q H') X.xe s
section
variable {X:Cx}{pos:Pos}
def RT (i:Nat):TG:=fun v σ H Q=>Q (σ.set i (some v)) H
theorem pg_name {i:Nat} {x:Str} (hN:X.N.Nodup) (hi:X.N[i]?=some x) (hx:Loc X.env.scope x) (hf:X.fn x=true\/X.env.scope.names.lookup x=some .local:=by first|exact .inl rfl|exact .inr rfl|assumption):PG X (.Name x pos) (RT i):=by
 intro pins s σ H v u Q I r h
 exact wpAny_assign_Name (QW I hN hi hx r (fun s' I'=>⟨_,H,I',h⟩) hf)
def J8n:TGs:=fun vs σ H Q=>vs=[]/\Q σ H
def VN (t:TG)(u:TGs):TGs:=fun vs σ H Q=>∃ v r,vs=v::r/\t v σ H fun σ' H'=>u r σ' H' Q
theorem Z3:PGs X [] J8n:=by
 intro pins s σ H vs us Q I r h
 obtain ⟨e,h⟩:=h
 subst e
 cases r
 exact assignInOrder_nil ⟨σ,H,I,h⟩
theorem J7 {e:Expr}{es:List Expr}{t:TG}{u:TGs}(h1:PG X e t)(h2:PGs X es u)
 (hs:(assignEach (e::es) X.env).map (·.2)=assign e X.env::(assignEach es X.env).map (·.2):=by rfl):PGs X (e::es) (VN t u):=by
 intro pins s σ H vs us Q I r h
 obtain ⟨v,vr,e1,h⟩:=h
 subst e1
 cases r with
 | cons r rr =>
   rw [hs]
   refine assignInOrder_cons (thn (h1 pins s σ H _ _ _ I r h) fun _ s1 ⟨σ1,H1,I1,q1⟩=>?_)
   exact h2 pins s1 σ1 H1 _ _ Q I1 rr q1
def J4e (K:Fg)(n:Nat)(t:TGs):TG:=fun v σ H Q=>∃ a xs,v=.ref a/\SqT K H a xs/\xs.length=n/\t xs σ H Q
theorem J7x {es:List Expr}{k:Nat}{t:TGs}{n:Nat}(hc:X.calm=true)(h:PGs X es t)
 (hn:(assignEach es X.env).length=n:=by rfl) (hst:(assignEach es X.env).findIdx? (·.1)=none:=by rfl):PG X (.Tuple es k pos) (J4e X.K n t):=by
 intro pins s σ H v u Q I r hw
 obtain ⟨a,xs,e1,hq,hl,hw⟩:=hw
 subst e1
 cases r
 obtain ⟨its,rv,ht,hz⟩:=I.tuple hq
 refine assign_Tuple_tuple (I.ok.hd hc) ht (by simp [hn,<- hl,rv.length]) hst fun h' hx=>?_
 have I1:Inv X pins σ H { s with heap:=h' }:=I.kept (t':=s.toks) fun b o e=>hx b o (Nat.ne_of_lt (Heap.lt_size e)) e
 exact h pins _ σ H xs _ Q I1 (by simpa using rv) hw
def J0o (to ti:TE)(t:Q0d):TG:=fun v σ H Q=>to σ H fun o H1=>ti σ H1 fun i H2=>t o i v H2 fun H3=>Q σ H3
theorem LW {o i:Expr}{to ti:TE}{t:Q0d}(ho:PE X o to)(hi:PE X i ti)(hs:Q2m X t)
 (ha:∀ v,assign (.Subscript o i pos) X.env v=(do
  let ov <- holding [v] (eval o X.env)
  let iv <- holding [v,ov] (eval i X.env)
  standAt pos
  holding [v,ov,iv] (setItem ov iv v)
  release [v,ov,iv] []):=by intro _;rfl):PG X (.Subscript o i pos) (J0o to ti t):=by
 intro pins s σ H v u Q I r h
 rw [ha]
 refine wpAny_bind (wpAny_holding (thn (ho pins s σ H _ I h) fun ov s1 ⟨x,H1,I1,r1,q1⟩=>?_))
 refine wpAny_bind (wpAny_holding (thn (hi pins s1 σ H1 _ I1 q1) fun iv s2 ⟨y,H2,I2,r2,q2⟩=>?_))
 refine wpAny_bind (wpAny_standAt (wpAny_bind (wpAny_holding (thn (hs pins s2 σ H2 x y v ov iv u _ I2 r1 r2 r q2) fun _ s3 ⟨H3,I3,q3⟩=>?_))))
 exact wpAny_release ⟨σ,H3,I3,q3⟩
def WQ (te:TE)(g:TG):TS:=fun D σ H=>te σ H fun x H1=>g x σ H1 D.nx
theorem IY {tg e:Expr}{te:TE}{g:TG}(he:PE X e te)(hg:PG X tg g)(hs:swapsWithSole [tg] e pos.line X.env=pure false:=by rfl)(hw:swappedStores [tg] e X.env=pure none:=by rfl)
 (h1:(assignEach [tg] X.env).map (·.2)=[assign tg X.env]:=by rfl):PS X (.Assign [tg] e pos) (WQ te g):=by
 intro pins s σ H D I h
 refine wpAny_Assign_stores (thn (he pins s σ H _ I h) fun v s1 ⟨x,H1,I1,r1,q1⟩=>?_) hs hw
 rw [h1]
 exact thn (hg pins s1 σ H1 x v _ I1 r1 q1) fun _ s2 q=>q
theorem BR {i:Nat} {x:Str} {e:Expr} {te:TE} {pos':Pos} (hN:X.N.Nodup) (hi:X.N[i]?=some x) (hx:Loc X.env.scope x) (he:PE X e te) (hs:swapsWith e (some (.Name x pos')) pos.line X.env=pure false:=by rfl) (hf:X.fn x=true\/X.env.scope.names.lookup x=some .local:=by first|exact .inl rfl|exact .inr rfl|assumption) :
 PS X (.Assign [.Name x pos'] e pos) (WQ te (RT i)):=by
 intro pins s σ H D I h
 refine wpAny_Assign_Name (thn (he pins s σ H _ I h) fun v s1 ⟨y,H1,I1,r1,q1⟩=>?_) hs
 exact QW I1 hN hi hx r1 (fun s2 I2=>⟨_,H1,I2,q1⟩) hf
end
section
variable {X:Cx}{pos:Pos}
def YR (c:TT)(tb:TS):TS:=fun D σ H=>∃ W:Nat->St->Hp->Prop,(∃ m,W m σ H)/\∀ m σ H,W m σ H ->
 c σ H fun b H1=>if b=true then ∃ N:St->Hp->Prop,(∀ σ' H',N σ' H'->∃ m',m'<m/\W m' σ' H')/\tb { D with nx:=N,ct:=N,bk:=D.nx } σ H1 else D.nx σ H1
theorem ZG {c:Expr}{body:List Stmt}{tc:TT}{tb:TS}(hp:PassesOwn (model X.prog X.w) X.A X.env X.xe)(hc:PT X c tc)(hb:PSs X body tb):PS X (.While c body [] pos) (YR tc tb):=by
 intro pins s σ H D I h
 obtain ⟨W,⟨m0,w0⟩,turn⟩:=h
 refine wpAny_While (codeAny_whileLoop (fun n s'=>∃ σ' H',Inv X pins σ' H' s'/\W n σ' H') ?_ m0 ⟨σ,H,I,w0⟩)
 rintro n s1 ⟨σ1,H1,I1,w1⟩
 refine wpAny_passesOwn hp (thn (hc pins s1 σ1 H1 _ I1 (turn n σ1 H1 w1)) fun b s2 ⟨H2,I2,q2⟩=>?_)
 cases b with
 | true =>
   obtain ⟨N,hN,q2⟩:=q2
   rw [if_pos rfl]
   refine wpAny_passesOwn hp (thn (hb pins s2 σ1 H2 _ I2 q2) fun f s3 q3=>?_)
   cases f with
   | next =>
     obtain ⟨σ3,H3,I3,n3⟩:=q3
     obtain ⟨m',hm,w3⟩:=hN σ3 H3 n3
     exact ⟨m',hm,σ3,H3,I3,w3⟩
   | cont =>
     obtain ⟨σ3,H3,I3,n3⟩:=q3
     obtain ⟨m',hm,w3⟩:=hN σ3 H3 n3
     exact ⟨m',hm,σ3,H3,I3,w3⟩
   | brk=>exact q3
   | ret v=>exact q3
 | false =>
   rw [if_neg Bool.false_ne_true]
   exact wpAny_execs_nil ⟨σ1,H2,I2,q2⟩
end
structure It where
 go:Nat->Hp->Prop
 yld:Nat->Hp->V->Hp->Prop
 stop:Nat->Hp->Prop
def HJ (X:Cx)(pins:List (Addr×Obj))(H:Hp)(b:Addr):Prop :=
 H b=none/\b≠X.env.locals/\b∉X.fs/\(b∈X.ex\/X.s₀.heap.objs.size<=b)/\(∀ x c,X.env.cells.lookup x=some c->c≠b)/\∀ p∈X.pn++pins,p.1≠b
theorem Inv.fpOk {X:Cx}{pins:List (Addr×Obj)}{σ:St}{H H':Hp}{s:Shared}{b:Addr}(I:Inv X pins σ H s)(hb:s.heap.objs.size<=b)(hn:H' b=none):HJ X pins H' b:=by
 refine ⟨hn,Nat.ne_of_gt (Nat.lt_of_lt_of_le I.lt hb),I.nofs hb,.inr (Nat.le_trans I.sz hb),fun x c e z=>?_,fun p hp z=>?_⟩
 · obtain ⟨v,q⟩:=I.cell x c e
   exact absurd (Nat.lt_of_lt_of_le q.lt (by rw [z];exact hb)) (Nat.lt_irrefl _)
 · exact absurd (Nat.lt_of_lt_of_le (Heap.lt_size (I.pin p hp).1) (by rw [z];exact hb)) (Nat.lt_irrefl _)
structure Turn (P:Program)(w:World)(K:Fg)(tg:Expr)(J:It)(fp:List Addr)(it:Addr)(tn:Nat->Heap->Prop):Prop where
 mem:it∈fp
 obj:∀ i h,tn i h->∀ b∈fp,∃ o,h.get? b=some o/\∀ v,o.data≠.cell v
 keep:∀ i h h',tn i h->(∀ b∈fp,∀ o,h.get? b=some o->h'.get? b=some o)->tn i h'
 item:∀ (X:Cx),X.prog=P->X.w=w->X.K=K->X.calm=true->∀ (i:Nat) (pins:List (Addr×Obj)) (s:Shared) (σ:St) (H:Hp) (E:Value->Shared->Prop),Inv X pins σ H s->(∀ b∈fp,HJ X pins H b)->tn i s.heap->J.go i H ->
  wpAny (model P w) X.A (pyNext (.ref it)) (fun r s1=>∃ u,r=some u /\
   wpAny (model P w) X.A (letOwnedTupleGo tg (.ref it) u) (fun _ s2=>∃ x H',Inv X pins σ H' s2/\RelV x u/\J.yld i H x H'/\tn (i+1) s2.heap/\∀ b∈fp,H' b=none) E s1) E s
 done:∀ (X:Cx),X.prog=P->X.w=w->X.K=K->X.calm=true->∀ (i:Nat) (pins:List (Addr×Obj)) (s:Shared) (σ:St) (H:Hp) (E:Value->Shared->Prop),Inv X pins σ H s->(∀ b∈fp,HJ X pins H b)->tn i s.heap->J.stop i H ->
  wpAny (model P w) X.A (pyNext (.ref it)) (fun r s1=>r=none/\Inv X pins σ H s1) E s
 self:∀ (A:Around) (i:Nat) (s:Shared) (Q:Value->Shared->Prop) (E:Value->Shared->Prop),tn i s.heap->Q (.ref it) s->wpAny (model P w) A (pyIter (.ref it)) Q E s
abbrev TI:=St->Hp->(It->Hp->Prop)->Prop
def PIE (X:Cx)(pins:List (Addr×Obj))(σ:St)(tg:Expr)(R:It->Hp->Prop)(itv:Value)(s2:Shared):Prop :=
 ∃ (it:Addr) (fp:List Addr) (tn:Nat->Heap->Prop) (J:It) (H':Hp),itv=.ref it/\Inv X pins σ H' s2/\Turn X.prog X.w X.K tg J fp it tn/\tn 0 s2.heap/\(∀ b∈fp,HJ X pins H' b)/\R J H'
def PI (X:Cx)(tg iter:Expr)(wi:TI):Prop :=
 ∀ (pins:List (Addr×Obj)) (s:Shared) (σ:St) (H:Hp) (R:It->Hp->Prop),Inv X pins σ H s->wi σ H R ->
  wpAny (model X.prog X.w) X.A (eval iter X.env) (fun v s1=>wpAny (model X.prog X.w) X.A (pyIter v) (PIE X pins σ tg R) X.xe s1) X.xe s
theorem J0n {M:Model}{A:Around}{E:Value->Shared->Prop}{s:Shared}{tg:Expr}{it:Addr}{u:Value}{o:Obj}{n:String}{vs:Array Value}{Q:Unit->Shared->Prop}(ho:s.heap.get? it=some o)(hc:o.cls=.type n)(hd:o.data=.fields vs)
 (hn:["enumerate","zip","dict_itemiterator","dict_reverseitemiterator","odict_iterator","itertools.zip_longest","itertools.pairwise"].contains n=false) (hQ:Q () s):wpAny M A (letOwnedTupleGo tg (.ref it) u) Q E s:=by
 unfold letOwnedTupleGo
 cases tg<;>first
  | exact wpAny_pure hQ
  | (cases u<;>first
   | exact wpAny_pure hQ
   | (refine wpAny_bind (wpAny_load ho ?_)
      rw [hc,hd]
      show wpAny M A (if (["enumerate","zip","dict_itemiterator","dict_reverseitemiterator","odict_iterator","itertools.zip_longest","itertools.pairwise"].contains n&&vs[0]?==some (rawInt _))=true then _ else _) Q E s
      rw [if_neg (by intro h;rw [hn,Bool.false_and] at h;cases h)]
      exact wpAny_pure hQ))
def Itl (K:Fg)(a:Addr):It :=
 ⟨fun i H=>∃ xs x,SqL K H a xs/\xs[i]?=some x,fun i H x H'=>H'=H/\∀ xs,SqL K H a xs->xs[i]?=some x,fun i H=>∃ xs,SqL K H a xs/\xs.length<=i⟩
def Itt (K:Fg)(a:Addr):It :=
 ⟨fun i H=>∃ xs x,SqT K H a xs/\xs[i]?=some x,fun i H x H'=>H'=H/\∀ xs,SqT K H a xs->xs[i]?=some x,fun i H=>∃ xs,SqT K H a xs/\xs.length<=i⟩
def Itr (lo:Int)(n:Nat):It:=⟨fun i _=>i<n,fun i H x H'=>H'=H/\x=.int (lo+i),fun i _=>n<=i⟩
theorem WP {w:World} {tg:Expr}(a it:Addr):Turn P w K tg (Itl K a) [it] it (fun i h=>h.IsListIter it a i) where
 mem:=by simp
 obj:=fun i h st b hb=>by
  have e:b=it:=by simpa using hb
  subst e
  obtain ⟨o,e,c,d⟩:=st
  exact ⟨o,e,fun v z=>by rw [d] at z;cases z⟩
 keep:=fun i h h' st k=>st.at fun o e=>k it (by simp) o e
 item:=by
  intro X hP hw hK hc i pins s σ H E I hf st hg
  subst hP hw hK
  obtain ⟨xs,x,hq,hx⟩:=hg
  obtain ⟨its,rv,p,hz⟩:=I.list hq
  obtain ⟨u,hu,ru⟩:=rv.get hx
  obtain ⟨f0,f1,f2,f3,f4,f5⟩:=hf it (by simp)
  refine wpAny_pyNext_list_item st p.isList (x:=u) (by simpa using hu) fun h' st' sb=>?_
  have I1:Inv X pins σ H { s with heap:=h' }:=I.turned (t':=s.toks) (fun b o hb e=>(sb.2 b hb).trans e) f0 f1 f3 f4 f5
  obtain ⟨o,e,c,d⟩:=id st'
  exact ⟨u,rfl,J0n (s:={ s with heap:=h' }) e c d (by decide) ⟨x,H,I1,ru,⟨rfl,fun ys hy=>by rw [I.list_inj hy hq];exact hx⟩,st',fun b hb=>(hf b hb).1⟩⟩
 done:=by
  intro X hP hw hK hc i pins s σ H E I hf st hg
  subst hP hw hK
  obtain ⟨xs,hq,hx⟩:=hg
  obtain ⟨its,rv,p,hz⟩:=I.list hq
  obtain ⟨f0,f1,f2,f3,f4,f5⟩:=hf it (by simp)
  have hl:=rv.length
  exact wpAny_pyNext_list_end (I.ok.hd hc) st p.isList (by simp;omega) fun h' eb=>⟨rfl,I.turned (t':=s.toks) (fun b o hb e=>eb b o hb e) f0 f1 f3 f4 f5⟩
 self:=fun _ _ _ _ _ st h=>wpAny_pyIter_listiter st h
theorem SU {w:World} {tg:Expr}(a it:Addr):Turn P w K tg (Itt K a) [it] it (fun i h=>h.IsTupleIter it a i) where
 mem:=by simp
 obj:=fun i h st b hb=>by
  have e:b=it:=by simpa using hb
  subst e
  obtain ⟨o,e,c,d⟩:=st
  exact ⟨o,e,fun v z=>by rw [d] at z;cases z⟩
 keep:=fun i h h' st k=>st.at fun o e=>k it (by simp) o e
 item:=by
  intro X hP hw hK hc i pins s σ H E I hf st hg
  subst hP hw hK
  obtain ⟨xs,x,hq,hx⟩:=hg
  obtain ⟨its,rv,p,hz⟩:=I.tuple hq
  obtain ⟨u,hu,ru⟩:=rv.get hx
  obtain ⟨f0,f1,f2,f3,f4,f5⟩:=hf it (by simp)
  refine wpAny_pyNext_tuple_item st (show s.heap.IsTuple a its.toArray from p) (x:=u) (by simpa using hu) fun h' st' sb=>?_
  have I1:Inv X pins σ H { s with heap:=h' }:=I.turned (t':=s.toks) (fun b o hb e=>(sb.2 b hb).trans e) f0 f1 f3 f4 f5
  obtain ⟨o,e,c,d⟩:=id st'
  exact ⟨u,rfl,J0n (s:={ s with heap:=h' }) e c d (by decide) ⟨x,H,I1,ru,⟨rfl,fun ys hy=>by rw [I.tuple_inj hy hq];exact hx⟩,st',fun b hb=>(hf b hb).1⟩⟩
 done:=by
  intro X hP hw hK hc i pins s σ H E I hf st hg
  subst hP hw hK
  obtain ⟨xs,hq,hx⟩:=hg
  obtain ⟨its,rv,p,hz⟩:=I.tuple hq
  obtain ⟨f0,f1,f2,f3,f4,f5⟩:=hf it (by simp)
  have hl:=rv.length
  exact wpAny_pyNext_tuple_end (I.ok.hd hc) st (show s.heap.IsTuple a its.toArray from p) (by simp;omega) fun h' eb=>⟨rfl,I.turned (t':=s.toks) (fun b o hb e=>eb b o hb e) f0 f1 f3 f4 f5⟩
 self:=fun _ _ _ _ _ st h=>wpAny_pyIter_tupleiter st h
theorem SV {w:World} {tg:Expr}(it:Addr)(lo:Int)(n:Nat):Turn P w K tg (Itr lo n) [it] it (fun i h=>IsRangeIter h it (lo+(i:Nat)*1) ((n:Int) - (i:Nat)) 1) where
 mem:=by simp
 obj:=fun i h st b hb=>by
  have e:b=it:=by simpa using hb
  subst e
  exact ⟨_,st,fun v z=>by
   have z':Data.fields _=Data.cell v:=z
   cases z'⟩
 keep:=fun i h h' st k=>k it (by simp) _ st
 item:=by
  intro X hP hw hK hc i pins s σ H E I hf st hg
  subst hP hw hK
  obtain ⟨f0,f1,f2,f3,f4,f5⟩:=hf it (by simp)
  have W:=Walks.range (prog:=X.prog) (w:=X.w) (I.ok.hd hc) it lo 1 n
  refine W.item i s _ _ hg st fun v h' tk hv st' kk=>?_
  obtain ⟨t,rfl⟩:=hv
  have I1:Inv X pins σ H { s with heap:=h',toks:=tk }:=I.turned (fun b o hb e=>kk b o (by simpa using hb) e) f0 f1 f3 f4 f5
  refine ⟨_,rfl,J0n (s:={ s with heap:=h',toks:=tk }) (n:="range_iterator") st' rfl rfl (by decide) ⟨.int (lo+i),H,I1,⟨t,?_⟩,⟨rfl,rfl⟩,st',fun b hb=>(hf b hb).1⟩⟩
  rw [Int.mul_one]
 done:=by
  intro X hP hw hK hc i pins s σ H E I hf st hg
  subst hP hw hK
  obtain ⟨f0,f1,f2,f3,f4,f5⟩:=hf it (by simp)
  exact wpAny_pyNext_range_end (I.ok.hd hc) st (by have:n<=i:=hg;omega) fun h' eb=>⟨rfl,I.turned (t':=s.toks) (fun b o hb e=>eb b o hb e) f0 f1 f3 f4 f5⟩
 self:=fun _ _ _ _ _ st h=>wpAny_pyIter_rangeiter st h
section
variable {X:Cx}{tg:Expr}
theorem YY {pins:List (Addr×Obj)}{σ:St}{H:Hp}{s:Shared}{R:It->Hp->Prop}{E:Value->Shared->Prop}{lo hi:Int}{t u v:Tok}{tk:Nat}(I:Inv X pins σ H s)(h1 : -(2 ^ 62)<=lo)(h2:lo<2 ^ 62)(h3 : -(2 ^ 62)<=hi)(h4:hi<2 ^ 62)
 (q:R (Itr lo (hi - lo).toNat) H):wpAny (model X.prog X.w) X.A (pyIter (.ref s.heap.objs.size)) (PIE X pins σ tg R) E { s with heap:=s.heap.push { cls:=.type "range",data:=.fields #[.int lo t,.int hi u,.int 1 v] },toks:=tk }:=by
 refine wpAny_pyIter_range (IsRange.new ..) (small_one h1 h2 h3 h4) ?_
 have I1:Inv X pins σ H { s with heap:=s.heap.push { cls:=.type "range",data:=.fields #[.int lo t,.int hi u,.int 1 v] },toks:=tk }:=I.kept fun b o e=>Heap.get?_push_of_some _ e
 refine ⟨(s.heap.push { cls:=.type "range",data:=.fields #[.int lo t,.int hi u,.int 1 v] }).objs.size,[(s.heap.push { cls:=.type "range",data:=.fields #[.int lo t,.int hi u,.int 1 v] }).objs.size],_,_,H,rfl,
  I1.kept (t':=tk) fun b o e=>Heap.get?_push_of_some _ e,SV _ lo (hi - lo).toNat,?_,fun b hb=>?_,q⟩
 · have e1:lo+((0:Nat):Int)*1=lo:=by simp
   have e2:(((hi - lo).toNat:Nat):Int) - ((0:Nat):Int)=Builtin.Range.rangeSize lo hi 1:=by rw [rangeSize_one];split<;>omega
   show IsRangeIter _ _ (lo+((0:Nat):Int)*1) ((((hi - lo).toNat:Nat):Int) - ((0:Nat):Int)) 1
   rw [e1,e2]
   exact Heap.get?_push_size _ rfl
 · have e:b=(s.heap.push { cls:=.type "range",data:=.fields #[.int lo t,.int hi u,.int 1 v] }).objs.size:=by simpa using hb
   subst e
   exact I1.fpOk (Nat.le_refl _) (I1.hok.fresh (Nat.le_refl _))
def Q1o (ta:TA):TI:=fun σ H R=>ta σ H fun vs H1=>∃ j:Int,vs=[.int j]/\-(2 ^ 62)<=j/\j<2 ^ 62/\R (Itr 0 j.toNat) H1
theorem NQ {a:Expr}{ta:TA}{p pos:Pos}(hg:Gl X "range") (hm:X.mg "range" = none) (ha:PA X [a] ta) (hs:starEach [a] X.env=[(false,eval a X.env)]:=by rfl):PI X tg (.Call (.Name "range" p) [a] [] pos) (Q1o ta):=by
 intro pins s σ H R I h
 refine Call_ (PL I hg hm boot_range (PyProof.Rows.callWith_type1 (thn (ha pos pins s σ H _ I h) fun us s1 ⟨vs,H1,I1,r1,q1⟩=>?_) hs rfl))
 obtain ⟨j,e,q1,q2,q⟩:=q1
 subst e
 cases r1 with
 | cons r rr =>
   cases rr
   obtain ⟨t,rfl⟩:=r
   exact call_range_1 (YY I1 (by omega) (by omega) q1 q2 (by simpa using q))
def J7l (wi:TI)(g:TG)(tb:TS):TS:=fun D σ H=>wi σ H fun J H1=>∃ W:Nat->Nat->St->Hp->Prop,(∃ m,W 0 m σ H1)/\∀ i m σ H,W i m σ H ->
 (J.stop i H/\D.nx σ H)\/(J.go i H/\∃ N:St->Hp->Prop,(∀ σ' H',N σ' H'->∃ m',m'<m/\W (i+1) m' σ' H')/\∀ x H',J.yld i H x H'->g x σ H' fun σ2 H2=>tb { D with nx:=N,ct:=N,bk:=D.nx } σ2 H2)
def FQ (fp:List Addr)(h:Heap):List (Addr×Obj):=fp.filterMap fun b=>(h.get? b).map fun o=>(b,o)
theorem BK {fp:List Addr}{h:Heap}{b:Addr}{o:Obj}(hb:b∈fp)(e:h.get? b=some o):(b,o)∈FQ fp h:=List.mem_filterMap.mpr ⟨b,hb,by rw [e];rfl⟩
theorem NS {fp:List Addr}{h:Heap}{p:Addr×Obj}(hp:p∈FQ fp h):p.1∈fp/\h.get? p.1=some p.2:=by
 obtain ⟨b,hb,e⟩:=List.mem_filterMap.mp hp
 cases q:h.get? b with
 | none=>rw [q] at e;cases e
 | some o =>
   rw [q] at e
   have e':(b,o)=p:=Option.some.inj e
   subst e'
   exact ⟨hb,q⟩
theorem Inv.pinned {pins:List (Addr×Obj)}{σ:St}{H:Hp}{s:Shared}{fp:List Addr}(I:Inv X pins σ H s)(hf:∀ b∈fp,HJ X pins H b)(ho:∀ b∈fp,∃ o,s.heap.get? b=some o/\∀ v,o.data≠.cell v):Inv X (pins++FQ fp s.heap) σ H s :=
 I.pins_of fun p hp=>(List.mem_append.mp hp).elim (fun z=>I.pin p (List.mem_append_right _ z)) fun z=>by
  obtain ⟨hb,e⟩:=NS z
  obtain ⟨f0,f1,f2,_⟩:=hf p.1 hb
  obtain ⟨o,e',d⟩:=ho p.1 hb
  rw [e] at e';cases e'
  exact ⟨e,f0,f1,f2,d⟩
theorem Inv.unpinned {pins pl:List (Addr×Obj)}{σ:St}{H:Hp}{s:Shared}(I:Inv X (pins++pl) σ H s):Inv X pins σ H s:=I.pins_of fun p hp=>I.pin p (List.mem_append_right _ (List.mem_append_left _ hp))
theorem ZJ {iter:Expr}{body:List Stmt}{wi:TI}{g:TG}{tb:TS}{pos:Pos}(hp:PassesOwn (model X.prog X.w) X.A X.env X.xe)(hc:X.calm=true)(hi:PI X tg iter wi)(hg:PG X tg g)(hb:PSs X body tb)
 (hs:∀ x,foldedSetIterable iter X.env x=pure x:=by intro _;rfl):PS X (.For tg iter body [] pos) (J7l wi g tb):=by
 intro pins s σ H D I h
 refine wpAny_For (thn (hi pins s σ H _ I h) fun v s1 h1=>thn h1 fun itv s2 h2=>?_) hs
 obtain ⟨it,fp,tn,J,H2,e,I2,T,st2,f2,W,⟨m0,w0⟩,turn⟩:=h2
 subst e
 have stat:∀ {H':Hp},(∀ b∈fp,H' b=none)->∀ b∈fp,HJ X pins H' b:=fun hn b hb=>⟨hn b hb,(f2 b hb).2⟩
 refine codeAny_forLoop_any (fun n s'=>∃ i σ' H',Inv X pins σ' H' s'/\tn i s'.heap/\(∀ b∈fp,H' b=none)/\W i n σ' H') ?_ m0 ⟨0,σ,H2,I2,st2,fun b hb=>(f2 b hb).1,w0⟩
 rintro n s3 ⟨i,σ3,H3,I3,st3,fr3,w3⟩
 rcases turn i n σ3 H3 w3 with ⟨stop,qn⟩|⟨go,N,hN,step⟩
 · refine wpAny_passesOwn hp (thn (T.done X rfl rfl rfl hc i pins s3 σ3 H3 X.xe I3 (stat fr3) st3 stop) fun r s4 ⟨hr,I4⟩=>?_)
   subst hr
   exact wpAny_execs_nil ⟨σ3,H3,I4,qn⟩
 · refine wpAny_passesOwn hp (thn (T.item X rfl rfl rfl hc i pins s3 σ3 H3 X.xe I3 (stat fr3) st3 go) fun r s4 ⟨u,hr,h4⟩=>?_)
   subst hr
   refine wpAny_passesOwn hp (thn h4 fun _ s5 ⟨x,H5,I5,r5,y5,st5,fr5⟩=>?_)
   have I5':=I5.pinned (stat fr5) (T.obj _ _ st5)
   refine wpAny_passesOwn hp (thn (hg _ s5 σ3 H5 x u _ I5' r5 (step x H5 y5)) fun _ s6 ⟨σ6,H6,I6,q6⟩=>?_)
   refine wpAny_passesOwn hp (thn (hb _ s6 σ6 H6 _ I6 q6) fun f s7 q7=>?_)
   have again:∀ {σ7:St} {H7:Hp},Inv X (pins++FQ fp s5.heap) σ7 H7 s7->N σ7 H7->∃ m,m<n/\∃ i σ' H',Inv X pins σ' H' s7/\tn i s7.heap/\(∀ b∈fp,H' b=none)/\W i m σ' H':=fun {σ7 H7} I7 n7=>by
    obtain ⟨m',hm,w7⟩:=hN σ7 H7 n7
    refine ⟨m',hm,i+1,σ7,H7,I7.unpinned,T.keep _ _ _ st5 fun b hb o e=>(I7.pin (b,o) (List.mem_append_right _ (List.mem_append_right _ (BK hb e)))).1,fun b hb=>?_,w7⟩
    obtain ⟨o,e,d⟩:=T.obj _ _ st5 b hb
    exact (I7.pin (b,o) (List.mem_append_right _ (List.mem_append_right _ (BK hb e)))).2.1
   cases f with
   | next=>obtain ⟨σ7,H7,I7,n7⟩:=q7;exact again I7 n7
   | cont=>obtain ⟨σ7,H7,I7,n7⟩:=q7;exact again I7 n7
   | brk=>obtain ⟨σ7,H7,I7,q7⟩:=q7;exact ⟨σ7,H7,I7.unpinned,q7⟩
   | ret v=>obtain ⟨x7,σ7,H7,I7,r7,q7⟩:=q7;exact ⟨x7,σ7,H7,I7.unpinned,r7,q7⟩
end
abbrev R2:=V->V->Hp->VK->Prop
def OpR (X:Cx)(f:Value->Value->Sem Value)(r:R2):Prop :=
 ∀ (pins:List (Addr×Obj)) (s:Shared) (σ:St) (H:Hp) (x y:V) (v u:Value) (Q:VK),Inv X pins σ H s->RelV x v->RelV y u->r x y H Q ->
  wpAny (model X.prog X.w) X.A (f v u) (EP X pins σ Q) X.xe s
def UnR (X:Cx)(f:Value->Sem Value)(r:V->Hp->VK->Prop):Prop :=
 ∀ (pins:List (Addr×Obj)) (s:Shared) (σ:St) (H:Hp) (x:V) (v:Value) (Q:VK),Inv X pins σ H s->RelV x v->r x H Q ->
  wpAny (model X.prog X.w) X.A (f v) (EP X pins σ Q) X.xe s
def AV (X:Cx)(f:Value)(r:List V->Hp->VK->Prop):Prop :=
 ∀ (pins:List (Addr×Obj)) (s:Shared) (σ:St) (H:Hp) (xs:List V) (us:List Value) (Q:VK),Inv X pins σ H s->Vals xs us->r xs H Q ->
  wpAny (model X.prog X.w) X.A (call f us) (EP X pins σ Q) X.xe s
def Q3l (X:Cx)(r:V->Hp->(Bool->Hp->Prop)->Prop):Prop :=
 ∀ (pins:List (Addr×Obj)) (s:Shared) (σ:St) (H:Hp) (x:V) (v:Value) (Q:Bool->Hp->Prop),Inv X pins σ H s->RelV x v->r x H Q ->
  wpAny (model X.prog X.w) X.A (truthy v) (TP X pins σ Q) X.xe s
def tOp (r:R2)(ta tb:TE):TE:=fun σ H Q=>ta σ H fun x H1=>tb σ H1 fun y H2=>r x y H2 Q
def tUn (r:V->Hp->VK->Prop)(ta:TE):TE:=fun σ H Q=>ta σ H fun x H1=>r x H1 Q
def rI (C:Int->Int->Prop)(g:Int->Int->V):R2:=fun x y H Q=>∃ i j,x=.int i/\y=.int j/\C i j/\Q (g i j) H
def rI0 (g:Int->Int->V):R2:=fun x y H Q=>∃ i j,x=.int i/\y=.int j/\Q (g i j) H
def rU (g:Int->V):V->Hp->VK->Prop:=fun x H Q=>∃ i,x=.int i/\Q (g i) H
section
variable {X:Cx}{a b:Expr}{ta tb:TE}{pos:Pos}
theorem Q0a (ha:PE X a ta)(hb:PE X b tb){pins:List (Addr×Obj)}{s:Shared}{σ:St}{H:Hp}{R:V->V->Hp->Prop}(I:Inv X pins σ H s)
 (h:ta σ H fun x H1=>tb σ H1 fun y H2=>R x y H2) {Q:Value->Shared->Prop} {f:Value->Value->Sem Value}
 (hf:∀ v u s2 x y H2,Inv X pins σ H2 s2->RelV x v->RelV y u->R x y H2->wpAny (model X.prog X.w) X.A (f v u) Q X.xe s2) :
 wpAny (model X.prog X.w) X.A (eval a X.env) (fun v s₁=>wpAny (model X.prog X.w) X.A (eval b X.env) (fun u s₂=>wpAny (model X.prog X.w) X.A (f v u) Q X.xe s₂) X.xe s₁) X.xe s:=by
 refine thn (ha pins s σ H _ I h) fun v s1 ⟨x,H1,I1,r1,q1⟩=>?_
 refine thn (hb pins s1 σ H1 _ I1 q1) fun u s2 ⟨y,H2,I2,r2,q2⟩=>?_
 exact hf v u s2 x y H2 I2 r1 r2 q2
theorem AQ {op:Operator}{r:R2}(ho:OpR X (binaryOp op) r)(ha:PE X a ta)(hb:PE X b tb):PE X (.BinOp a op b pos) (tOp r ta tb):=by
 intro pins s σ H Q I h
 exact wpAny_BinOp (Q0a ha hb I h fun v u s2 x y H2 I2 rx ry q=>ho pins s2 σ H2 x y v u Q I2 rx ry q)
theorem Q1a {op:UnaryOp}{r:V->Hp->VK->Prop}(ho:UnR X (unaryOp op) r)(ha:PE X a ta):PE X (.UnaryOp op a pos) (tUn r ta):=by
 intro pins s σ H Q I h
 exact UnaryOp_ (thn (ha pins s σ H _ I h) fun v s1 ⟨x,H1,I1,r1,q1⟩=>ho pins s1 σ H1 x v Q I1 r1 q1)
theorem opI {f:Value->Value->Sem Value}{C:Int->Int->Prop}{g:Int->Int->Int}
 (rule:∀ (i j:Int) (t u:Tok) (s:Shared) (Q:Value->Shared->Prop) (E:Value->Shared->Prop),C i j->Q (.int (g i j) s.toks) { s with toks:=s.toks+1 }->wpAny (model X.prog X.w) X.A (f (.int i t) (.int j u)) Q E s) :
 OpR X f (rI C fun i j=>.int (g i j)):=by
 intro pins s σ H x y v u Q I rx ry h
 obtain ⟨i,j,rfl,rfl,hc,q⟩:=h
 obtain ⟨t,rfl⟩:=rx
 obtain ⟨t',rfl⟩:=ry
 exact rule i j t t' s _ _ hc ⟨.int (g i j),H,I.tok _,⟨_,rfl⟩,q⟩
theorem Q1d {f:Value->Value->Sem Value}{g:Int->Int->Int}
 (rule:∀ (i j:Int) (t u:Tok) (s:Shared) (Q:Value->Shared->Prop) (E:Value->Shared->Prop),Q (.int (g i j) s.toks) { s with toks:=s.toks+1 }->wpAny (model X.prog X.w) X.A (f (.int i t) (.int j u)) Q E s) :
 OpR X f (rI0 fun i j=>.int (g i j)):=by
 intro pins s σ H x y v u Q I rx ry h
 obtain ⟨i,j,rfl,rfl,q⟩:=h
 obtain ⟨t,rfl⟩:=rx
 obtain ⟨t',rfl⟩:=ry
 exact rule i j t t' s _ _ ⟨.int (g i j),H,I.tok _,⟨_,rfl⟩,q⟩
theorem J3r {f:Value->Value->Sem Value}{g:Int->Int->Bool}
 (rule:∀ (i j:Int) (t u:Tok) (s:Shared) (Q:Value->Shared->Prop) (E:Value->Shared->Prop),Q (.bool (g i j)) s->wpAny (model X.prog X.w) X.A (f (.int i t) (.int j u)) Q E s) :
 OpR X f (rI0 fun i j=>.bl (g i j)):=by
 intro pins s σ H x y v u Q I rx ry h
 obtain ⟨i,j,rfl,rfl,q⟩:=h
 obtain ⟨t,rfl⟩:=rx
 obtain ⟨t',rfl⟩:=ry
 exact rule i j t t' s _ _ ⟨.bl (g i j),H,I,rfl,q⟩
def Q3n (i j:Int):Prop:=0<=j/\j<=1000000/\i.natAbs<2 ^ 64
def CMul (i j:Int):Prop:=(-(2 ^ 64)<i/\i<2 ^ 64)\/(-(2 ^ 64)<j/\j<2 ^ 64)
theorem CMul.ok {i j:Int}(h:CMul i j):IntMulOk i j:=by
 rcases h with ⟨h1,h2⟩|⟨h1,h2⟩
 · exact .of_left (intBits_le_64 h1 h2)
 · exact .of_right (intBits_le_64 h1 h2)
theorem BB:OpR X (binaryOp .Add) (rI0 fun i j=>.int (i+j)):=Q1d fun _ _ _ _ _ _ _ q=>add_int q
theorem OU:OpR X (binaryOp .Sub) (rI0 fun i j=>.int (i - j)):=Q1d fun _ _ _ _ _ _ _ q=>sub_int q
theorem GE:OpR X (binaryOp .Mod) (rI (fun _ j=>0<j) fun i j=>.int (i % j)):=opI fun i j _ _ _ _ _ hc q=>by
 have h1:(0:Int)<j:=hc
 exact mod_int' (by omega) (by rw [Int.fmod_eq_emod_of_nonneg i (by omega)];exact q)
theorem LZ:OpR X (binaryOp .Pow) (rI Q3n fun i j=>.int (i ^ j.toNat)):=opI fun _ _ _ _ _ _ _ hc q=>pow_int_small hc.1 hc.2.1 hc.2.2 q
theorem unI {f:Value->Sem Value}{g:Int->Int}
 (rule:∀ (i:Int) (t:Tok) (s:Shared) (Q:Value->Shared->Prop) (E:Value->Shared->Prop),Q (.int (g i) s.toks) { s with toks:=s.toks+1 }->wpAny (model X.prog X.w) X.A (f (.int i t)) Q E s) :
 UnR X f (rU fun i=>.int (g i)):=by
 intro pins s σ H x v Q I rx h
 obtain ⟨i,rfl,q⟩:=h
 obtain ⟨t,rfl⟩:=rx
 exact rule i t s _ _ ⟨.int (g i),H,I.tok _,⟨_,rfl⟩,q⟩
theorem J7g:UnR X (unaryOp .USub) (rU fun i=>.int (-i)):=unI fun _ _ _ _ _ q=>neg_int q
end
def Q0x:V->V->Bool
 | .non,.non=>true|.non,.int _=>true|.int _,.non=>true|.non,.bl _=>true|.bl _,.non=>true|.non,.str _=>true|.str _,.non=>true
 | .int _,.int _=>true|.bl _,.bl _=>true|.str _,.str _=>true|.byt _,.byt _=>true
 | .int _,.str _=>true|.str _,.int _=>true|.bl _,.str _=>true|.str _,.bl _=>true
 | _,_=>false
def rEq:R2:=fun x y H Q=>Q0x x y=true/\Q (.bl (decide (x=y))) H
def rNe:R2:=fun x y H Q=>Q0x x y=true/\Q (.bl (!decide (x=y))) H
theorem VT {i j:Int}:decide (V.int i=V.int j)=(i==j):=by
 rw [Bool.eq_iff_iff]
 simp
theorem J0y {i j:Bool}:decide (V.bl i=V.bl j)=(i==j):=by
 rw [Bool.eq_iff_iff]
 simp
theorem VS {i j:Str}:decide (V.str i=V.str j)=(i==j):=by
 rw [Bool.eq_iff_iff]
 simp
theorem VU {i j:Array UInt8}:decide (V.byt i=V.byt j)=(i.toList==j.toList):=by
 rw [Bool.eq_iff_iff]
 cases i
 cases j
 simp
section
variable {X:Cx}{a b c:Expr}{ta tb tc:TE}{pos:Pos}
theorem Z8 {pins:List (Addr×Obj)}{σ:St}{H:Hp}{s:Shared}{Q:VK}{k k':Bool}(I:Inv X pins σ H s)(q:Q (.bl k) H)(e:k=k'):EP X pins σ Q (.bool k') s:=by
 subst e
 exact ⟨.bl k,H,I,rfl,q⟩
theorem DH:OpR X (compareOp .Eq) rEq:=by
 intro pins s σ H x y v u Q I rx ry h
 obtain ⟨hs,q⟩:=h
 cases x with
 | non =>
   cases rx
   cases y with
   | non=>cases ry;exact PySem.EqNone.eq_none_none (Z8 I q (by simp))
   | bl j=>cases ry;exact PySem.EqNone.eq_none_bool (Z8 I q (by simp))
   | int j=>obtain ⟨t',rfl⟩:=ry;exact PySem.EqNone.eq_none_int (Z8 I q (by simp))
   | str j=>obtain ⟨t',rfl⟩:=ry;exact PySem.EqNone.eq_none_str (Z8 I q (by simp))
   | _=>exact absurd (show false=true from hs) Bool.false_ne_true
 | bl i =>
   cases rx
   cases y with
   | non=>cases ry;exact PySem.EqNone.eq_bool_none (Z8 I q (by simp))
   | bl j=>cases ry;exact eq_bool (Z8 I q J0y)
   | str j=>obtain ⟨t',rfl⟩:=ry;exact PySem.EqMixed.eq_bool_str (Z8 I q (by simp))
   | _=>exact absurd (show false=true from hs) Bool.false_ne_true
 | int i =>
   obtain ⟨t,rfl⟩:=rx
   cases y with
   | non=>cases ry;exact PySem.EqNone.eq_int_none (Z8 I q (by simp))
   | int j=>obtain ⟨t',rfl⟩:=ry;exact eq_int (Z8 I q VT)
   | str j=>obtain ⟨t',rfl⟩:=ry;exact PySem.EqMixed.eq_int_str (Z8 I q (by simp))
   | _=>exact absurd (show false=true from hs) Bool.false_ne_true
 | str i =>
   obtain ⟨t,rfl⟩:=rx
   cases y with
   | non=>cases ry;exact PySem.EqNone.eq_str_none (Z8 I q (by simp))
   | bl j=>cases ry;exact PySem.EqMixed.eq_str_bool (Z8 I q (by simp))
   | int j=>obtain ⟨t',rfl⟩:=ry;exact PySem.EqMixed.eq_str_int (Z8 I q (by simp))
   | str j=>obtain ⟨t',rfl⟩:=ry;exact eq_str (Z8 I q VS)
   | _=>exact absurd (show false=true from hs) Bool.false_ne_true
 | byt i =>
   obtain ⟨t,rfl⟩:=rx
   cases y with
   | byt j=>obtain ⟨t',rfl⟩:=ry;exact PySem.W.eq_bytes (Z8 I q VU)
   | _=>exact absurd (show false=true from hs) Bool.false_ne_true
 | _=>cases y<;>exact absurd (show false=true from hs) Bool.false_ne_true
theorem KA:OpR X (compareOp .NotEq) rNe:=by
 intro pins s σ H x y v u Q I rx ry h
 obtain ⟨hs,q⟩:=h
 cases x with
 | non =>
   cases rx
   cases y with
   | non=>cases ry;exact PySem.EqNone.ne_none_none (Z8 I q (by simp))
   | bl j=>cases ry;exact PySem.EqNone.ne_none_bool (Z8 I q (by simp))
   | int j=>obtain ⟨t',rfl⟩:=ry;exact PySem.EqNone.ne_none_int (Z8 I q (by simp))
   | str j=>obtain ⟨t',rfl⟩:=ry;exact PySem.EqNone.ne_none_str (Z8 I q (by simp))
   | _=>exact absurd (show false=true from hs) Bool.false_ne_true
 | bl i =>
   cases rx
   cases y with
   | non=>cases ry;exact PySem.EqNone.ne_bool_none (Z8 I q (by simp))
   | bl j=>cases ry;exact ne_bool (Z8 I q (congrArg not J0y))
   | str j=>obtain ⟨t',rfl⟩:=ry;exact PySem.EqMixed.ne_bool_str (Z8 I q (by simp))
   | _=>exact absurd (show false=true from hs) Bool.false_ne_true
 | int i =>
   obtain ⟨t,rfl⟩:=rx
   cases y with
   | non=>cases ry;exact PySem.EqNone.ne_int_none (Z8 I q (by simp))
   | int j=>obtain ⟨t',rfl⟩:=ry;exact ne_int (Z8 I q (congrArg not VT))
   | str j=>obtain ⟨t',rfl⟩:=ry;exact PySem.EqMixed.ne_int_str (Z8 I q (by simp))
   | _=>exact absurd (show false=true from hs) Bool.false_ne_true
 | str i =>
   obtain ⟨t,rfl⟩:=rx
   cases y with
   | non=>cases ry;exact PySem.EqNone.ne_str_none (Z8 I q (by simp))
   | bl j=>cases ry;exact PySem.EqMixed.ne_str_bool (Z8 I q (by simp))
   | int j=>obtain ⟨t',rfl⟩:=ry;exact PySem.EqMixed.ne_str_int (Z8 I q (by simp))
   | str j=>obtain ⟨t',rfl⟩:=ry;exact ne_str (Z8 I q (congrArg not VS))
   | _=>exact absurd (show false=true from hs) Bool.false_ne_true
 | byt i =>
   obtain ⟨t,rfl⟩:=rx
   cases y with
   | byt j=>obtain ⟨t',rfl⟩:=ry;exact PySem.W.ne_bytes (Z8 I q (congrArg not VU))
   | _=>exact absurd (show false=true from hs) Bool.false_ne_true
 | _=>cases y<;>exact absurd (show false=true from hs) Bool.false_ne_true
theorem KB:OpR X (compareOp .Lt) (rI0 fun i j=>.bl (decide (i<j))):=J3r fun _ _ _ _ _ _ _ q=>lt_int q
theorem KC:OpR X (compareOp .LtE) (rI0 fun i j=>.bl (decide (i<=j))):=J3r fun _ _ _ _ _ _ _ q=>le_int q
theorem RF:OpR X (compareOp .Gt) (rI0 fun i j=>.bl (decide (j<i))):=J3r fun _ _ _ _ _ _ _ q=>gt_int q
theorem ZR:OpR X (compareOp .GtE) (rI0 fun i j=>.bl (decide (j<=i))):=J3r fun _ _ _ _ _ _ _ q=>ge_int q
theorem Q9 (b:Expr){op:CmpOp}(h:op≠.In:=by decide)(h2:op≠.NotIn:=by decide):behindInMarks op b=false:=by
 have e1:(op==CmpOp.In)=false:=by cases op<;>first|rfl|exact absurd rfl h
 have e2:(op==CmpOp.NotIn)=false:=by cases op<;>first|rfl|exact absurd rfl h2
 cases b<;>simp [behindInMarks,e1,e2]
theorem VD {op:CmpOp}{r:R2}(ho:OpR X (compareOp op) r)(ha:PE X a ta)(hb:PE X b tb)(hm:behindInMarks op b=false):PE X (.Compare a [op] [b] pos) (tOp r ta tb):=by
 intro pins s σ H Q I h
 exact wpAny_Compare1 (Q0a ha hb I h fun v u s2 x y H2 I2 rx ry q=>ho pins s2 σ H2 x y v u Q I2 rx ry q) hm
def J5m (t:TE):TT:=fun σ H Q=>t σ H fun x H'=>∃ k,x=.bl k/\Q k H'
theorem LB {op:CmpOp}{r:R2}(ho:OpR X (compareOp op) r)(ha:PE X a ta)(hb:PE X b tb)(hm:behindInMarks op b=false):PT X (.Compare a [op] [b] pos) (J5m (tOp r ta tb)):=by
 intro pins s σ H Q I h
 refine wpAny_isTrue_Compare1 (thn (ha pins s σ H _ I h) fun v s1 ⟨x,H1,I1,r1,q1⟩=>thn (hb pins s1 σ H1 _ I1 q1) fun u s2 ⟨y,H2,I2,r2,q2⟩ =>
  thn (ho pins s2 σ H2 x y v u _ I2 r1 r2 q2) fun c s3 ⟨z,H3,I3,r3,k,e,q3⟩=>?_) hm
 subst e
 cases r3
 exact wpAny_truthy_bool ⟨H3,I3,q3⟩
def YT (r r':R2)(ta tb tc:TE):TE:=fun σ H Q=>ta σ H fun x H1=>tb σ H1 fun y H2=>r x y H2 fun z H3=>∃ k,z=.bl k /\
 (if k=true then tc σ H3 fun w' H4=>r' y w' H4 Q else Q (.bl false) H3)
theorem ZQ {op op':CmpOp}{r r':R2}(ho:OpR X (compareOp op) r)(ho':OpR X (compareOp op') r')(ha:PE X a ta)(hb:PE X b tb)(hc:PE X c tc)
 (hm:lastMarks [op,op'] [b,c]=false:=by with_unfolding_all rfl):PE X (.Compare a [op,op'] [b,c] pos) (YT r r' ta tb tc):=by
 intro pins s σ H Q I h
 refine Compare_chain (thn (ha pins s σ H _ I h) fun v s1 ⟨x,H1,I1,r1,q1⟩=>chain_link (thn (hb pins s1 σ H1 _ I1 q1) fun u s2 ⟨y,H2,I2,r2,q2⟩ =>
  thn (ho pins s2 σ H2 x y v u _ I2 r1 r2 q2) fun d s3 ⟨z,H3,I3,r3,k,e,q3⟩=>?_)) hm
 subst e
 cases r3
 refine wpAny_truthy_bool ?_
 cases k with
 | false=>exact ite_ff ⟨.bl false,H3,I3,rfl,q3⟩
 | true=>exact ite_tt (chain_last (thn (hc pins s3 σ H3 _ I3 q3) fun w' s4 ⟨z',H4,I4,r4,q4⟩=>ho' pins s4 σ H4 y z' u w' Q I4 r2 r4 q4))
theorem ZE {op op':CmpOp}{r r':R2}(ho:OpR X (compareOp op) r)(ho':OpR X (compareOp op') r')(ha:PE X a ta)(hb:PE X b tb)(hc:PE X c tc)
 (hm:lastMarks [op,op'] [b,c]=false:=by with_unfolding_all rfl):PT X (.Compare a [op,op'] [b,c] pos) (J5m (YT r r' ta tb tc)):=by
 intro pins s σ H Q I h
 refine isTrue_chain (thn (ha pins s σ H _ I h) fun v s1 ⟨x,H1,I1,r1,q1⟩=>test_link (thn (hb pins s1 σ H1 _ I1 q1) fun u s2 ⟨y,H2,I2,r2,q2⟩ =>
  thn (ho pins s2 σ H2 x y v u _ I2 r1 r2 q2) fun d s3 ⟨z,H3,I3,r3,k,e,q3⟩=>?_)) hm
 subst e
 cases r3
 refine wpAny_truthy_bool ?_
 cases k with
 | false =>
   obtain ⟨k',e',q'⟩:=q3
   cases e'
   exact ite_ff ⟨H3,I3,q'⟩
 | true =>
   refine ite_tt (test_last (thn (hc pins s3 σ H3 _ I3 q3) fun w' s4 ⟨z',H4,I4,r4,q4⟩=>thn (ho' pins s4 σ H4 y z' u w' _ I4 r2 r4 q4) fun d' s5 ⟨z2,H5,I5,r5,k2,e2,q5⟩=>?_))
   subst e2
   cases r5
   exact wpAny_truthy_bool ⟨H5,I5,q5⟩
def Q0c (K:Fg)(x:V)(H:Hp)(k:Bool):Prop :=
 match x with
 | .non=>k=false
 | .bl b=>k=b
 | .int i=>k=(i != 0)
 | .str y=>y.length<=sizeLine/\k=((y.length:Int)!=0)
 | .byt y=>y.size<=sizeLine/\k=((y.size:Int)!=0)
 | .ref p=>(∃ xs,SqL K H p xs/\k = !xs.isEmpty)\/(∃ xs,SqT K H p xs/\k = !xs.isEmpty)\/∃ kvs,H p=some (.dK kvs)/\k = !kvs.isEmpty
 | _=>False
theorem TZ {κ:Type}{kvs:List (κ×V)}{vs:List (κ×Value)}(r:KV kvs vs):(!vs.isEmpty) = !kvs.isEmpty:=by
 cases r<;>rfl
theorem MK {xs:List V}{its:List Value}(r:Vals xs its):(!its.toArray.isEmpty) = !xs.isEmpty:=by
 cases r<;>simp
theorem MH:(sizeLine:Nat)<2 ^ 63:=by rw [sizeLine_eq];decide
theorem J7j:Q3l X (fun x H Q=>∃ k,Q0c X.K x H k/\Q k H):=by
 intro pins s σ H x v Q I rx h
 obtain ⟨k,e,q⟩:=h
 have hl:=MH
 have hs:sizeLine=16777216:=sizeLine_eq
 cases x with
 | non =>
   cases rx
   have e':k=false:=e
   subst e'
   exact truthy_none ⟨H,I,q⟩
 | bl b =>
   cases rx
   have e':k=b:=e
   subst e'
   exact wpAny_truthy_bool ⟨H,I,q⟩
 | int i =>
   obtain ⟨t,rfl⟩:=rx
   have e':k=(i != 0):=e
   subst e'
   exact PySem.P.truthy_int ⟨H,I,q⟩
 | str y =>
   obtain ⟨t,rfl⟩:=rx
   obtain ⟨hy,e'⟩:y.length<=sizeLine/\k=((y.length:Int)!=0):=e
   subst e'
   exact PySem.P.truthy_str (by omega) ⟨H,I.tok _,q⟩
 | byt y =>
   obtain ⟨t,rfl⟩:=rx
   obtain ⟨hy,e'⟩:y.size<=sizeLine/\k=((y.size:Int)!=0):=e
   subst e'
   exact PySem.W.truthy_bytes (by omega) ⟨H,I.tok _,q⟩
 | ref p =>
   cases rx
   have e':(∃ xs,SqL X.K H p xs/\k = !xs.isEmpty)\/(∃ xs,SqT X.K H p xs/\k = !xs.isEmpty)\/∃ kvs,H p=some (.dK kvs)/\k = !kvs.isEmpty:=e
   rcases e' with ⟨xs,hx,e'⟩|⟨xs,hx,e'⟩|⟨kvs,hx,e'⟩
   · subst e'
     obtain ⟨its,r,pl,hz⟩:=I.list hx
     have hlen:=r.length
     exact wpAny_truthy_list pl.isList (by simp only [List.size_toArray];omega) ⟨H,I.tok _,by rw [MK r];exact q⟩
   · subst e'
     obtain ⟨its,r,pl,hz⟩:=I.tuple hx
     have hlen:=r.length
     exact truthy_tuple pl (by simp only [List.size_toArray];omega) ⟨H,I.tok _,by rw [MK r];exact q⟩
   · subst e'
     obtain ⟨hz,hS,vs,r,m⟩:kvs.length<=sizeLine/\(p==sysModules)=false/\∃ vs,KV kvs vs/\s.heap.DictOf (PJ X.prog X.w) p vs:=I.hok p _ hx
     have hlen:kvs.length=vs.length:=Paired.length r
     exact wpAny_truthy_dict hS m (by omega) ⟨H,I.tok _,by rw [TZ r];exact q⟩
 | _=>exact (show False from e).elim
theorem ZD (ha:PE X a ta)(he:∀ whole,isTrue a X.env whole=(do let v <- whole;standAt a.pos;holding [v] (truthy v))) :
 PT X a (fun σ H Q=>ta σ H fun x H'=>∃ k,Q0c X.K x H' k/\Q k H'):=by
 intro pins s σ H Q I h
 exact isTrue_plain (thn (ha pins s σ H _ I h) fun v s1 ⟨x,H1,I1,r1,q1⟩=>J7j pins s1 σ H1 x v Q I1 r1 q1) (he _)
theorem ET {x:V}{us:List Value}(r:Vals [x] us):∃ u,us=[u]/\RelV x u:=by
 cases r with
 | cons r1 r2=>cases r2;exact ⟨_,rfl,r1⟩
theorem LL {x y:V}{us:List Value}(r:Vals [x,y] us):∃ u w',us=[u,w']/\RelV x u/\RelV y w':=by
 cases r with
 | cons r1 r2 =>
   cases r2 with
   | cons r3 r4=>cases r4;exact ⟨_,_,rfl,r1,r3⟩
theorem MT:AV X (.builtin "abs") (fun xs H Q=>∃ i,xs=[.int i]/\Q (.int (if i<0 then -i else i)) H):=by
 intro pins s σ H xs us Q I r h
 obtain ⟨i,rfl,q⟩:=h
 obtain ⟨u,rfl,t,rfl⟩:=ET r
 exact call_abs_int fun u tk=>⟨.int (if i<0 then -i else i),H,I.tok _,⟨_,rfl⟩,q⟩
theorem YE (hc:X.calm=true):AV X (.builtin "max") (fun xs H Q=>∃ i j,xs=[.int i,.int j]/\Q (.int (if j>i then j else i)) H):=by
 intro pins s σ H xs us Q I r h
 obtain ⟨i,j,rfl,q⟩:=h
 obtain ⟨u,w',rfl,⟨t,rfl⟩,⟨t',rfl⟩⟩:=LL r
 refine max_two_ints (I.ok.hd hc) fun h' tk k=>⟨_,H,I.kept k,?_,q⟩
 by_cases hj:j>i
 · rw [if_pos hj,if_pos hj];exact ⟨_,rfl⟩
 · rw [if_neg hj,if_neg hj];exact ⟨_,rfl⟩
theorem YD (hc:X.calm=true):AV X (.builtin "min") (fun xs H Q=>∃ i j,xs=[.int i,.int j]/\Q (.int (if j<i then j else i)) H):=by
 intro pins s σ H xs us Q I r h
 obtain ⟨i,j,rfl,q⟩:=h
 obtain ⟨u,w',rfl,⟨t,rfl⟩,⟨t',rfl⟩⟩:=LL r
 refine min_two_ints (I.ok.hd hc) fun h' tk k=>⟨_,H,I.kept k,?_,q⟩
 by_cases hj:j<i
 · rw [if_pos hj,if_pos hj];exact ⟨_,rfl⟩
 · rw [if_neg hj,if_neg hj];exact ⟨_,rfl⟩
theorem YF:AV X (.type "int") (fun xs H Q=>(∃ i,xs=[.int i]/\Q (.int i) H)\/∃ k,xs=[.bl k]/\Q (.int (if k then 1 else 0)) H):=by
 intro pins s σ H xs us Q I r h
 rcases h with ⟨i,rfl,q⟩|⟨k,rfl,q⟩
 · obtain ⟨u,rfl,t,rfl⟩:=ET r
   exact call_int_int ⟨.int i,H,I,⟨_,rfl⟩,q⟩
 · obtain ⟨u,rfl,r1⟩:=ET r
   cases r1
   exact call_int_bool ⟨.int (if k then 1 else 0),H,I.tok _,⟨_,rfl⟩,q⟩
end
structure ObjM (h:Heap)(x dx C:Addr)(mA:Str->Option Value):Prop where
 obj:h.get? x=some (PySem.W.instObj C dx)
 ns:h.Ns1 dx mA
 ne:dx≠x
theorem XE {h:Heap}{dx:Addr}{mA:Str->Option Value}(n:h.Ns1 dx mA):∃ od,h.get? dx=some od/\∀ name,PySem.W.lookIn name od=some (mA name):=by
 obtain ⟨o,es,ep,ho,hd,hk,_,hm⟩:=n
 refine ⟨o,ho,fun name=>?_⟩
 have e:=hm name
 unfold nsFind findBy at e
 rw [<- Array.find?_toList] at e
 unfold PySem.W.lookIn
 rw [hd]
 dsimp only
 split
 · rename_i y q
   rw [q] at e
   exact congrArg some e
 · rename_i q
   rw [q] at e
   have a:es.toList.any (·.refKey)=false:=by
    rw [List.any_eq_false]
    intro y hy
    obtain ⟨z,t,hkey⟩:=hk y (Array.mem_toList_iff.mp hy)
    simp [DictEntry.refKey,hkey]
   have a':¬ es.toList.any (·.refKey)=true:=by rw [a];exact Bool.false_ne_true
   rw [if_neg a']
   exact congrArg some e
theorem ObjM.look {h:Heap}{x dx C:Addr}{mA:Str->Option Value}(I:ObjM h x dx C mA):∃ od,PySem.W.InstAt h x (PySem.W.instObj C dx) C (some od)/\∀ name,PySem.W.lookIn name od=some (mA name) :=
 let ⟨od,ho,hl⟩:=XE I.ns
 ⟨od,⟨I.obj,rfl,rfl,ho⟩,hl⟩
section
variable {P:Program}{w:World}{H:Hp}{h:Heap}{a C dx:Addr}{fs:List (Str×V)}
theorem J4b (hok:HOk P w H h)(e:H a=some (.ins C dx fs)):∃ mA,ObjM h a dx C mA/\(∀ f,Q0g (fs.lookup f) (mA f))/\PySem.Within mA (fs.map (·.1))/\fs.length<=1000/\H dx=some (.own a):=by
 obtain ⟨d,z,ne,ob,mA,n,r,q⟩:=(show ObjOk P w H h a (.ins C dx fs) from hok a _ e)
 exact ⟨mA,⟨ob,n,ne⟩,r,q,z,d⟩
end
structure Cls (K:Fg)(C:Addr):Prop where
 pg:PySem.W.plainGet K C Str.empty=true
 hd:PySem.W.hasDictIn K C=true
 po:PySem.W.plainOver K C=true
 sa:PySem.W.findIn K (.ref C) "__setattr__" = some (some (.builtin "object.__setattr__"))
theorem Cls.get {C:Addr}(c:Cls K C)(f:Str):PySem.W.plainGet K C f=true:=c.pg
def Q0i (K:Fg)(C:Addr)(f:Str):Prop:=PySem.W.findIn K (.ref C) f=some none
def Q3q (K:Fg)(ta:TE)(f:Str):TE:=fun σ H Q=>ta σ H fun x H1=>∃ a C dx fs v,x=.ref a/\H1 a=some (.ins C dx fs)/\Cls K C/\Q0i K C f/\fs.lookup f=some v/\Q v H1
section
variable {X:Cx}{pins:List (Addr×Obj)}{σ:St}{H:Hp}{s:Shared}{A:Around}{E:Value->Shared->Prop}{Q:Value->Shared->Prop}{c:Value}{b:Bool}
inductive TyOf (K:Fg)(H:Hp):V->Value->Prop where
 | non:TyOf K H .non (.type "NoneType")
 | bl (x:Bool):TyOf K H (.bl x) (.type "bool")
 | int (i:Int):TyOf K H (.int i) (.type "int")
 | str (x:Str):TyOf K H (.str x) (.type "str")
 | flt (x:UInt64):TyOf K H (.flt x) (.type "float")
 | lst {a:Addr} {xs:List V} (e:H a=some (.lst xs)):TyOf K H (.ref a) (.type "list")
 | frz {a:Addr} {o:Obj} {xs:List V} (e:H a=some (.frz o (.lst xs))):TyOf K H (.ref a) (.type "list")
 | tup {a:Addr} {xs:List V} (e:H a=some (.tup xs)):TyOf K H (.ref a) (.type "tuple")
 | dK {a:Addr} {kvs:List (Key×V)} (e:H a=some (.dK kvs)):TyOf K H (.ref a) (.type "dict")
 | dT {a:Addr} {kvs:List (List Key×V)} (e:H a=some (.dT kvs)):TyOf K H (.ref a) (.type "dict")
 | ins {a C dx:Addr} {fs:List (Str×V)} (e:H a=some (.ins C dx fs)) (cl:Cls K C) (ha:PySem.W.findIn K (.ref C) "__class__" = some (some (.builtin "object.__class__")))
  (hn:PySem.W.specialIn K (.builtin "object.__class__") "__get__" = some (some (.builtin "getset_descriptor.__get__"))) (htk:PySem.W.takesIn K (.builtin "object.__class__")=some true)
  (hm:PySem.W.mroIn K C (.type "object")=some true):TyOf K H (.ref a) (.ref C)
theorem XL {x:V}{u t:Value}(I:Inv X pins σ H s)(rx:RelV x u)(ty:TyOf X.K H x t)(e:PySem.W.kitOne X.K t c=some b)(h:∀ tk,Q (.bool b) { s with toks:=tk }) :
 wpAny (model X.prog X.w) A (call (.builtin "isinstance") [u,c]) Q E s:=by
 cases ty with
 | non=>cases (show u=Value.none from rx);exact PySem.W.kia_one PySem.W.kitx_none I.kIn True.intro e (fun z=>nomatch z) h
 | bl y=>cases (show u=Value.bool y from rx);exact PySem.W.kia_one PySem.W.kitx_bool I.kIn True.intro e (fun z=>nomatch z) h
 | int i=>obtain ⟨t,q⟩:=(show ∃ t,u=Value.int i t from rx);cases q;exact PySem.W.kia_one PySem.W.kitx_int I.kIn True.intro e (fun z=>nomatch z) h
 | str y=>obtain ⟨t,q⟩:=(show ∃ t,u=Value.str y t from rx);cases q;exact PySem.W.kia_one PySem.W.kitx_str I.kIn True.intro e (fun z=>nomatch z) h
 | flt y=>obtain ⟨t,q⟩:=(show ∃ t,u=Value.float y t from rx);cases q;exact PySem.W.kia_one PySem.W.kitx_float I.kIn True.intro e (fun z=>nomatch z) h
 | @lst a xs ea =>
   cases (show u=Value.ref a from rx)
   obtain ⟨_,_,n,_,h1⟩:=(show ObjOk X.prog X.w H s.heap a (.lst xs) from I.hok a _ ea)
   exact PySem.W.kia_one PySem.W.kitx_list I.kIn ⟨_,h1,rfl⟩ e (fun z=>nomatch z) h
 | @frz a ob xs ea =>
   cases (show u=Value.ref a from rx)
   obtain ⟨_,_,_,n,_,h1⟩:=(show ObjOk X.prog X.w H s.heap a (.frz ob (.lst xs)) from I.hok a _ ea)
   exact PySem.W.kia_one PySem.W.kitx_list I.kIn ⟨_,h1,rfl⟩ e (fun z=>nomatch z) h
 | @tup a xs ea =>
   cases (show u=Value.ref a from rx)
   obtain ⟨_,_,_,p⟩:=(show ObjOk X.prog X.w H s.heap a (.tup xs) from I.hok a _ ea)
   obtain ⟨o,h1,h2,_⟩:=p
   exact PySem.W.kia_one PySem.W.kitx_tuple I.kIn ⟨o,h1,h2⟩ e (fun z=>nomatch z) h
 | @dK a kvs ea =>
   cases (show u=Value.ref a from rx)
   obtain ⟨_,_,vs,_,p⟩:=(show ObjOk X.prog X.w H s.heap a (.dK kvs) from I.hok a _ ea)
   obtain ⟨o,es,ep,h1,h2,_⟩:=p
   exact PySem.W.kia_one PySem.W.kitx_dict I.kIn ⟨o,h1,h2.1⟩ e (fun z=>nomatch z) h
 | @dT a kvs ea =>
   cases (show u=Value.ref a from rx)
   obtain ⟨_,_,xs,_,o,es,ep,h1,h2,_⟩:=(show ObjOk X.prog X.w H s.heap a (.dT kvs) from I.hok a _ ea)
   exact PySem.W.kia_one PySem.W.kitx_dict I.kIn ⟨o,h1,h2.1⟩ e (fun z=>nomatch z) h
 | @ins a C dx fs ea cl ha hn htk hm =>
   cases (show u=Value.ref a from rx)
   obtain ⟨mA,O,_⟩:=J4b I.hok ea
   obtain ⟨od,J,_⟩:=O.look
   exact PySem.W.kia_one (PySem.W.kitx_own (cl.get _) cl.hd ha hn htk hm) I.kIn J e (fun z=>nomatch z) h
end
structure Room (k:Nat)(A:Around):Prop where
 hd:A.handled=none
 dp:A.depth+3*k+5<recursionLimit
 un:A.units+16*k+200<cLine
 gd:A.guards=some []
theorem Room.mono {j k:Nat}{A:Around}(r:Room k A)(h:j<=k):Room j A:=⟨r.hd,by have:=r.dp;omega,by have:=r.un;omega,r.gd⟩
theorem Room.deeper {k:Nat}{A:Around}(r:Room (k+1) A)(env:Env):Room k (A.deeper env) :=
 ⟨r.hd,by have:=r.dp;show A.depth+1+3*k+5<_;omega,by have:=r.un;show A.units+3+16*k+200<_;omega,r.gd⟩
theorem Room.depth {k:Nat}{A:Around}(r:Room k A):A.depth<recursionLimit:=by have:=r.dp;omega
theorem Room.units {k:Nat}{A:Around}(r:Room k A):A.units+64<cLine:=by have:=r.un;omega
def Q0s:TA:=fun _ H Q=>Q [] H
def J5n (ta:TE)(tr:TA):TA:=fun σ H Q=>ta σ H fun x H1=>tr σ H1 fun xs H2=>Q (x::xs) H2
section
variable {X:Cx}{e:Expr}{es:List Expr}{te:TE}{t:TA}{pos:Pos}
theorem ES:PA X [] Q0s:=fun _ _ _ _ H Q I h=>Calls.spliced_nil ⟨[],H,I,.nil,h⟩
theorem CA (ha:PE X e te)(hr:PA X es t)(hs:starEach (e::es) X.env=(false,eval e X.env)::starEach es X.env:=by rfl):PA X (e::es) (J5n te t):=by
 intro pos pins s σ H Q I h
 rw [hs]
 show wpAny _ _ (spliced ((false,eval e X.env)::backTo pos (starEach es X.env))) _ _ s
 refine Calls.spliced_cons (thn (ha pins s σ H _ I h) fun u s1 ⟨x,H1,I1,r1,q1⟩=>?_)
 exact thn (hr pos pins s1 σ H1 _ I1 q1) fun us s2 ⟨xs,H2,I2,r2,q2⟩=>⟨x::xs,H2,I2,.cons r1 r2,q2⟩
def Q0o (t:TA):TE:=fun σ H Q=>t σ H fun xs H1=>xs.length<=sizeLine/\∀ p,H1 p=none->Q (.ref p) (upd H1 p (.tup xs))
def Q2s (t:TA):TE:=fun σ H Q=>t σ H fun xs H1=>xs.length<=sizeLine/\∀ p,H1 p=none->Q (.ref p) (upd H1 p (.lst xs))
theorem TJ {x1}(h:PA X es t):PE X (.Tuple es x1 pos) (Q0o t):=by
 intro pins s σ H Q I hq
 refine wpAny_Tuple_spliced (thn (h pos pins s σ H _ I hq) fun us s1 ⟨xs,H1,I1,r,z,q⟩=>⟨by rw [<- r.length];exact z,?_⟩)
 have hf:H1 s1.heap.objs.size=none:=I1.hok.fresh (Nat.le_refl _)
 refine ⟨.ref s1.heap.objs.size,upd H1 s1.heap.objs.size (.tup xs),I1.laid (t':=s1.toks) (fun b u e=>Heap.get?_push_of_some _ e) (Nat.le_refl _) ?_,rfl,q _ hf⟩
 exact ⟨z,us,r,⟨_,Heap.get?_push_size _ rfl,rfl,_,rfl⟩⟩
theorem LY (h:PA X es t):PE X (.List es pos) (Q2s t):=by
 intro pins s σ H Q I hq
 refine wpAny_List_spliced (thn (h pos pins s σ H _ I hq) fun us s1 ⟨xs,H1,I1,r,z,q⟩=>⟨by rw [<- r.length];exact z,?_⟩)
 have hf:H1 s1.heap.objs.size=none:=I1.hok.fresh (Nat.le_refl _)
 refine ⟨.ref s1.heap.objs.size,upd H1 s1.heap.objs.size (.lst xs),I1.laid (t':=s1.toks) (fun b u e=>Heap.get?_push_of_some _ e) (Nat.le_refl _) ?_,rfl,q _ hf⟩
 exact ⟨z,us,0,r,Heap.get?_push_size _ rfl⟩
end
abbrev Sp:=List V->Hp->VK->XK->Prop
abbrev CXT:=List Env->Hp->Shared->XK->Value->Shared->Prop
structure Env0 (P:Program)(w:World)(K:Fg)(mg:Str->Option Value)(base:Heap)(A:Around)(outer:List Env)(s:Shared)(H:Hp):Prop where
 frames:A.frames=some outer
 mod:Mod K mg base
 bs:∀ b o,base.get? b=some o->s.heap.get? b=some o/\H b=none
 bsz:base.objs.size<=s.heap.objs.size
 funs:s.heap.FunFrames base outer
 frf:∀ b∈frs outer,H b=none
 hok:HOk P w H s.heap
 bare:AllBare s.gens
def CE (outer:List Env)(P:Program)(w:World)(H:Hp)(s:Shared)(Q:VK)(u:Value)(s':Shared):Prop :=
 ∃ v H',s'.os=s.os/\AllBare s'.gens/\Un (frs outer) [] H H' s.heap s'.heap/\HOk P w H' s'.heap/\RelV v u/\Q v H'
def CR (CX:CXT)(outer:List Env)(P:Program)(w:World)(H:Hp)(s:Shared)(Q:VK)(E:XK)(r:Result)(s':Shared):Prop :=
 match r with
 | .ok (.ret u)=>CE outer P w H s Q u s'
 | .ok _=>False
 | .error e=>CX outer H s E e s'
structure FnOk (P:Program)(w:World)(K:Fg)(mg:Str->Option Value)(base:Heap)(CX:CXT)(k:Nat)(f:Addr)(fd:FuncData)(ps:List Str)(sp:Sp):Prop where
 len:∀ vs H Q E,sp vs H Q E->vs.length=ps.length
 run:∀ (A:Around) (outer:List Env) (s:Shared) (H:Hp) (args:Args) (us:List Value) (vs:List V) (Q:VK) (E:XK),Room k A->Env0 P w K mg base A outer s H->BindsTo s fd args (ps.zip us)->Vals vs us->sp vs H Q E ->
  codeAny (model P w) A (.call (.ref f) args) (CR CX outer P w H s Q E) s
theorem FnOk.imp {w:World} {CX:CXT}{k:Nat}{f:Addr} {ps:List Str}{sp sp':Sp}(F:FnOk P w K mg base CX k f fd ps sp)
 (h:∀ vs H Q E,sp' vs H Q E->sp vs H Q E):FnOk P w K mg base CX k f fd ps sp' :=
 ⟨fun vs H Q E q=>F.len vs H Q E (h _ _ _ _ q),fun A outer s H args us vs Q E hr he hb hv hs=>F.run A outer s H args us vs Q E hr he hb hv (h _ _ _ _ hs)⟩
section
variable {X:Cx}{pins:List (Addr×Obj)}{σ:St}{H:Hp}{s s':Shared}
theorem Inv.env0 (I:Inv X pins σ H s):Env0 X.prog X.w X.K X.mg X.base X.A X.stack s H :=
 ⟨I.ok.frames,I.ok.mod,I.bs,Nat.le_trans I.ok.bsz I.sz,I.stack,I.stkFree,I.hok,I.bare⟩
theorem Inv.after {Q:VK}{u:Value}(I:Inv X pins σ H s)(h:CE X.stack X.prog X.w H s Q u s'):EP X pins σ Q u s':=by
 obtain ⟨v,H',os,bare,un,hok,r,q⟩:=h
 obtain ⟨hh,g,d,t,os'⟩:=s'
 obtain rfl:os'=s.os:=os
 exact ⟨v,H',I.call (h':=hh) (g':=g) (d':=d) (t':=t) (ch:=[]) un hok bare (fun b z=>absurd z (by simp)),r,q⟩
end
def UU (sp:Sp)(dvs:List V)(E:XK)(t:TA):TE:=fun σ H Q=>t σ H fun vs H1=>sp (vs++dvs) H1 Q E
def Q3o (C:Addr)(m:Str)(sp:Sp)(dvs:List V)(E:XK)(ta:TE)(t:TA):TE:=fun σ H Q=>ta σ H fun x H1=>∃ a dx fs,x=.ref a/\H1 a=some (.ins C dx fs)/\fs.lookup m=none /\
 t σ H1 fun vs H2=>sp (x::(vs++dvs)) H2 Q E
def Q3p (C:Addr)(sp:Sp)(dvs:List V)(E:XK)(t:TA):TE:=fun σ H Q=>t σ H fun vs H1=>∀ x dx,H1 x=none->H1 dx=none->dx≠x ->
 sp (.ref x::(vs++dvs)) (upd (upd H1 dx (.own x)) x (.ins C dx [])) (fun v H2=>v=.non/\Q (.ref x) H2) E
def Binds (K:Fg)(fd:FuncData)(ps:List Str)(ds:List Value):Prop :=
 ∀ (s:Shared) (us:List Value),K.In s.heap->(us++ds).length=ps.length->BindsTo s fd ⟨us,[]⟩ (ps.zip (us++ds))
theorem Binds.all {ps:List Str}(h:∀ us:List Value,us.length=ps.length->bindArgs fd ⟨us,[]⟩=pure (ps.zip us)):Binds K fd ps []:=fun s us _ hl=>by
 rw [List.append_nil] at hl ⊢
 exact .of_eq (h us hl)
def GS (CX:CXT)(X:Cx)(E:XK):Prop:=∀ (pins:List (Addr×Obj)) (σ:St) (H:Hp) (s:Shared) (e:Value) (s':Shared),Inv X pins σ H s->CX X.stack H s E e s'->X.xe e s'
section
variable {X:Cx}{CX:CXT}{k:Nat}{f:Addr}{fd:FuncData}{ps:List Str}{sp:Sp}{dvs:List V}{ds:List Value}{E:XK}{x:Str}{p pos:Pos}{e:Expr}{es:List Expr}{t:TA}
theorem J7r {pins:List (Addr×Obj)}{σ:St}{H:Hp}{s:Shared}{Q:VK}{us:List Value}{vs:List V}(F:FnOk X.prog X.w X.K X.mg X.base CX k f fd ps sp)(hr:Room k X.A)(hb:Binds X.K fd ps ds)(hd:Vals dvs ds)(hx:GS CX X E)
 (I:Inv X pins σ H s) (r:Vals vs us) (h:sp (vs++dvs) H Q E):wpAny (model X.prog X.w) X.A (call (.ref f) us) (EP X pins σ Q) X.xe s:=by
 have r2:Vals (vs++dvs) (us++ds):=r.append hd
 have hl:(us++ds).length=ps.length:=by rw [<- r2.length];exact F.len _ _ _ _ h
 refine wpAny_call (codeAny_mono (F.run X.A X.stack s H ⟨us,[]⟩ (us++ds) (vs++dvs) Q E hr I.env0 (hb s us I.kIn hl) r2 h) fun r s' hq=>?_)
 cases r with
 | error e=>exact hx pins σ H s e s' I hq
 | ok fl =>
   cases fl with
   | ret u=>exact I.after hq
   | next=>exact False.elim hq
   | brk=>exact False.elim hq
   | cont=>exact False.elim hq
theorem VE (F:FnOk X.prog X.w X.K X.mg X.base CX k f fd ps sp)(hr:Room k X.A)(hg:Gl X x)(hm:X.mg x=some (.ref f))(hk:PySem.W.keepIn X.K (.ref f)=true)(hb:Binds X.K fd ps ds)(hd:Vals dvs ds)(hx:GS CX X E)
 (ha:PA X (e::es) t) (hdb:(x==("__debug__" : Str))=false:=by decide) (he:starEach (e::es) X.env=(false,eval e X.env)::starEach es X.env:=by rfl) (hpl:(backTo pos (starEach es X.env)).any (·.1)=false:=by rfl) :
 PE X (.Call (.Name x p) (e::es) [] pos) (UU sp dvs E t):=by
 intro pins s σ H Q I h
 refine wpAny_Call_Name_kw (LD I hg hm ?_ hdb)
 refine PySem.W.callWith_K (h₀:=X.base) I.ok.mod.kin hk (thn (ha pos pins s σ H _ I h) fun us s1 ⟨vs,H1,I1,r,q⟩=>⟨I1.kIn,?_⟩) he hpl
 exact J7r F hr hb hd hx I1 r q
end
structure FnScope (N P:List Str)(sc:Scope):Prop where
 kind:sc.kind=.function
 co:sc.isCoroutine=false
 gen:sc.isGenerator=false
 nd:N.Nodup
 pre:N.take P.length=P
 par:∀ x∈P,sc.names.lookup x=some .local\/sc.names.lookup x=some .cell
 nofree:∀ y∈sc.names,y.2≠.free
theorem OA {kindOf:Str->Option NameKind}{x:Str}:∀ {binds:List (Str×Value)} {m:Str->Option Value},(∀ v,(x,v)∉binds)->bindL kindOf binds m x=m x
 | [],_,_=>rfl
 | (n,v)::r,m,h=>by
   unfold bindL
   rw [OA fun w hw=>h w (List.mem_cons_of_mem _ hw)]
   split
   · have:x≠n:=by rintro rfl;exact h v List.mem_cons_self
     simp [this]
   · rfl
theorem OC {kindOf:Str->Option NameKind}{x:Str}:∀ {binds:List (Str×Value)} {m:Str->Option Value},(∀ v,(x,v)∉binds)->bindC kindOf binds m x=m x
 | [],_,_=>rfl
 | (n,v)::r,m,h=>by
   unfold bindC
   rw [OC fun w hw=>h w (List.mem_cons_of_mem _ hw)]
   split
   · rfl
   · have:x≠n:=by rintro rfl;exact h v List.mem_cons_self
     simp [this]
theorem OB {kindOf:Str->Option NameKind}{x:Str}{v:Value}:∀ {P:List Str} {vs:List Value} {i:Nat} {m:Str->Option Value},P.Nodup->P[i]?=some x->vs[i]?=some v->kindOf x=some .local ->
 bindL kindOf (P.zip vs) m x=some v
 | [],_,_,_,_,h,_,_=>by simp at h
 | _::_,[],_,_,_,_,h,_=>by simp at h
 | p::P,w::vs,0,m,nd,h1,h2,hk=>by
   simp at h1 h2;subst h1;subst h2
   show bindL kindOf ((p,w)::P.zip vs) m p=_
   unfold bindL
   rw [OA fun v hv=>(List.nodup_cons.mp nd).1 (List.of_mem_zip hv).1,if_pos hk]
   simp
 | p::P,w::vs,i+1,m,nd,h1,h2,hk=>by
   show bindL kindOf ((p,w)::P.zip vs) m x=_
   unfold bindL
   exact OB (i:=i) (List.nodup_cons.mp nd).2 (by simpa using h1) (by simpa using h2) hk
theorem OD {kindOf:Str->Option NameKind}{x:Str}{v:Value}:∀ {P:List Str} {vs:List Value} {i:Nat} {m:Str->Option Value},P.Nodup->P[i]?=some x->vs[i]?=some v->kindOf x≠some .local ->
 bindC kindOf (P.zip vs) m x=some v
 | [],_,_,_,_,h,_,_=>by simp at h
 | _::_,[],_,_,_,_,h,_=>by simp at h
 | p::P,w::vs,0,m,nd,h1,h2,hk=>by
   simp at h1 h2;subst h1;subst h2
   show bindC kindOf ((p,w)::P.zip vs) m p=_
   unfold bindC
   rw [OC fun v hv=>(List.nodup_cons.mp nd).1 (List.of_mem_zip hv).1,if_neg hk]
   simp
 | p::P,w::vs,i+1,m,nd,h1,h2,hk=>by
   show bindC kindOf ((p,w)::P.zip vs) m x=_
   unfold bindC
   exact OD (i:=i) (List.nodup_cons.mp nd).2 (by simpa using h1) (by simpa using h2) hk
def EC (N:List Str)(vs:List V):St:=vs.map some++List.replicate (N.length - vs.length) none
def CI (CX:CXT)(P:Program)(w:World)(K:Fg)(mg:Str->Option Value)(base:Heap)(N:List Str)(qual:Str)(scope:Scope)(f:Addr)(cd:Value)(A:Around)(outer:List Env)(s:Shared)(H:Hp)(E:XK):Cx where
 prog:=P
 w:=w
 K:=K
 mg:=mg
 base:=base
 A:=A.deeper (envOfC qual scope s.heap.objs.size f cd)
 N:=N
 s₀:=s
 H₀:=H
 env:=envOfC qual scope s.heap.objs.size f cd
 outer:=outer
 stack:=envOfC qual scope s.heap.objs.size f cd::outer
 ex:=[]
 calm:=true
 fn:=fun _=>true
 pn:=[]
 xe:=fun e s'=>wpAny (model P w) (A.deeper (envOfC qual scope s.heap.objs.size f cd)) (leaving (envOfC qual scope s.heap.objs.size f cd) e) (fun _ s''=>CX outer H s E e s'') (fun e' s''=>CX outer H s E e' s'') s'
theorem SM {sc:Scope}{n:Nat}{x:Str}(h:sc.names.lookup x=some .cell):∃ c,(cellsFrom n sc.names []).lookup x=some c:=by
 have q:=PySem.W.cellsFrom_some sc.names n [] (.inl h)
 exact Option.isSome_iff_exists.mp q
theorem XM {CX:CXT}{P:Program}{w:World}{K:Fg}{mg:Str->Option Value}{base:Heap}{N ps:List Str}{qual:Str}{scope:Scope}{f:Addr}{cd:Value}{A:Around}{outer:List Env}{s s1:Shared}{H:Hp}{E:XK}{us:List Value}{vs:List V}
 (S:FnScope N ps scope) (hd:A.handled=none) (e0:Env0 P w K mg base A outer s H) (hl:vs.length=ps.length) (r:Vals vs us)
 (x:InCallC s s.heap.objs.size (bindL (envOfC qual scope s.heap.objs.size f cd).kindOf (ps.zip us) fun _=>none) (cellsFrom (s.heap.objs.size+1) scope.names []) (bindC (envOfC qual scope s.heap.objs.size f cd).kindOf (ps.zip us) fun _=>none) s1) :
 Inv (CI CX P w K mg base N qual scope f cd A outer s H E) [] (EC N vs) H s1:=by
 have hpl:ps.length<=N.length:=by have:=congrArg List.length S.pre;rw [List.length_take] at this;omega
 obtain ⟨h1,tk,rfl,hk⟩:=x.done
 have noA:∀ b:Addr,b∉(CI CX P w K mg base N qual scope f cd A outer s H E).ex:=fun b z=>absurd (show b∈([]:List Addr) from z) (by simp)
 refine ⟨⟨e0.mod,S.kind,rfl,rfl,Nat.le_refl _,fun y z c h1 h2=>?_,fun y hy=>?_,fun y c _ h=>?_,fun _=>hd,Around.frames_deeper e0.frames,.inr ⟨rfl,rfl⟩,fun b z=>absurd z (noA b),e0.bs,e0.bsz,fun b _ _=>noA b,fun b z=>absurd z (noA b),e0.funs,e0.frf⟩,
  rfl,e0.bare,Un.kept hk,⟨_,x.toInCall.ns,fun i y v h1 h2 h3=>?_⟩,fun y c h=>⟨_,x.cell y c h⟩,e0.hok.fresh (Nat.le_refl _),fun y c h=>?_,fun p hp=>absurd (show p∈([]:List (Addr×Obj)) from hp) (by simp),e0.hok.kept hk,?_⟩
 · exact name_of_addr x.apart (PySem.mem_of_lookup h1) (PySem.mem_of_lookup h2)
 · have hy:scope.names.lookup y=some .cell\/scope.names.lookup y=some .free:=hy
   rcases hy with hy|hy
   · exact SM hy
   · exact absurd rfl (S.nofree _ (PySem.mem_of_lookup hy))
 · exact Nat.le_of_lt (x.above y c (PySem.mem_of_lookup h))
 · have hi:i<vs.length:=by
    unfold EC at h2
    by_cases hi:i<vs.length
    · exact hi
    · rw [List.getElem?_append_right (by simpa using hi)] at h2
      rw [List.getElem?_replicate] at h2
      split at h2<;>cases h2
   have ha:vs[i]?=some v:=by
    unfold EC at h2
    rw [List.getElem?_append_left (by simpa using hi),List.getElem?_map] at h2
    cases e:vs[i]? with
    | none=>rw [e] at h2;cases h2
    | some a=>rw [e] at h2;cases h2;rfl
   obtain ⟨u,hu,rv⟩:=r.get ha
   have hp:ps[i]?=some y:=by
    rw [<- S.pre,List.getElem?_take_of_lt (by omega)];exact h1
   have ndP:ps.Nodup:=by rw [<- S.pre];exact S.nd.sublist (List.take_sublist _ _)
   refine ⟨u,rv,?_⟩
   rcases S.par y (List.mem_of_getElem? hp) with k|k
   · exact .inl ⟨k,OB ndP hp hu k⟩
   · obtain ⟨c,e⟩:=SM (n:=s.heap.objs.size+1) k
     refine .inr ⟨.inl k,c,e,?_⟩
     have q:=x.cell y c e
     rw [OD ndP hp hu (by show scope.names.lookup y≠_;rw [k];decide)] at q
     exact q
 · exact e0.hok.fresh (Nat.le_of_lt (x.above y c (PySem.mem_of_lookup h)))
 · unfold EC
   show _=N.length
   rw [List.length_append,List.length_map,List.length_replicate]
   omega
theorem J5z {CX:CXT}{P:Program}{w:World}{K:Fg}{mg:Str->Option Value}{base:Heap}{k:Nat}{f:Addr}{name qual:Str}{params:Arguments}{body:List Stmt}{scope:Scope}{dV kV doc pm cdv ct oc:Value}{an od:Option Addr}
 {osl:Array (Option Value)} {N ps:List Str} {sp:Sp} (lk:K.lookup f=some ⟨oc,od,.func (PySem.W.fnOf name qual params body scope dV kV doc pm an cdv ct),osl⟩) (hcd:PySem.W.codeIn K cdv qual=true) (S:FnScope N ps scope)
 (len:∀ vs H Q E,sp vs H Q E->vs.length=ps.length)
 (hbody:∀ (A:Around) (outer:List Env) (s:Shared) (H:Hp) (vs:List V) (Q:VK) (E:XK),Room k (A.deeper (envOfC qual scope s.heap.objs.size f cdv))->sp vs H Q E ->
  ∃ t,PSs (CI CX P w K mg base N qual scope f cdv A outer s H E) body t/\t { nx:=fun _ H'=>Q .non H',rt:=Q } (EC N vs) H) :
 FnOk P w K mg base CX (k+1) f (PySem.W.fnOf name qual params body scope dV kV doc pm an cdv ct) ps sp:=by
 refine ⟨len,fun A outer s H args us vs Q E hr e0 hb r hsp=>?_⟩
 have hl:=len _ _ _ _ hsp
 have KX:K.In s.heap:=e0.mod.kin.keeps fun b o e=>(e0.bs b o e).1
 have lim:s.heap.NoLimit:=e0.mod.nolimit.keeps fun b o e=>(e0.bs b o e).1
 have hkind:∀ y∈ps.zip us,scope.names.lookup y.1=some .local\/(scope.names.lookup y.1=some .cell/\((cellsFrom (s.heap.objs.size+1) scope.names []).lookup y.1).isSome=true):=fun ⟨n,v⟩ hy=>by
  rcases S.par n (List.of_mem_zip hy).1 with q|q
  · exact .inl q
  · exact .inr ⟨q,PySem.W.cellsFrom_some _ _ _ (.inl q)⟩
 refine codeAny_call_function hr.depth (KX _ _ lk) rfl S.co S.gen rfl (PySem.W.codeRec_of KX hcd) (hb _ _ _ _ ?_)
 refine wpAny_newFunctionEnv_cells S.kind hkind fun env he s1 x=>?_
 subst he
 refine ⟨lim.keeps x.toInCall.keep,codeAny_func ?_⟩
 obtain ⟨t,ht,hq⟩:=hbody A outer s H vs Q E (hr.deeper _) hsp
 have I:Inv (CI CX P w K mg base N qual scope f cdv A outer s H E) [] (EC N vs) H s1:=XM S hr.hd e0 hl r x
 refine wpAny_mono (ht [] s1 (EC N vs) H _ I hq) (fun fl s' hs=>?_) fun e s' hs=>hs
 have fin:∀ {σ':St} {H':Hp} {v:V} {u:Value},Inv (CI CX P w K mg base N qual scope f cdv A outer s H E) [] σ' H' s'->RelV v u->Q v H'->CE outer P w H s Q u s' :=
  fun {σ' H' v u} J rv q=>⟨v,H',J.os,J.bare,J.base,J.hok,rv,q⟩
 cases fl with
 | ret u =>
   obtain ⟨v,σ',H',J,rv,q⟩:=hs
   exact fin J rv q
 | next =>
   obtain ⟨σ',H',J,q⟩:=hs
   exact fin (v:=V.non) (u:=Value.none) J rfl q
 | brk =>
   obtain ⟨_,_,_,q⟩:=hs
   exact False.elim q
 | cont =>
   obtain ⟨_,_,_,q⟩:=hs
   exact False.elim q
section
variable {X:Cx}{x:Str}{p pos:Pos}{e:Expr}{es:List Expr}{t:TA}{id T:String}{r:List V->Hp->VK->Prop}
def tCB (r:List V->Hp->VK->Prop)(t:TA):TE:=fun σ H Q=>t σ H fun vs H1=>r vs H1 Q
theorem EG (hc:AV X (.builtin id) r)(hg:Gl X x)(hm:X.mg x=none)(hv:bootBuiltins x=some (.builtin id))(ha:PA X (e::es) t)(hn:x≠"__name__":=by decide) (hdb:(x==("__debug__" : Str))=false:=by decide)
 (he:starEach (e::es) X.env=(false,eval e X.env)::starEach es X.env:=by rfl) (hpl:(backTo pos (starEach es X.env)).any (·.1)=false:=by rfl):PE X (.Call (.Name x p) (e::es) [] pos) (tCB r t):=by
 intro pins s σ H Q I h
 refine wpAny_Call_Name_kw (PL I hg hm hv ?_ hn hdb)
 exact PyProof.Rows.callWith_builtin1 (thn (ha pos pins s σ H _ I h) fun us s1 ⟨vs,H1,I1,r1,q1⟩=>hc pins s1 σ H1 vs us Q I1 r1 q1) he hpl
theorem EV (hc:AV X (.type T) r)(hg:Gl X x)(hm:X.mg x=none)(hv:bootBuiltins x=some (.type T))(ha:PA X (e::es) t)(hn:x≠"__name__":=by decide) (hdb:(x==("__debug__" : Str))=false:=by decide)
 (he:starEach (e::es) X.env=(false,eval e X.env)::starEach es X.env:=by rfl) (hpl:(backTo pos (starEach es X.env)).any (·.1)=false:=by rfl):PE X (.Call (.Name x p) (e::es) [] pos) (tCB r t):=by
 intro pins s σ H Q I h
 refine wpAny_Call_Name_kw (PL I hg hm hv ?_ hn hdb)
 exact PyProof.Rows.callWith_type1 (thn (ha pos pins s σ H _ I h) fun us s1 ⟨vs,H1,I1,r1,q1⟩=>hc pins s1 σ H1 vs us Q I1 r1 q1) he hpl
end
end L2
namespace HT
open PySem PyProof.Rows
section
variable {prog:Program}{w:World}{A:Around}{E:Value->Shared->Prop}{s:Shared}
def sIx (n d:Nat):Option Int->Nat
 | none=>d
 | some v=>if v<0 then (v+(n:Int)).toNat else min v.toNat n
theorem sIx_nat (n d k:Nat):sIx n d (some (k:Int))=min k n:=by
 show (if (k:Int)<0 then ((k:Int)+(n:Int)).toNat else min (k:Int).toNat n)=min k n
 rw [if_neg (by omega),Int.toNat_natCast]
theorem J7q (n d:Nat)(hd:d<=n)(o:Option Int):sIx n d o<=n:=by
 cases o with
 | none=>exact hd
 | some v =>
   show (if v<0 then (v+(n:Int)).toNat else min v.toNat n)<=n
   by_cases hv:v<0
   · rw [if_pos hv];omega
   · rw [if_neg hv];exact Nat.min_le_right _ _
theorem VZ (v:Int)(n d:Nat):(if v<0 then max (v+(n:Int)) 0 else min v (n:Int))=((sIx n d (some v):Nat):Int):=by
 show (if v<0 then max (v+(n:Int)) 0 else min v (n:Int))=(((if v<0 then (v+(n:Int)).toNat else min v.toNat n):Nat):Int)
 by_cases hv:v<0
 · simp only [if_pos hv];omega
 · simp only [if_neg hv];omega
theorem UL (lo hi:Option Int)(n:Nat):Builtin.Slice.sliceAdjust lo hi 1 (n:Int)=(((sIx n 0 lo:Nat):Int),((sIx n n hi:Nat):Int)):=by
 have h1:¬ ((1:Int)<0):=by omega
 unfold Builtin.Slice.sliceAdjust
 simp only [h1,if_false]
 refine Prod.ext ?_ ?_
 · cases lo with
   | none=>rfl
   | some v=>exact VZ v n 0
 · cases hi with
   | none=>rfl
   | some v=>exact VZ v n n
theorem TC (i j:Nat):Builtin.Slice.slicePlaces (i:Int) (j:Int) 1=j - i:=by
 unfold Builtin.Slice.slicePlaces
 have h1:(1:Int)>0:=by omega
 simp only [h1,if_true,Int.ediv_one]
 split<;>omega
theorem LN {v:Value}{o:Option Int}{Q:Option Int->Shared->Prop}(p:IsPart v o)(h:Q o s):wpAny (model prog w) A (Builtin.Slice.slicePartIndex v) Q E s:=by
 cases p with
 | none=>exact slicePart_none h
 | int i t=>exact slicePart_int h
theorem IT {sl:Addr}{vl vu:Value}{lo hi:Option Int}{n:Nat}{Q:Int×Int×Nat->Shared->Prop}(hs:s.heap.IsSliceOf sl vl vu .none)(pl:IsPart vl lo)(pu:IsPart vu hi)
 (h:Q (((sIx n 0 lo:Nat):Int),1,sIx n n hi - sIx n 0 lo) s):wpAny (model prog w) A (Builtin.Slice.sliceApplied (.ref sl) (pure (n:Int))) Q E s:=by
 obtain ⟨os,hos,hcs,hds⟩:=id hs
 unfold Builtin.Slice.sliceApplied Builtin.Slice.sliceFields
 refine wpAny_bind (wpAny_bind (wpAny_field hos hds (x:=vl) rfl (wpAny_bind (wpAny_field hos hds (x:=vu) rfl (wpAny_bind (wpAny_field hos hds (x:=.none) rfl (wpAny_pure ?_)))))))
 refine wpAny_bind (slicePart_none ?_)
 show wpAny _ _ (if ((1:Int)==0)=true then _ else _) _ _ s
 rw [if_neg (by decide)]
 refine wpAny_bind (LN pl (wpAny_bind (LN pu (wpAny_bind (wpAny_pure ?_)))))
 show wpAny _ _ (match Builtin.Slice.sliceAdjust lo hi 1 (n:Int) with|(lo,hi)=>pure (lo,(1:Int),Builtin.Slice.slicePlaces lo hi 1)) _ _ s
 rw [UL lo hi n]
 show wpAny _ _ (pure (((sIx n 0 lo:Nat):Int),(1:Int),Builtin.Slice.slicePlaces ((sIx n 0 lo:Nat):Int) ((sIx n n hi:Nat):Int) 1)) _ _ s
 rw [TC]
 exact wpAny_pure h
theorem ZK (xs:Array Value)(i k:Nat):((List.range k).filterMap fun (m:Nat)=>xs[((i:Int)+(m:Int)*1).toNat]?).toArray=((xs.toList.drop i).take k).toArray:=by
 have e:(fun (m:Nat)=>xs[((i:Int)+(m:Int)*1).toNat]?)=fun m=>xs[i+m]?:=by
  funext m
  have:((i:Int)+(m:Int)*1).toNat=i+m:=by omega
  rw [this]
 rw [e]
 have:=pick_run xs i k
 rw [List.filterMap_map] at this
 have e2:((fun x=>xs[x]?)∘fun x=>i+x)=fun m=>xs[i+m]?:=rfl
 rw [e2] at this
 rw [this]
theorem getItem_tuple_cut {t sl:Addr}{items:Array Value}{vl vu:Value}{lo hi:Option Int}{Q:Value->Shared->Prop}(ht:IsTup s.heap t items)(hs:s.heap.IsSliceOf sl vl vu .none)(pl:IsPart vl lo)(pu:IsPart vu hi)
 (hw:¬ (sIx items.size 0 lo=0/\sIx items.size items.size hi=items.size))
 (h:Q (.ref s.heap.objs.size) { s with heap:=s.heap.push { cls:=.type "tuple",data:=.seq ((items.toList.drop (sIx items.size 0 lo)).take (sIx items.size items.size hi - sIx items.size 0 lo)).toArray } })
 (hsz:items.size<=sizeLine):wpAny (model prog w) A (getItem (.ref t) (.ref sl)) Q E s:=by
 have htake:sizeOk (.seq ((items.toList.drop (sIx items.size 0 lo)).take (sIx items.size items.size hi - sIx items.size 0 lo)).toArray):=by
  show ((items.toList.drop (sIx items.size 0 lo)).take (sIx items.size items.size hi - sIx items.size 0 lo)).toArray.size<=sizeLine
  rw [List.size_toArray,List.length_take,List.length_drop,Array.length_toList]
  omega
 have hj:sIx items.size items.size hi<=items.size:=J7q _ _ (Nat.le_refl _) hi
 obtain ⟨os,hos,hcs,hds⟩:=id hs
 have hTs:s.TypeIs (.ref sl) "slice":=⟨os,hos,hcs⟩
 unfold getItem
 try with_reducible refine wpAny_holding ?_
 first|refine wpAny_bind (wpAny_pure ?_)|skip
 refine wpAny_bind (wpAny_sequenceKey ht.typeIs (by decide) ?_)
 refine wpAny_bind (wpAny_callSpecial?_slot (name:=Str.ofString "__getitem__") ht.typeIs PyProof.Rows.slot_tuple_getitem
  (wpAny_call_entry PyProof.Rows.slot_tuple_getitem ht.typeIs entry_tuple_getitem ?_ (args_tuple_getitem _ _)))
 show wpAny _ _ (Builtin.Tuple.tupleItemsOf (.ref t) >>= _) _ _ s
 refine wpAny_bind (tupleItemsOf_ ht ?_)
 refine wpAny_bind (wpAny_typeOf hTs ?_)
 rw [if_pos (by decide)]
 refine wpAny_bind (IT hs pl pu ?_)
 have hno:¬ ((((sIx items.size 0 lo:Nat):Int)==0&&(1:Int)==1&&(sIx items.size items.size hi - sIx items.size 0 lo)==items.size)=true):=by
  intro q
  rw [Bool.and_eq_true,Bool.and_eq_true] at q
  have q1:((sIx items.size 0 lo:Nat):Int)=0:=eq_of_beq q.1.1
  have q2:sIx items.size items.size hi - sIx items.size 0 lo=items.size:=eq_of_beq q.2
  exact hw ⟨by omega,by omega⟩
 show wpAny _ _ (if (((sIx items.size 0 lo:Nat):Int)==0&&(1:Int)==1&&(sIx items.size items.size hi - sIx items.size 0 lo)==items.size)=true then _ else _) _ _ s
 rw [if_neg hno,ZK]
 first
  | exact wpAny_bind (m:=Builtin.Tuple.tupleExact _) (wpAny_newObj_type (wpAny_pure ⟨_,rfl,wpAny_pure h⟩) htake)
  | exact wpAny_bind (m:=Builtin.Tuple.tupleExact _) (wpAny_newObj_type (wpAny_bind (wpAny_pure (wpAny_pure ⟨_,rfl,wpAny_pure h⟩))) htake)
  | exact wpAny_bind (wpAny_bind (m:=Builtin.Tuple.tupleExact _) (wpAny_newObj_type (wpAny_pure (wpAny_pure ⟨_,rfl,wpAny_pure h⟩)) htake))
  | exact wpAny_bind (wpAny_bind (m:=Builtin.Tuple.tupleExact _) (wpAny_newObj_type (wpAny_pure ⟨_,rfl,wpAny_pure h⟩) htake))
end
end HT
namespace L2
open PySem PySem.Spec PyProof.Rows
abbrev TO:=St->Hp->(Option Int->Hp->Prop)->Prop
def PO (X:Cx)(e:Option Expr)(t:TO):Prop :=
 ∀ (pins:List (Addr×Obj)) (s:Shared) (σ:St) (H:Hp) (Q:Option Int->Hp->Prop),Inv X pins σ H s->t σ H Q ->
  wpAny (model X.prog X.w) X.A (evalPart e X.env) (fun u s'=>∃ o H',Inv X pins σ H' s'/\IsPart u o/\Q o H') X.xe s
def J2z:TO:=fun _ H Q=>Q none H
def Q0q (t:TE):TO:=fun σ H Q=>t σ H fun x H1=>∃ i,x=.int i/\Q (some i) H1
theorem UA {ns:List Int}:∀ {us:List Value},Vals (ns.map V.int) us->IntsAre us ns:=by
 induction ns with
 | nil=>intro us r;rw [List.map_nil] at r;cases r;exact .nil
 | cons n ns ih =>
   intro us r
   rw [List.map_cons] at r
   cases r with
   | cons r1 r2 =>
     obtain ⟨t,e⟩:=r1
     subst e
     exact .cons n t (ih r2)
section
variable {X:Cx}{e:Expr}{te:TE}{lo hi:Option Expr}{tl th:TO}{pos p2:Pos}
theorem J3l:PO X none J2z:=by
 intro pins s σ H Q I h
 rw [evalPart_none]
 exact wpAny_pure ⟨none,H,I,.none,h⟩
theorem J3k (h:PE X e te):PO X (some e) (Q0q te):=by
 intro pins s σ H Q I hw
 rw [evalPart_some]
 refine thn (h pins s σ H _ I hw) fun u s1 ⟨x,H1,I1,r1,q1⟩=>?_
 obtain ⟨i,rfl,q⟩:=q1
 obtain ⟨t,rfl⟩:=r1
 exact ⟨some i,H1,I1,.int i t,q⟩
def SlR (X:Cx)(r:V->Option Int->Option Int->Hp->VK->Prop):Prop :=
 ∀ (pins:List (Addr×Obj)) (s:Shared) (σ:St) (H:Hp) (x:V) (v vl vu:Value) (lo hi:Option Int) (sl:Addr) (Q:VK),Inv X pins σ H s->RelV x v->s.heap.IsSliceOf sl vl vu .none->IsPart vl lo->IsPart vu hi->r x lo hi H Q ->
  ∃ T id,typeLookup (.type T) "__getitem__" = pure (some (.builtin id))/\s.TypeIs v T/\wpAny (model X.prog X.w) X.A (getItem v (.ref sl)) (EP X pins σ Q) X.xe s
theorem SlR.or {r r':V->Option Int->Option Int->Hp->VK->Prop}(h:SlR X r)(h':SlR X r'):SlR X (fun x lo hi H Q=>r x lo hi H Q\/r' x lo hi H Q):=by
 intro pins s σ H x v vl vu lo hi sl Q I rx hs pl pu q
 rcases q with q|q
 · exact h pins s σ H x v vl vu lo hi sl Q I rx hs pl pu q
 · exact h' pins s σ H x v vl vu lo hi sl Q I rx hs pl pu q
def tSl (r:V->Option Int->Option Int->Hp->VK->Prop)(te:TE)(tl th:TO):TE:=fun σ H Q=>te σ H fun x H1=>tl σ H1 fun l H2=>th σ H2 fun u H3=>r x l u H3 Q
theorem ZM {r:V->Option Int->Option Int->Hp->VK->Prop}(hr:SlR X r)(he:PE X e te)(hl:PO X lo tl)(hu:PO X hi th):PE X (.Subscript e (.Slice lo hi none p2) pos) (tSl r te tl th):=by
 intro pins s σ H Q I h
 refine Subscript_ (thn (he pins s σ H _ I h) fun v s1 ⟨x,H1,I1,r1,q1⟩=>?_)
 refine wpAny_Slice (thn (hl pins s1 σ H1 _ I1 q1) fun vl s2 ⟨l,H2,I2,pl,q2⟩=>thn (hu pins s2 σ H2 _ I2 q2) fun vu s3 ⟨u,H3,I3,pu,q3⟩=>?_)
 rw [evalPart_none]
 refine wpAny_pure ?_
 have I4:Inv X pins σ H3 { s3 with heap:=s3.heap.push { cls:=.type "slice",data:=.fields #[vl,vu,.none] } }:=I3.kept (t':=s3.toks) fun b ob q=>Heap.get?_push_of_some _ q
 obtain ⟨T,id,hT,ht,hg⟩:=hr pins { s3 with heap:=s3.heap.push { cls:=.type "slice",data:=.fields #[vl,vu,.none] } } σ H3 x v vl vu l u s3.heap.objs.size Q I4 r1 (Heap.IsSliceOf.new ..) pl pu q3
 show wpAny (model X.prog X.w) X.A (subscriptTail e (.Slice lo hi none p2) v (.ref s3.heap.objs.size)) (EP X pins σ Q) X.xe { s3 with heap:=s3.heap.push { cls:=.type "slice",data:=.fields #[vl,vu,.none] } }
 exact tail_any (ops:=[.ref s3.heap.objs.size,v]) ht hT hg (by with_unfolding_all rfl)
def SC (xs:List V)(lo hi:Option Int):List V:=(xs.drop (HT.sIx xs.length 0 lo)).take (HT.sIx xs.length xs.length hi - HT.sIx xs.length 0 lo)
theorem KG (xs:List V)(lo hi:Option Int):(SC xs lo hi).length<=xs.length:=by
 unfold SC
 rw [List.length_take,List.length_drop]
 omega
def ZA (K:Fg):V->Option Int->Option Int->Hp->VK->Prop:=fun x lo hi H Q=>∃ a xs,x=.ref a/\SqT K H a xs /\
 ¬ (HT.sIx xs.length 0 lo=0/\HT.sIx xs.length xs.length hi=xs.length)/\∀ p,H p=none->Q (.ref p) (upd H p (.tup (SC xs lo hi)))
theorem J7p:SlR X (ZA X.K):=by
 intro pins s σ H x v vl vu lo hi sl Q I rx hs pl pu h
 obtain ⟨a,xs,rfl,hx,hw,q⟩:=h
 cases rx
 obtain ⟨its,r,ht,hz⟩:=I.tuple hx
 have hlen:its.toArray.size=xs.length:=by rw [List.size_toArray];exact r.length.symm
 refine ⟨"tuple",_,PyProof.Rows.slot_tuple_getitem.lookup,ht.typeIs,?_⟩
 refine HT.getItem_tuple_cut ht hs pl pu (by rw [hlen];exact hw) ?_ (by rw [hlen];exact hz)
 rw [hlen]
 refine ⟨.ref s.heap.objs.size,_,I.laid (t':=s.toks) (o:=.tup (SC xs lo hi)) (fun b ob q=>Heap.get?_push_of_some _ q) (Nat.le_refl _) ?_,rfl,q _ (I.hok.fresh (Nat.le_refl _))⟩
 exact ⟨Nat.le_trans (KG xs lo hi) hz,_,(r.drop (HT.sIx xs.length 0 lo)).take (HT.sIx xs.length xs.length hi - HT.sIx xs.length 0 lo),IsTup.new _ _⟩
end
def ixN (n:Nat)(i:Int):Option Nat:=if 0<=i then (if i<n then some i.toNat else none) else if -(n:Int)<=i then some (i+n).toNat else none
def atI {α:Type}(xs:List α)(i:Int):Option α:=(ixN xs.length i).bind fun j=>xs[j]?
theorem VM {n:Nat}{i:Int}{j:Nat}(h:ixN n i=some j):seqIndex? i n=some j/\j<n/\-(n:Int)<=i/\i<n:=by
 unfold ixN at h
 by_cases h0:0<=i
 · rw [if_pos h0] at h
   by_cases h1:i<n
   · rw [if_pos h1] at h
     have e:i.toNat=j:=Option.some.inj h
     exact ⟨by rw [seqIndex_of h0 h1,e],by omega,by omega,h1⟩
   · rw [if_neg h1] at h;cases h
 · rw [if_neg h0] at h
   by_cases h1 : -(n:Int)<=i
   · rw [if_pos h1] at h
     have e:(i+n).toNat=j:=Option.some.inj h
     exact ⟨by rw [seqIndex_neg (by omega) h1,e],by omega,h1,by omega⟩
   · rw [if_neg h1] at h;cases h
theorem WH {α:Type}{xs:List α}{i:Int}{v:α}(h:atI xs i=some v):∃ j,seqIndex? i xs.length=some j/\xs[j]?=some v/\j<xs.length/\-(xs.length:Int)<=i/\i<xs.length:=by
 unfold atI at h
 cases e:ixN xs.length i with
 | none=>rw [e] at h;cases h
 | some j =>
   rw [e] at h
   obtain ⟨h1,h2,h3,h4⟩:=VM e
   exact ⟨j,h1,h,h2,h3,h4⟩
theorem CC {α:Type}{xs:List α}{j:Nat}{v:α}(h:xs[j]?=some v):atI xs (j:Int)=some v:=by
 have hj:j<xs.length:=(List.getElem?_eq_some_iff.mp h).1
 have e:ixN xs.length (j:Int)=some j:=by
  unfold ixN
  rw [if_pos (by omega),if_pos (by omega)];simp
 unfold atI;rw [e];exact h
def LK (b:Expr):Prop:=∀ o i,subscripted b false o i=operate [o,i] (getItem o i)
def IxR (X:Cx)(r:R2):Prop :=
 ∀ (value slice:Expr) (pins:List (Addr×Obj)) (s:Shared) (σ:St) (H:Hp) (x y:V) (v u:Value) (Q:VK),Inv X pins σ H s->RelV x v->RelV y u->r x y H Q ->
  subscripted slice false v u=operate [v,u] (getItem v u)->wpAny (model X.prog X.w) X.A (subscriptTail value slice v u) (EP X pins σ Q) X.xe s
def MtR (X:Cx)(id:String)(r:V->List V->Hp->VK->Prop):Prop :=
 ∀ (pins:List (Addr×Obj)) (s:Shared) (σ:St) (H:Hp) (x:V) (xs:List V) (v:Value) (us:List Value) (Q:VK),Inv X pins σ H s->RelV x v->Vals xs us->r x xs H Q ->
  wpAny (model X.prog X.w) X.A (call (.builtin id) (v::us)) (EP X pins σ Q) X.xe s
section
variable {X:Cx}{a b:Expr}{ta tb:TE}{pos:Pos}
theorem IxR.or {r r':R2}(h:IxR X r)(h':IxR X r'):IxR X (fun x y H Q=>r x y H Q\/r' x y H Q):=by
 intro value slice pins s σ H x y v u Q I rx ry q hs
 rcases q with q|q
 · exact h value slice pins s σ H x y v u Q I rx ry q hs
 · exact h' value slice pins s σ H x y v u Q I rx ry q hs
theorem GB {r:R2}(hr:IxR X r)(ha:PE X a ta)(hb:PE X b tb)(hs:LK b):PE X (.Subscript a b pos) (tOp r ta tb):=by
 intro pins s σ H Q I h
 exact Subscript_ (Q0a ha hb I h fun v u s2 x y H2 I2 rx ry q=>hr a b pins s2 σ H2 x y v u Q I2 rx ry q (hs _ _))
def J3g (K:Fg):R2:=fun x y H Q=>∃ p xs i v,x=.ref p/\y=.int i/\SqL K H p xs/\atI xs i=some v/\Q v H
def J3f (K:Fg):R2:=fun x y H Q=>∃ p xs i v,x=.ref p/\y=.int i/\SqT K H p xs/\atI xs i=some v/\Q v H
theorem J3y:IxR X (J3g X.K):=by
 intro value slice pins s σ H x y v u Q I rx ry h hs
 obtain ⟨p,xs,i,z,rfl,rfl,hq,he,q⟩:=h
 cases rx
 obtain ⟨t,rfl⟩:=ry
 obtain ⟨its,r,pl,hz⟩:=I.list hq
 obtain ⟨j,h1,h2,h3,h4,h5⟩:=WH he
 obtain ⟨w,ew,rw'⟩:=r.get h2
 have hl:=r.length
 have hn:=MH
 have fin:EP X pins σ Q w s:=⟨z,H,I,rw',q⟩
 by_cases h0:0<=i
 · have hj:i.toNat=j:=by
    rw [seqIndex_of h0 h5] at h1
    exact Option.some.inj h1
   exact item_listR pl.isList h0 (by omega) (by rw [hj];simpa using ew) fin hs
 · have hj:(i+(its.toArray.size:Int)).toNat=j:=by
    rw [seqIndex_neg (by omega) h4] at h1
    rw [List.size_toArray,<- hl]
    exact Option.some.inj h1
   exact subscriptTail_builtinR (x:=w) pl.isList.typeIs slot_list_getitem.lookup
    (wpAny_getItem_list_neg (Q:=fun r s'=>r=w/\EP X pins σ Q r s') pl.isList (by omega) (by rw [List.size_toArray]<;>omega) (by omega) (by rw [hj];simpa using ew) ⟨rfl,fin⟩) hs
theorem J8l:IxR X (J3f X.K):=by
 intro value slice pins s σ H x y v u Q I rx ry h hs
 obtain ⟨p,xs,i,z,rfl,rfl,hq,he,q⟩:=h
 cases rx
 obtain ⟨t,rfl⟩:=ry
 obtain ⟨its,r,pl,hz⟩:=I.tuple hq
 obtain ⟨j,h1,h2,h3,h4,h5⟩:=WH he
 obtain ⟨w,ew,rw'⟩:=r.get h2
 have hl:=r.length
 have hn:=MH
 have fin:EP X pins σ Q w s:=⟨z,H,I,rw',q⟩
 exact subscriptTail_builtinR (x:=w) pl.typeIs slot_tuple_getitem.lookup
  (getItem_tuple (j:=j) (Q:=fun r s'=>r=w/\EP X pins σ Q r s') pl (by omega) (by omega) (by rw [List.size_toArray,<- hl];exact h1) (by simpa using ew) ⟨rfl,fin⟩) hs
theorem TR (its:List Value)(n j:Nat)(u:Value):Obj.mapSeq (·.setIfInBounds j u) { cls:=.type "list",data:=.seq its.toArray n }={ cls:=.type "list",data:=.seq (its.set j u).toArray n }:=by
 simp [Obj.mapSeq]
theorem Inv.lst {pins:List (Addr×Obj)}{σ:St}{H:Hp}{s:Shared}{p:Addr}{xs:List V}(I:Inv X pins σ H s)(h:H p=some (.lst xs)) :
 ∃ (its:List Value) (n:Nat),Vals xs its/\s.heap.get? p=some { cls:=.type "list",data:=.seq its.toArray n }/\xs.length<=sizeLine:=by
 obtain ⟨z,its,n,r,e⟩:=I.hok p _ h
 exact ⟨its,n,r,e,z⟩
theorem Inv.lstUpd {pins:List (Addr×Obj)}{σ:St}{H:Hp}{s:Shared}{p:Addr}{xs ys:List V}{its its':List Value}{n n':Nat}{f:Obj->Obj}(I:Inv X pins σ H s)(h:H p=some (.lst xs))
 (ho:s.heap.get? p=some { cls:=.type "list",data:=.seq its.toArray n }) (hf:f { cls:=.type "list",data:=.seq its.toArray n }={ cls:=.type "list",data:=.seq its'.toArray n' }) (r:Vals ys its') (hz:ys.length<=sizeLine) (t:Nat) :
 Inv X pins σ (upd H p (.lst ys)) { s with heap:=s.heap.update p f,toks:=t }:=by
 have e:(s.heap.update p f).get? p=some { cls:=.type "list",data:=.seq its'.toArray n' }:=by
  rw [Heap.get?_update_self f ho (by rw [hf]<;>rfl),hf]
 refine I.write (x:=p) (e:=p) (by rw [h];trivial) (.inl rfl) (fun b u hb q=>(Heap.get?_update_other _ _ (Ne.symm hb)).trans q) ⟨_,e⟩ ?_
 exact ⟨hz,its',n',r,e⟩
def RB:V->V->V->Hp->(Hp->Prop)->Prop:=fun o i v H Q=>∃ p xs k j,o=.ref p/\i=.int k/\H p=some (.lst xs)/\ixN xs.length k=some j/\Q (upd H p (.lst (xs.set j v)))
theorem FX:Q2m X RB:=by
 intro pins s σ H o i v ov iv u Q I ro ri rv h
 obtain ⟨p,xs,k,j,rfl,rfl,hp,hj,q⟩:=h
 cases ro
 obtain ⟨t,rfl⟩:=ri
 obtain ⟨its,n,r,ho,hz⟩:=I.lst hp
 obtain ⟨h1,h2,h3,h4⟩:=VM hj
 have hl:=r.length
 have hn:=MH
 have I':Inv X pins σ (upd H p (.lst (xs.set j v))) { s with heap:=s.heap.update p (Obj.mapSeq (·.setIfInBounds j u)) } :=
  I.lstUpd hp ho (TR its n j u) (r.set rv j) (by rw [List.length_set];exact hz) s.toks
 by_cases h0:0<=k
 · have hk:k.toNat=j:=by
    rw [seqIndex_of h0 h4] at h1
    exact Option.some.inj h1
   exact PySem.W.ki_setAt ho h0 (by omega) (by rw [List.size_toArray,<- hl];exact h4) (by rw [hk];exact ⟨_,I',q⟩)
 · have hk:(k+(its.toArray.size:Int)).toNat=j:=by
    rw [seqIndex_neg (by omega) h3] at h1
    rw [List.size_toArray,<- hl]
    exact Option.some.inj h1
   exact PySem.W.ki_setBack ho (by omega) (by rw [List.size_toArray,<- hl];exact h3) (by omega) (by rw [hk];exact ⟨_,I',q⟩)
theorem OH (lo hi:Option Int)(n:Nat):(sliceBounds lo hi none n).1=((HT.sIx n 0 lo:Nat):Int)/\(sliceBounds lo hi none n).2.1=((HT.sIx n n hi:Nat):Int)/\(sliceBounds lo hi none n).2.2=1:=by
 refine ⟨?_,?_,rfl⟩
 · cases lo with
   | none=>simp [sliceBounds,HT.sIx]
   | some i =>
     simp only [sliceBounds,HT.sIx,Option.getD_none,show (1:Int)>0 by decide,if_true]
     by_cases h:i<0
     · simp only [h,if_true]<;>omega
     · simp only [h,if_false]<;>omega
 · cases hi with
   | none=>simp [sliceBounds,HT.sIx]
   | some i =>
     simp only [sliceBounds,HT.sIx,Option.getD_none,show (1:Int)>0 by decide,if_true]
     by_cases h:i<0
     · simp only [h,if_true]<;>omega
     · simp only [h,if_false]<;>omega
theorem MW (its:List Value)(lo hi:Option Int):slicePick its.toArray lo hi none=((its.drop (HT.sIx its.length 0 lo)).take (HT.sIx its.length its.length hi - HT.sIx its.length 0 lo)).toArray:=by
 obtain ⟨h1,h2,h3⟩:=OH lo hi its.toArray.size
 unfold slicePick
 rw [h1,h2,h3]
 simp only [sliceRange_one,pick_run,List.size_toArray]<;>rfl
def ZB (K:Fg):V->Option Int->Option Int->Hp->VK->Prop:=fun x lo hi H Q=>∃ a xs,x=.ref a/\SqL K H a xs/\∀ p,H p=none->Q (.ref p) (upd H p (.lst (SC xs lo hi)))
theorem J3c:SlR X (ZB X.K):=by
 intro pins s σ H x v vl vu lo hi sl Q I rx hs pl pu h
 obtain ⟨a,xs,rfl,hx,q⟩:=h
 cases rx
 obtain ⟨its,r,ht,hz⟩:=I.list hx
 have hlen:=r.length
 refine ⟨"list",_,slot_list_getitem.lookup,ht.isList.typeIs,?_⟩
 refine wpAny_getItem_list_slice ht.isList hs pl pu .none (by simp) ?_ (by rw [List.size_toArray]<;>omega)
 rw [MW,<- hlen]
 refine ⟨.ref s.heap.objs.size,_,I.laid (t':=s.toks) (o:=.lst (SC xs lo hi)) (fun b ob q=>Heap.get?_push_of_some _ q) (Nat.le_refl _) ?_,rfl,q _ (I.hok.fresh (Nat.le_refl _))⟩
 exact ⟨Nat.le_trans (KG xs lo hi) hz,_,0,(r.drop (HT.sIx xs.length 0 lo)).take (HT.sIx xs.length xs.length hi - HT.sIx xs.length 0 lo),Heap.get?_push_size _ rfl⟩
theorem QJ:AV X (.builtin "len") (fun xs H Q=>∃ p ys,xs=[.ref p]/\(SqL X.K H p ys\/SqT X.K H p ys)/\Q (.int ys.length) H):=by
 intro pins s σ H xs us Q I r h
 obtain ⟨p,ys,rfl,hq,q⟩:=h
 obtain ⟨u,rfl,rx⟩:=ET r
 cases rx
 have hn:=MH
 rcases hq with hq|hq
 · obtain ⟨its,r',pl,hz⟩:=I.list hq
   have hlen:=r'.length
   exact Calls.call_len_list pl.isList (by simp only [List.size_toArray]<;>omega) ⟨.int ys.length,H,I.tok _,⟨s.toks+1,by rw [List.size_toArray,hlen]⟩,q⟩
 · obtain ⟨its,r',pl,hz⟩:=I.tuple hq
   have hlen:=r'.length
   exact len_tuple pl (by simp only [List.size_toArray]<;>omega) ⟨.int ys.length,H,I.tok _,⟨s.toks+1,by rw [List.size_toArray,hlen]⟩,q⟩
theorem QI:AV X (.type "list") (fun xs H Q=>∃ p ys,xs=[.ref p]/\(SqL X.K H p ys\/SqT X.K H p ys)/\∀ l,H l=none->Q (.ref l) (upd H l (.lst ys))):=by
 intro pins s σ H xs us Q I r h
 obtain ⟨p,ys,rfl,hq,q⟩:=h
 obtain ⟨u,rfl,rx⟩:=ET r
 cases rx
 have fin:∀ (its:List Value),Vals ys its->ys.length<=sizeLine->∀ (h':Heap) (c':Nat),(∀ b o',s.heap.get? b=some o'->h'.get? b=some o') ->
  h'.get? s.heap.objs.size=some { cls:=.type "list",dict:=none,data:=.seq its.toArray c',slots:=#[] }->EP X pins σ Q (.ref s.heap.objs.size) { s with heap:=h' }:=fun its r' hz h' c' kp e =>
  ⟨.ref s.heap.objs.size,_,I.laid (t':=s.toks) kp (Nat.le_refl _) (show ObjOk X.prog X.w _ h' _ (.lst ys) from ⟨hz,its,c',r',e⟩),rfl,q _ (I.hok.fresh (Nat.le_refl _))⟩
 rcases hq with hq|hq
 · obtain ⟨its,r',pl,hz⟩:=I.list hq
   have hlen:=r'.length
   obtain ⟨o,ho,hc,n,hd⟩:=pl.isList
   exact call_list_seq p (.inl rfl) ho hc hd (fun h' c' kp e=>fin its r' hz h' c' kp e) (by simp only [List.size_toArray]<;>omega)
 · obtain ⟨its,r',pl,hz⟩:=I.tuple hq
   have hlen:=r'.length
   obtain ⟨o,ho,hc,n,hd⟩:=pl
   exact call_list_seq p (.inr rfl) ho hc hd (fun h' c' kp e=>fin its r' hz h' c' kp e) (by simp only [List.size_toArray]<;>omega)
theorem NH:AV X (.type "tuple") (fun xs H Q=>∃ p ys,xs=[.ref p]/\((SqL X.K H p ys/\∀ l,H l=none->Q (.ref l) (upd H l (.tup ys)))\/(SqT X.K H p ys/\Q (.ref p) H))):=by
 intro pins s σ H xs us Q I r h
 obtain ⟨p,ys,rfl,h⟩:=h
 obtain ⟨u,rfl,rx⟩:=ET r
 cases rx
 rcases h with ⟨hq,q⟩|⟨hq,q⟩
 · obtain ⟨its,r',pl,hz⟩:=I.list hq
   have hlen:=r'.length
   refine call_tuple_list pl.isList (fun h' kp=>?_) (by simp only [List.size_toArray]<;>omega)
   have I1:Inv X pins σ H { s with heap:=h' }:=I.kept (t':=s.toks) kp
   have I2:Inv X pins σ (upd H h'.objs.size (.tup ys)) { s with heap:=h'.push { cls:=.type "tuple",data:=.seq its.toArray } } :=
    I1.laid (t':=s.toks) (fun b o e=>Heap.get?_push_of_some _ e) (Nat.le_refl _) (show ObjOk X.prog X.w _ _ _ (.tup ys) from ⟨hz,its,r',IsTup.new _ _⟩)
   exact ⟨.ref h'.objs.size,_,I2,rfl,q _ (I1.hok.fresh (Nat.le_refl _))⟩
 · obtain ⟨its,r',pl,hz⟩:=I.tuple hq
   exact call_tuple_same pl ⟨.ref p,H,I,rfl,q⟩
def tyV (K:Fg)(T:String)(x:V)(H:Hp):Prop:=match x with
 | .str _=>T = "str"
 | .int _=>T = "int"
 | .ref p=>(T = "list"/\∃ xs,SqL K H p xs)\/(T = "tuple"/\∃ o,K.lookup p=some o/\o.cls=.type "tuple"/\o.dict=none) \/
  (T = "dict"/\((∃ kvs,H p=some (.dK kvs))\/∃ kvs,H p=some (.dT kvs)))\/(T = "set"/\∃ S n,H p=some (.set S n))
 | _=>False
theorem J7h {pins:List (Addr×Obj)}{σ:St}{H:Hp}{s:Shared}{T:String}{x:V}{v:Value}(I:Inv X pins σ H s)(r:RelV x v)(ty:tyV X.K T x H) :
 s.TypeIs v T/\∀ a,v=.ref a->∃ ob,s.heap.get? a=some ob/\ob.dict=none:=by
 cases x with
 | str z =>
   obtain ⟨t,rfl⟩:=r
   cases (show T = "str" from ty)
   exact ⟨typeIs_str s z t,fun _ e=>nomatch e⟩
 | int i =>
   obtain ⟨t,rfl⟩:=r
   cases (show T = "int" from ty)
   exact ⟨typeIs_int s i t,fun _ e=>nomatch e⟩
 | ref p =>
   cases r
   rcases ty with ⟨rfl,xs,hq⟩|⟨rfl,o,hk,hc,hd⟩|⟨rfl,hk⟩|⟨rfl,S,n,hk⟩
   · obtain ⟨its,_,pl,_⟩:=I.list hq
     refine ⟨pl.isList.typeIs,fun a e=>?_⟩
     cases e
     obtain ⟨o,n,e,c,hd,_⟩:=pl
     exact ⟨o,e,hd⟩
   · refine ⟨⟨o,I.kIn p o hk,hc⟩,fun a e=>?_⟩
     cases e
     exact ⟨o,I.kIn _ o hk,hd⟩
   · have z:∃ o,s.heap.get? p=some o/\o.ExactDict:=by
      rcases hk with ⟨kvs,hk⟩|⟨kvs,hk⟩
      · obtain ⟨_,_,_,_,o,_,_,e,ex,_⟩:=I.hok p _ hk
        exact ⟨o,e,ex⟩
      · obtain ⟨_,_,_,_,o,_,_,e,ex,_⟩:=I.hok p _ hk
        exact ⟨o,e,ex⟩
     obtain ⟨o,e,ex⟩:=z
     refine ⟨⟨o,e,ex.1⟩,fun a e2=>?_⟩
     cases e2
     exact ⟨o,e,ex.2.1⟩
   · obtain ⟨o,_,_,_,e,ex,_⟩:=I.hok p _ hk
     refine ⟨⟨o,e,ex.1⟩,fun a e2=>?_⟩
     cases e2
     exact ⟨o,e,ex.2.1⟩
 | _=>exact False.elim ty
def tBM (K:Fg)(T:String)(r:V->List V->Hp->VK->Prop)(to:TE)(t:TA):TE:=fun σ H Q=>to σ H fun x H1=>tyV K T x H1/\t σ H1 fun xs H2=>r x xs H2 Q
variable {o e:Expr}{es:List Expr}{to:TE}{t:TA}{name:Str}{apos cpos:Pos}{T id:String}{r:V->List V->Hp->VK->Prop}
theorem GC (pa:PlainAttrs T)(slot:Slot T name id)(hty:typeOf (.builtin id)=pure (.type "method_descriptor")) (hm:MtR X id r) (ho:PE X o to) (ha:PA X (e::es) t)
 (hbase:attributeBase o name X.env (eval o X.env)=eval o X.env:=by rfl)
 (hfew:((backTo cpos (starEach (e::es) X.env)).all (fun x=>!x.1)&&(backToKw cpos (keywordEach [] X.env)).all (fun x=>x.1.isSome)
  && decide ((e::es).length+([]:List Keyword).length+(if ([]:List Keyword).isEmpty then 0 else 1)<30))=true:=by rfl)
 (hline:(apos.endLine==cpos.line)=true:=by rfl) (hs:starEach (e::es) X.env=(false,eval e X.env)::starEach es X.env:=by rfl) (hplain:(backTo cpos (starEach es X.env)).any (·.1)=false:=by rfl) :
 PE X (.Call (.Attribute o name apos) (e::es) [] cpos) (tBM X.K T r to t):=by
 intro pins s σ H Q I h
 refine wpAny_Call_method_late hbase hfew hline rfl (thn (ho pins s σ H _ I h) fun v s1 ⟨x,H1,I1,r1,ty,q1⟩=>?_)
 obtain ⟨h1,h2⟩:=J7h I1 r1 ty
 refine ⟨T,id,pa,slot,hty,h1,h2,?_⟩
 have hA:=ha cpos pins s1 σ H1 _ I1 q1
 rw [hs] at hA ⊢
 refine Calls.callWith_builtin (by show (false||(backTo cpos (starEach es X.env)).any (·.1))=false;rw [hplain]<;>rfl) (Calls.evalArgs_plain ?_)
 exact thn hA fun us s2 ⟨vs,H2,I2,r2,q2⟩=>hm pins s2 σ H2 x vs v us Q I2 r1 r2 q2
end
def MtM (X:Cx)(id:String)(r:V->List V->Hp->VK->Prop):Prop :=
 ∀ (pins:List (Addr×Obj)) (s:Shared) (σ:St) (H:Hp) (x:V) (xs:List V) (v:Value) (us:List Value) (Q:VK),Inv X pins σ H s->RelV x v->Vals xs us->r x xs H Q ->
  wpAny (model X.prog X.w) X.A (call (.builtin id) (v::us)) (EP X pins σ Q) X.xe s
theorem Vals.one:∀ {x:V} {us:List Value},Vals [x] us->∃ u,us=[u]/\RelV x u
 | _,_,.cons r .nil=>⟨_,rfl,r⟩
theorem Vals.two:∀ {x y:V} {us:List Value},Vals [x,y] us->∃ u v,us=[u,v]/\RelV x u/\RelV y v
 | _,_,_,.cons r (.cons q .nil)=>⟨_,_,rfl,r,q⟩
theorem Vals.eraseIdx:∀ {xs:List V} {us:List Value} (i:Nat),Vals xs us->Vals (xs.eraseIdx i) (us.eraseIdx i)
 | _,_,_,.nil=>.nil
 | _,_,0,.cons _ t=>t
 | _,_,i+1,.cons r t=>.cons r (Vals.eraseIdx i t)
theorem JH {α:Type}:∀ (l:List α) (i:Nat),(l.eraseIdx i).length<=l.length
 | [],_=>Nat.le_refl _
 | _::_,0=>Nat.le_succ _
 | _::r,i+1=>Nat.succ_le_succ (JH r i)
section
variable {X:Cx}{pins:List (Addr×Obj)}{σ:St}{H:Hp}{s:Shared}{l:Addr}{xs ys:List V}
theorem Inv.lset {its its':List Value}{n:Nat}{f:Array Value->Array Value}{t':Nat}(I:Inv X pins σ H s)(hH:H l=some (.lst xs))
 (e:s.heap.get? l=some { cls:=.type "list",data:=.seq its.toArray n }) (hf:f its.toArray=its'.toArray) (hv:Vals ys its') (hz:ys.length<=sizeLine) :
 Inv X pins σ (upd H l (.lst ys)) { s with heap:=s.heap.update l (Obj.mapSeq f),toks:=t' }:=by
 have q:=PySem.IsL.update e f
 rw [hf] at q
 refine I.write (x:=l) (e:=l) (by rw [hH];exact trivial) (.inl rfl) (fun b' u hb hu=>(Heap.get?_update_other s.heap (Obj.mapSeq f) (Ne.symm hb)).trans hu) ⟨_,q⟩ ?_
 exact ⟨hz,its',_,hv,q⟩
theorem Inv.lnew {its:List Value}{t':Nat}(I:Inv X pins σ H s)(hv:Vals ys its)(hz:ys.length<=sizeLine) :
 Inv X pins σ (upd H s.heap.objs.size (.lst ys)) { s with heap:=s.heap.push { cls:=.type "list",data:=.seq its.toArray },toks:=t' } :=
 I.laid (fun _ _ q=>Heap.get?_push_of_some _ q) (Nat.le_refl _) ⟨hz,its,0,hv,Heap.get?_push_size _ rfl⟩
theorem Inv.fresh (I:Inv X pins σ H s):H s.heap.objs.size=none:=I.hok.fresh (Nat.le_refl _)
theorem Inv.lstM (I:Inv X pins σ H s)(hH:H l=some (.lst xs)):xs.length<=sizeLine/\∃ (its:List Value) (n:Nat),Vals xs its/\xs.length=its.length/\s.heap.get? l=some { cls:=.type "list",data:=.seq its.toArray n }:=by
 obtain ⟨z,its,n,r,e⟩:=I.hok l _ hH
 exact ⟨z,its,n,r,r.length,e⟩
theorem ZV {n:Nat}(h:n<=sizeLine):Builtin.List.listTooLong n=false:=by
 unfold Builtin.List.listTooLong
 exact decide_eq_false (by omega)
end
section
variable {X:Cx}
def GX:V->List V->Hp->VK->Prop:=fun x vs H Q=>∃ l xs y,x=.ref l/\vs=[y]/\H l=some (.lst xs)/\xs.length<sizeLine/\Q .non (upd H l (.lst (xs++[y])))
theorem GY:MtM X "list.append" GX:=by
 intro pins s σ H x vs v us Q I rx rv h
 obtain ⟨l,xs,y,rfl,rfl,hH,hz,q⟩:=h
 cases rx
 obtain ⟨u,rfl,ru⟩:=rv.one
 obtain ⟨z,its,n,r,hl,e⟩:=I.lstM hH
 refine call_meets F.slot_list_append ⟨_,e,rfl⟩ F.entry_list_append (F.args_list_append_2 _ _) (PySem.list_append l its.toArray n u (by rw [List.size_toArray];omega)) ⟨e,?_⟩
 refine ⟨.non,_,I.lset (its':=its++[u]) hH e (by simp) (r.append (.cons ru .nil)) ?_,rfl,q⟩
 rw [List.length_append,List.length_singleton]
 omega
def OO:V->List V->Hp->VK->Prop:=fun x vs H Q=>∃ l b xs zs,x=.ref l/\vs=[.ref b]/\H l=some (.lst xs)/\H b=some (.lst zs)/\xs.length+zs.length<=sizeLine/\Q .non (upd H l (.lst (xs++zs)))
theorem JG:MtM X "list.extend" OO:=by
 intro pins s σ H x vs v us Q I rx rv h
 obtain ⟨l,b,xs,zs,rfl,rfl,hH,hB,hz,q⟩:=h
 cases rx
 obtain ⟨u,rfl,ru⟩:=rv.one
 cases ru
 obtain ⟨z,its,n,r,hl,e⟩:=I.lstM hH
 obtain ⟨z2,its2,n2,r2,hl2,e2⟩:=I.lstM hB
 have hsz:its.toArray.size+its2.toArray.size<=sizeLine:=by rw [List.size_toArray,List.size_toArray];omega
 have hlong:¬ (!its.toArray.isEmpty&&Builtin.List.listTooLong (its.toArray.size+its2.toArray.size))=true:=by
  rw [ZV hsz,Bool.and_false]
  exact Bool.false_ne_true
 refine call_meets F.slot_list_extend ⟨_,e,rfl⟩ F.entry_list_extend (F.args_list_extend_2 _ _)
  (AutoSeq1.list_extend_list_list_0 l its.toArray n b its2.toArray n2 hlong (by rw [List.size_toArray];omega) (by omega)) ⟨e,e2,?_⟩
 refine ⟨.non,_,I.lset (its':=its++its2) hH e (by simp) (r.append r2) ?_,rfl,q⟩
 rw [List.length_append]
 omega
def OM:V->List V->Hp->VK->Prop:=fun x vs H Q=>∃ l xs i k y,x=.ref l/\vs=[.int i]/\H l=some (.lst xs)/\-(2 ^ 63)<=i/\i<2 ^ 63/\seqIndex? i xs.length=some k/\xs[k]?=some y/\Q y (upd H l (.lst (xs.eraseIdx k)))
theorem RM:MtM X "list.pop" OM:=by
 intro pins s σ H x vs v us Q I rx rv h
 obtain ⟨l,xs,i,k,y,rfl,rfl,hH,h1,h2,hk,hy,q⟩:=h
 cases rx
 obtain ⟨u,rfl,ru⟩:=rv.one
 obtain ⟨t,rfl⟩:=ru
 obtain ⟨z,its,n,r,hl,e⟩:=I.lstM hH
 obtain ⟨w,hw,rw'⟩:=r.get hy
 refine call_meets F.slot_list_pop ⟨_,e,rfl⟩ F.entry_list_pop (F.args_list_pop_2 _ _)
  (MeetsSeq.list_pop_at l its.toArray n i t k w (fitsIndex_both h1 h2) (by rw [List.size_toArray,<- hl];exact hk) (by rw [<- Array.getElem?_toList];exact hw) (by rw [List.size_toArray];omega)) ⟨e,?_⟩
 refine ⟨y,_,I.lset (its':=its.eraseIdx k) hH e ?_ (r.eraseIdx k) ?_,rw',q⟩
 · show its.toArray.eraseIdxIfInBounds k=(its.eraseIdx k).toArray
   rw [List.eraseIdxIfInBounds_toArray]
 · have:=JH xs k
   omega
def Q0y:R2:=fun x y H Q=>∃ l b xs zs,x=.ref l/\y=.ref b/\H l=some (.lst xs)/\H b=some (.lst zs)/\xs.length+zs.length<=sizeLine/\∀ p,H p=none->Q (.ref p) (upd H p (.lst (xs++zs)))
theorem OW:OpR X (binaryOp .Add) Q0y:=by
 intro pins s σ H x y v u Q I rx ry h
 obtain ⟨l,b,xs,zs,rfl,rfl,hH,hB,hz,q⟩:=h
 cases rx
 cases ry
 obtain ⟨z,its,n,r,hl,e⟩:=I.lstM hH
 obtain ⟨z2,its2,n2,r2,hl2,e2⟩:=I.lstM hB
 refine PySem.P.add_list e e2 ?_ (by rw [List.size_toArray,List.size_toArray];omega)
 have ea:its.toArray++its2.toArray=(its++its2).toArray:=by simp
 rw [ea]
 exact ⟨.ref _,_,I.lnew (t':=s.toks) (r.append r2) (by rw [List.length_append];omega),rfl,q _ I.fresh⟩
end
end L2
namespace Att
open PySem PySem.W PySem.Calls PyProof.Rows
theorem KU {P:Params}{h:Heap}:∀ (ns:List Int) (vs:List Value),WellAll P h vs (ns.map WData.int)->IntsAre vs ns:=by
 intro ns
 induction ns with
 | nil =>
   intro vs w
   rw [List.map_nil] at w
   cases w
   exact .nil
 | cons n ns ih =>
   intro vs w
   rw [List.map_cons] at w
   cases w with
   | cons a b =>
     cases a
     exact .cons _ _ (ih _ b)
theorem WS {l:OpenLaw}{n:Nat}(hn:l.most=some n){P:Params}{h:Heap}{args:List WData}{vals:List Value}
 (hpre:l.row.toRowW.claim.pre args=true) (hwl:WellAll P h vals args) :
 ∃ a vs ns,vals=[Value.ref a]/\args=[WData.list (ns.map WData.int)]/\h.get? a=some { cls:=.type "list",data:=.seq vs.toArray }/\IntsAre vs ns/\ns.length<=n:=by
 have hsh:WShape.hasAll [] args [.list .int]=true:=(pre_splitW hpre).1
 have hc:l.pre.holds [] { args:=args }=true:=(pre_splitW hpre).2
 obtain ⟨d,r,rfl,h1,h2⟩:=hasAllW_cons hsh
 obtain rfl:=hasAllW_nil h2
 obtain ⟨xs,rfl,h3⟩:=hasW_list h1
 obtain ⟨ns,rfl⟩:=items_int h3
 have hlen:ns.length<=n:=by
  unfold OpenLaw.pre at hc
  have h4:(WTm.not (.lt (.lit (.int (n:Int))) (.len (.arg 0)))).holds [] { args:=[.list (ns.map .int)] }=true:=by
   have h4:=(holds_andW hc).1
   rw [hn] at h4
   exact h4
  have h5:=condW_of h4 (w_not (w_lt w_lit (w_len_list (w_arg rfl))))
  rw [List.length_map] at h5
  refine Nat.le_of_not_lt fun q=>?_
  have q':(n:Int)<((ns.length:Nat):Int):=by omega
  first
   | (rw [decide_eq_true q'] at h5;exact absurd h5 (by decide))
   | (simp at h5;omega)
 cases hwl with
 | cons w1 w2 =>
   cases w2
   cases w1 with
   | list ho hall=>exact ⟨_,_,ns,rfl,rfl,ho,KU ns _ hall,hlen⟩
theorem WW (l:OpenLaw)(args:List WData):l.row.toRowW.claim.post args (.bool true) args=true :=
 postW_of (r:=l.row.toRowW) (X:=(true==true))
  (show WShape.has [] (.bool true) .bool=true by first|rfl|decide|simp [WShape.has,WShape.arms,WShape.armsAll])
  (show (WTm.eq .res (.lit (.bool true))).value [] { args:=args,res:=some (.bool true),after:=args }=some (.bool (true==true)) from w_eq_bool (w_res rfl) w_lit) rfl
theorem attach_call {l:OpenLaw}{n:Nat}{q:Program}{loose:List Str}{XP:(Str->Option Value)->Heap->Prop}{YP:World->Heap->Prop}{d:DefRec}
 (hn:l.most=some n) (hdf:d.params.defaults=[])
 (call:∀ (w:World) (s₀ s₁:Shared) (mg mb:Str->Option Value) (fa:Addr) (o:Obj) (pm cd doc:Value) (a:Addr) (vs:List Value) (ns:List Int),
  Ground q loose [] XP w s₀ mg mb s₁.heap->YP w s₁.heap ->
  s₁.heap.get? fa=some o->o.data=.func (docDef d.name d.params d.body d.scope pm cd doc)->s₁.heap.CodeRec cd d.name->mg d.name=some (.ref fa) ->
  s₁.heap.get? a=some { cls:=.type "list",data:=.seq vs.toArray }->IntsAre vs ns->ns.length<=n->s₁.gens=#[] ->
  codeAny (model l.prog w) callerA (.call (.ref fa) ⟨[.ref a],[]⟩) (fun r s'=>r=.ok (.ret (.bool true))/\OldK s₁.heap s'.heap/\s'.os=s₁.os/\AllBare s'.gens) s₁) :
 WalkO q loose XP YP l.row.toRowW d [] (fun f vs=>PySem.call f vs):=by
 intro w s₀ s₁ mg mb G Y fa o pm cd doc dV kV ho hd hcd hD hmg hg args vals as hpre hlay hrd hwl hlo
 obtain rfl:dV=.none:=Dflts.none hD hdf
 obtain rfl:kV=.none:=Dflts.noKw hD
 obtain ⟨a,vs,ns,rfl,rfl,hobj,hints,hlen⟩:=WS hn hpre hwl
 refine enter_call (codeAny_mono (call w s₀ s₁ mg mb fa o pm cd doc a vs ns G Y ho (fd_plain hd) hcd hmg hobj hints hlen hg) fun r s' hq=>?_)
 obtain ⟨rfl,h2,h3,h4⟩:=hq
 exact ⟨.inl ⟨.bool true,.bool true,[],rfl,fun _=>rfl,.bool true,WW l _,fun _=>⟨List.Pairwise.nil,fun _ hm=>(nomatch hm)⟩⟩,h2,h3,h4⟩
section
def Q2z (h:Heap)(L d:Addr):List (Addr×Obj):=(List.range h.objs.size).filterMap fun a=>if a=L\/a=d then none else (h.get? a).map fun o=>(a,o)
end
end Att
namespace L2
open PySem PySem.Spec PyProof.Rows
theorem NK:∀ {vs:List Value} {ns:List Int},IntsAre vs ns->Vals (ns.map V.int) vs
 | _,_,.nil=>.nil
 | _,_,.cons n t h=>.cons ⟨t,rfl⟩ (NK h)
def Q0h (H:Hp):Prop:=∀ b,H b=none\/∃ o xs,H b=some (.frz o (.lst xs))
theorem ZY {P:Program}{w:World}{K:Fg}{mg mb:Str->Option Value}{CX:CXT}{k:Nat}{fa a:Addr}{fd:FuncData}{x:Str}{sp:Sp}{s₁:Shared}{vs:List Value}{ns:List Int}
 (KX:K.In s₁.heap) (hns:s₁.heap.Ns mainGlobals mg) (hb:s₁.heap.Ns builtinsNs mb) (hbb:∀ x:Str,x≠"__name__"->mb x=bootBuiltins x) (hlim:s₁.heap.NoLimit) (hg:s₁.gens=#[])
 (ha:s₁.heap.get? a=some { cls:=.type "list",data:=.seq vs.toArray }) (hi:IntsAre vs ns) (hl:ns.length<=sizeLine) (hr:Room k callerA)
 (F:∀ base:Heap,K.In base->base.Ns mainGlobals mg->FnOk P w K mg base CX k fa fd [x] sp) (hbind:∀ (s:Shared) (u:Value),BindsTo s fd ⟨[u],[]⟩ [(x,u)])
 (hsp:∀ H:Hp,Q0h H->SqL K H a (ns.map V.int)->sp [.ref a] H (fun v _=>v=.bl true) fun _ _ _=>False)
 (hCX:∀ H e s',CX [] H s₁ (fun _ _ _=>False) e s'->False) :
 codeAny (model P w) callerA (.call (.ref fa) ⟨[.ref a],[]⟩) (fun r s'=>r=.ok (.ret (.bool true))/\OldK s₁.heap s'.heap/\s'.os=s₁.os/\AllBare s'.gens) s₁:=by
 have rv:=NK hi
 have lenV:=hi.length
 have core:∀ H:Hp,Q0h H->SqL K H a (ns.map V.int)->HOk P w H s₁.heap->(∀ b,H b≠none->b=a)->(H a≠none->K.lookup a=none) ->
  codeAny (model P w) callerA (.call (.ref fa) ⟨[.ref a],[]⟩) (fun r s'=>r=.ok (.ret (.bool true))/\OldK s₁.heap s'.heap/\s'.os=s₁.os/\AllBare s'.gens) s₁:=by
  intro H hO hS hok hA hK
  have base_of:∀ {b:Addr} {o:Obj},s₁.heap.get? b=some o->H b=none->(PU s₁.heap H).get? b=some o:=fun e n=>J0m e n
  have noA:∀ {b:Addr} {o:Obj} {es:Array DictEntry} {ep:Nat},s₁.heap.get? b=some o->o.data=.dict es ep->H b=none:=fun {b o es ep} e d=>by
   cases q:H b with
   | none=>rfl
   | some u =>
     have e':b=a:=hA b (by rw [q];simp)
     subst e'
     rw [ha] at e;cases e
     have d':Data.seq vs.toArray _=Data.dict es ep:=d
     cases d'
  have nsK:∀ {b:Addr} {m:Str->Option Value},s₁.heap.Ns b m->(PU s₁.heap H).Ns b m:=fun {b m} ⟨o,es,ep,e,d,r⟩=>⟨o,es,ep,base_of e (noA e d),d,r⟩
  have hKb:K.In (PU s₁.heap H):=fun b o e=>base_of (KX b o e) (by
   cases q:H b with
   | none=>rfl
   | some u =>
     have e':b=a:=hA b (by rw [q];simp)
     subst e'
     rw [hK (by rw [q];simp)] at e;cases e)
  have hM:Mod K mg (PU s₁.heap H):=⟨hKb,nsK hns,⟨mb,nsK hb,hbb⟩,let ⟨mc,h1,h2⟩:=hlim;⟨mc,nsK h1,h2⟩⟩
  have e0:Env0 P w K mg (PU s₁.heap H) callerA [] s₁ H:=⟨rfl,hM,fun b o e=>J3s e,Nat.le_of_eq (XQ _ _),trivial,fun b hb=>absurd (show b∈([]:List Addr) from hb) (by simp),hok,.of_eq hg⟩
  refine codeAny_mono ((F _ hKb (nsK hns)).run callerA [] s₁ H ⟨[.ref a],[]⟩ [.ref a] [.ref a] _ _ hr e0 (hbind s₁ (.ref a)) (.cons rfl .nil) (hsp H hO hS)) fun r s' h=>?_
  cases r with
  | error e=>exact (hCX H e s' h).elim
  | ok fl =>
    cases fl with
    | next=>exact False.elim h
    | brk=>exact False.elim h
    | cont=>exact False.elim h
    | ret u =>
      obtain ⟨v,H',os,bare,un,hok',r',q⟩:=h
      have q':v=.bl true:=q
      subst q'
      obtain rfl:u=Value.bool true:=r'
      refine ⟨rfl,OldK.of_keep fun b o e=>?_,os,bare⟩
      cases q:H b with
      | none=>exact un.keep b o e q (by intro z;exact absurd (show b∈([]:List Addr) from z) (by simp)) (by simp)
      | some u =>
        rcases hO b with z|⟨ob,xs,z⟩
        · rw [q] at z;cases z
        · have z2:=un.frzs b ob _ z
          obtain ⟨e1,_⟩:=hok b _ z
          obtain ⟨e2,_⟩:=hok' b _ z2
          rw [e] at e1;cases e1
          exact e2
 cases hk:K.lookup a with
 | some o =>
   have e:=KX a o hk
   rw [ha] at e
   cases e
   refine core (fun _=>none) (fun _=>.inl rfl) (.inr ⟨_,vs.toArray,_,hk,rfl,rfl,rfl,by rw [List.size_toArray,lenV];exact hl,by simpa using rv⟩) (fun b u z=>by have z':(none:Option HO)=some u:=z;cases z') (fun b z=>absurd rfl z) fun z=>absurd rfl z
 | none =>
   refine core (fun b=>if b=a then some (.frz { cls:=.type "list",data:=.seq vs.toArray } (.lst (ns.map V.int))) else none) (fun b=>?_) (.inl (.inr ⟨{ cls:=.type "list",data:=.seq vs.toArray },if_pos rfl⟩)) (fun b u z=>?_) (fun b z=>?_) fun _=>hk
   · by_cases hb:b=a
     · exact .inr ⟨_,_,if_pos hb⟩
     · exact .inl (if_neg hb)
   · by_cases hb:b=a
     · have z':=(if_pos hb).symm.trans z
       cases z'
       subst hb
       exact ⟨ha,by rw [List.length_map];exact hl,vs,_,rv,ha⟩
     · have z':=(if_neg hb).symm.trans z
       cases z'
   · by_cases hb:b=a
     · exact hb
     · exact absurd (if_neg hb) z
theorem J2w {l:PySem.W.OpenLaw}{n k:Nat}{q:Program}{loose:List Str}{XP:(Str->Option Value)->Heap->Prop}{YP:World->Heap->Prop}{d:DefRec}{K:Params->Fg}{CX:World->CXT}{sp:World->Sp}{x:Str}
 (hn:l.most=some n) (hn2:n<=sizeLine) (hdf:d.params.defaults=[]) (hr:Room k callerA)
 (hY:∀ (w:World) (h:Heap),YP w h->(K w.params).In h)
 (F:∀ (w:World) (mg:Str->Option Value) (fa:Addr) (h:Heap),(K w.params).In h->h.Ns mainGlobals mg->mg d.name=some (.ref fa) ->
  ∃ fd:FuncData,(∀ (s:Shared) (u:Value),BindsTo s fd ⟨[u],[]⟩ [(x,u)]) /\
   ∀ base:Heap,(K w.params).In base->base.Ns mainGlobals mg->FnOk l.prog w (K w.params) mg base (CX w) k fa fd [x] (sp w))
 (hsp:∀ (w:World) (H:Hp) (a:Addr) (ns:List Int),ns.length<=n->Q0h H->SqL (K w.params) H a (ns.map V.int)->sp w [.ref a] H (fun v _=>v=.bl true) fun _ _ _=>False)
 (hCX:∀ (w:World) (H:Hp) (s:Shared) (e:Value) (s':Shared),CX w [] H s (fun _ _ _=>False) e s'->False) :
 PySem.W.WalkO q loose XP YP l.row.toRowW d [] (fun f vs=>PySem.call f vs):=by
 refine Att.attach_call hn hdf fun w s₀ s₁ mg mb fa o pm cd doc a vs ns G Y ho hd hcd hmg hobj hints hlen hg=>?_
 have KX:=hY w _ Y
 obtain ⟨fd,hb,hF⟩:=F w mg fa _ KX G.T.g hmg
 exact ZY KX G.T.g G.T.b G.T.builtins G.T.nolimit hg hobj hints (Nat.le_trans hlen hn2) hr hF hb (fun H hO hS=>hsp w H a ns hlen hO hS) fun H e s'=>hCX w H s₁ e s'
def IM (s:Stmt):Arguments:=match s with
 | .FunctionDef _ a _ _ _ _ _ _ _ _=>a
 | _=>{ posonlyargs:=[],args:=[],vararg:=none,kwonlyargs:=[],kw_defaults:=[],kwarg:=none,defaults:=[] }
def BP (s:Stmt):List Stmt:=match s with
 | .FunctionDef _ _ b _ _ _ _ _ _ _=>b
 | _=>[]
def J5 (s:Stmt):Scope:=match s with
 | .FunctionDef _ _ _ _ _ _ sc _ _ _=>sc
 | _=>{ kind:=.function,names:=[],isGenerator:=false,isCoroutine:=false }
abbrev CX0:CXT:=fun _ _ _ _ _ _=>False
abbrev E0:XK:=fun _ _ _=>False
theorem Q1b {X:Cx}:GS CX0 X E0:=fun _ _ _ _ _ _ _ h=>h.elim
structure Fun (K:Fg)(x qual:Str)(st:Stmt)(f:Addr)(fd:FuncData):Prop where
 ex:∃ (oc:Value) (od:Option Addr) (kV doc pm:Value) (an:Option Addr) (cdv ct:Value) (osl:Array (Option Value)),
  fd=PySem.W.fnOf x qual (IM st) (BP st) (J5 st) .none kV doc pm an cdv ct/\K.lookup f=some ⟨oc,od,.func fd,osl⟩/\PySem.W.codeIn K cdv qual=true
 kp:PySem.W.keepIn K (.ref f)=true
section
variable {P:Program}{w:World}{K:Fg}{mg:Str->Option Value}{base:Heap}
theorem Fun.ok {x qual:Str}{st:Stmt}{f:Addr} {N ps:List Str}{k:Nat}{sp:Sp}(F:Fun K x qual st f fd)(S:FnScope N ps (J5 st))(len:∀ vs H Q E,sp vs H Q E->vs.length=ps.length)
 (hbody:∀ (cdv:Value) (A:Around) (outer:List Env) (s:Shared) (H:Hp) (vs:List V) (Q:VK) (E:XK),Room k (A.deeper (envOfC qual (J5 st) s.heap.objs.size f cdv))->sp vs H Q E ->
  ∃ t,PSs (CI CX0 P w K mg base N qual (J5 st) f cdv A outer s H E).nox (BP st) t/\t { nx:=fun _ H'=>Q .non H',rt:=Q } (EC N vs) H):FnOk P w K mg base CX0 (k+1) f fd ps sp:=by
 obtain ⟨oc,od,kV,doc,pm,an,cdv,ct,osl,rfl,lk,hcd⟩:=F.ex
 refine J5z lk hcd S len fun A outer s H vs Q E hr hsp=>?_
 obtain ⟨t,h,q⟩:=hbody cdv A outer s H vs Q E hr hsp
 exact ⟨t,h.nox,q⟩
theorem Fun.binds {x qual:Str}{st:Stmt}{f:Addr} {ps:List Str}(F:Fun K x qual st f fd)
 (h:∀ (kV doc pm:Value) (an:Option Addr) (cdv ct:Value) (us:List Value),us.length=ps.length->bindArgs (PySem.W.fnOf x qual (IM st) (BP st) (J5 st) .none kV doc pm an cdv ct) ⟨us,[]⟩=pure (ps.zip us)):Binds K fd ps []:=by
 obtain ⟨oc,od,kV,doc,pm,an,cdv,ct,osl,rfl,lk,hcd⟩:=F.ex
 exact .all (h kV doc pm an cdv ct)
theorem J8o {x qual:Str}{st:Stmt}{f:Addr}{oc:Value}{od an:Option Addr}{osl:Array (Option Value)}{kV doc pm cdv ct:Value}(l:K.lookup f=some ⟨oc,od,.func (PySem.W.fnOf x qual (IM st) (BP st) (J5 st) .none kV doc pm an cdv ct),osl⟩)
 (c:PySem.W.codeIn K cdv qual=true) (k:PySem.W.keepIn K (.ref f)=true):Fun K x qual st f (PySem.W.fnOf x qual (IM st) (BP st) (J5 st) .none kV doc pm an cdv ct):=⟨⟨oc,od,kV,doc,pm,an,cdv,ct,osl,rfl,l,c⟩,k⟩
end
section
variable {X:Cx}
theorem pv (i:Nat) {x:Str} {pos:Pos} (hN:X.N[i]?=some x:=by rfl) (hv:Vis X.env.scope x:=by first|exact Or.inl rfl|exact Or.inr (Or.inl rfl)|exact Or.inr (Or.inr rfl)) (hd:(x==("__debug__" : Str))=false:=by decide)
 (hcd:(x==("__classdict__" : Str))=false:=by decide):PE X (.Name x pos) (FI i):=OS hN hv hd hcd
end
theorem Q3c {A B:Prop}(h:B):if false=true then A else B:=by
 rw [if_neg Bool.false_ne_true]
 exact h
theorem Q3b {A B:Prop}(h:A):if true=true then A else B:=by
 rw [if_pos rfl]
 exact h
def Same (H H':Hp):Prop:=∀ b o,H b=some o->H' b=some o
theorem Same.refl (H:Hp):Same H H:=fun _ _ h=>h
end L2
set_option maxHeartbeats 4000000
namespace L2
open PySem PySem.Spec PyProof.Rows
theorem QE {x:Str}{lo:Nat}:∀ (names:List (Str×NameKind)) (n:Nat) (acc:List (Str×Addr)),lo<=n->(∀ c,acc.lookup x=some c->lo<=c)->∀ c,(cellsFrom n names acc).lookup x=some c->lo<=c
 | [],_,_,_,h,c,e=>h c e
 | (y,k)::r,n,acc,hn,h,c,e=>by
   unfold cellsFrom at e
   split at e
   · refine QE r (n+1) ((y,n)::acc) (by omega) (fun c' e'=>?_) c e
     rw [List.lookup_cons] at e'
     cases hb:x==y with
     | true=>rw [hb] at e';cases e';exact hn
     | false=>rw [hb] at e';exact h c' e'
   · exact QE r n acc hn h c e
theorem UD {x:Str}{lo:Nat}:∀ (names:List (Str×NameKind)) (n:Nat) (acc:List (Str×Addr)),lo<=n->(x,NameKind.cell)∈names->∀ c,(cellsFrom n names acc).lookup x=some c->lo<=c
 | [],_,_,_,hm,_,_=>by cases hm
 | (y,k)::r,n,acc,hn,hm,c,e=>by
   unfold cellsFrom at e
   split at e
   · rcases List.mem_cons.mp hm with z|z
     · cases z
       refine QE r (n+1) ((x,n)::acc) (by omega) (fun c' e'=>?_) c e
       rw [List.lookup_cons,beq_self_eq_true] at e'
       cases e'
       exact hn
     · exact UD r (n+1) ((y,n)::acc) (by omega) z c e
   · rename_i hk
     rcases List.mem_cons.mp hm with z|z
     · cases z
       exact absurd rfl hk
     · exact UD r n acc hn z c e
theorem UE {x:Str}:∀ (names:List (Str×NameKind)) (n:Nat) (acc:List (Str×Addr)),¬ (x,NameKind.cell)∈names->(cellsFrom n names acc).lookup x=acc.lookup x
 | [],_,_,_=>rfl
 | (y,k)::r,n,acc,hm=>by
   unfold cellsFrom
   have hr:¬ (x,NameKind.cell)∈r:=fun z=>hm (List.mem_cons_of_mem _ z)
   split
   · rename_i hk
     rw [UE r (n+1) _ hr,List.lookup_cons]
     have hxy:(x==y)=false:=by
      cases hb:x==y with
      | false=>rfl
      | true =>
        have e1:x=y:=beq_iff_eq.mp hb
        have e2:k=NameKind.cell:=beq_iff_eq.mp hk
        subst e1 e2
        exact absurd List.mem_cons_self hm
     rw [hxy]
   · exact UE r n acc hr
theorem UF:∀ (names:List (Str×NameKind)) (n:Nat) (acc:List (Str×Addr)),(∀ x c,acc.lookup x=some c->c<n)->(∀ x y c,acc.lookup x=some c->acc.lookup y=some c->x=y) ->
 ∀ x y c,(cellsFrom n names acc).lookup x=some c->(cellsFrom n names acc).lookup y=some c->x=y
 | [],_,_,_,h,x,y,c,e1,e2=>h x y c e1 e2
 | (z,k)::r,n,acc,hb,h,x,y,c,e1,e2=>by
   unfold cellsFrom at e1 e2
   split at e1
   · rename_i hk
     rw [if_pos hk] at e2
     refine UF r (n+1) ((z,n)::acc) (fun x' c' e'=>?_) (fun x' y' c' e1' e2'=>?_) x y c e1 e2
     · rw [List.lookup_cons] at e'
       cases q:x'==z with
       | true=>rw [q] at e';cases e';exact Nat.lt_succ_self _
       | false=>rw [q] at e';exact Nat.lt_succ_of_lt (hb x' c' e')
     · rw [List.lookup_cons] at e1' e2'
       cases q1:x'==z with
       | true =>
         rw [q1] at e1'
         cases e1'
         cases q2:y'==z with
         | true=>rw [beq_iff_eq.mp q1,beq_iff_eq.mp q2]
         | false =>
           rw [q2] at e2'
           exact absurd (hb y' _ e2') (Nat.lt_irrefl _)
       | false =>
         rw [q1] at e1'
         cases q2:y'==z with
         | true =>
           rw [q2] at e2'
           cases e2'
           exact absurd (hb x' _ e1') (Nat.lt_irrefl _)
         | false =>
           rw [q2] at e2'
           exact h x' y' c' e1' e2'
   · rename_i hk
     rw [if_neg hk] at e2
     exact UF r n acc hb h x y c e1 e2
theorem SL:∀ (names:List (Str×NameKind)) (n:Nat) (acc:List (Str×Addr)) (x:Str) (c:Addr),(cellsFrom n names acc).lookup x=some c->acc.lookup x=some c\/n<=c
 | [],_,_,_,_,e=>.inl e
 | (z,k)::r,n,acc,x,c,e=>by
   unfold cellsFrom at e
   split at e
   · rcases SL r (n+1) ((z,n)::acc) x c e with q|q
     · rw [List.lookup_cons] at q
       cases hb:x==z with
       | true=>rw [hb] at q;cases q;exact .inr (Nat.le_refl _)
       | false=>rw [hb] at q;exact .inl q
     · exact .inr (by omega)
   · exact SL r n acc x c e
theorem QF:∀ (names:List (Str×NameKind)) (h:Heap) (acc:List (Str×Addr)),(∀ x c,acc.lookup x=some c->∃ v,h.IsCell c v) ->
 ∀ x c,(cellsFrom h.objs.size names acc).lookup x=some c->∃ v,(pushCells h names).IsCell c v
 | [],_,_,hh,x,c,e=>hh x c e
 | (z,k)::r,h,acc,hh,x,c,e=>by
   unfold cellsFrom at e
   unfold pushCells
   split at e
   · rename_i hk
     rw [if_pos hk]
     have e':(cellsFrom (h.push { cls:=.type "cell",data:=.cell none }).objs.size r ((z,h.objs.size)::acc)).lookup x=some c:=by rw [Heap.size_push];exact e
     refine QF r _ _ (fun x' c' q=>?_) x c e'
     rw [List.lookup_cons] at q
     cases hb:x'==z with
     | true =>
       rw [hb] at q
       cases q
       exact ⟨none,_,Heap.get?_push_size _ rfl,rfl⟩
     | false =>
       rw [hb] at q
       obtain ⟨v,w⟩:=hh x' c' q
       exact ⟨v,w.keeps fun b o e=>Heap.get?_push_of_some _ e⟩
   · rename_i hk
     rw [if_neg hk]
     exact QF r h acc hh x c e
theorem QD {env:Env}(f:Str×NameKind->List (Str×Addr)->Sem (ForInStep (List (Str×Addr))))
 (hf:∀ name kind cs,f (name,kind) cs=if kind==.free then (do let a <- cellOf env name;pure (.yield ((name,a)::cs))) else pure (.yield cs)) :
 ∀ (names:List (Str×NameKind)) (acc:List (Str×Addr)),(∀ x,(x,NameKind.free)∈names->∃ c,env.cells.lookup x=some c)->(∀ x c,acc.lookup x=some c->env.cells.lookup x=some c) ->
  ∃ cl,forIn names acc f=pure cl/\(∀ x c,cl.lookup x=some c->env.cells.lookup x=some c)/\∀ x,((acc.lookup x).isSome=true\/(x,NameKind.free)∈names)->(cl.lookup x).isSome=true
 | [],acc,_,ha=>⟨acc,by rw [List.forIn_nil],ha,fun x h=>h.elim id fun z=>by cases z⟩
 | (name,kind)::r,acc,hn,ha=>by
   have hr:∀ x,(x,NameKind.free)∈r->∃ c,env.cells.lookup x=some c:=fun x hx=>hn x (List.mem_cons_of_mem _ hx)
   by_cases hk:(kind==NameKind.free)=true
   · have ek:kind=NameKind.free:=beq_iff_eq.mp hk
     subst ek
     obtain ⟨c,hc⟩:=hn name List.mem_cons_self
     obtain ⟨cl,e1,e2,e3⟩:=QD f hf r ((name,c)::acc) hr (fun x c' e=>by
      rw [List.lookup_cons] at e
      cases hb:x==name with
      | true=>rw [hb] at e;cases e;rw [beq_iff_eq.mp hb];exact hc
      | false=>rw [hb] at e;exact ha x c' e)
     refine ⟨cl,?_,e2,fun x hx=>e3 x ?_⟩
     · rw [List.forIn_cons,hf,if_pos hk]
       unfold cellOf
       rw [hc]
       simpa using e1
     · rcases hx with hx|hx
       · left
         rw [List.lookup_cons]
         cases hb:x==name with
         | true=>rfl
         | false=>exact hx
       · rcases List.mem_cons.mp hx with z|z
         · cases z
           left
           rw [List.lookup_cons,beq_self_eq_true]
           rfl
         · exact .inr z
   · obtain ⟨cl,e1,e2,e3⟩:=QD f hf r acc hr ha
     refine ⟨cl,?_,e2,fun x hx=>e3 x ?_⟩
     · rw [List.forIn_cons,hf,if_neg hk]
       simpa using e1
     · rcases hx with hx|hx
       · exact .inl hx
       · rcases List.mem_cons.mp hx with z|z
         · cases z
           exact absurd rfl hk
         · exact .inr z
theorem NG {scope:Scope}{env:Env}(hn:∀ x,(x,NameKind.free)∈scope.names->∃ c,env.cells.lookup x=some c) :
 ∃ cl,closureFor scope env=pure cl/\(∀ x c,cl.lookup x=some c->env.cells.lookup x=some c)/\∀ x,(x,NameKind.free)∈scope.names->(cl.lookup x).isSome=true:=by
 obtain ⟨cl,e1,e2,e3⟩:=QD (env:=env) (fun x cs=>match x with
  | (name,kind)=>if (kind==NameKind.free)=true then (do let a <- cellOf env name;pure (ForInStep.yield ((name,a)::cs))) else pure (ForInStep.yield cs)) (fun name kind cs=>rfl) scope.names [] hn (fun x c e=>by cases e)
 refine ⟨cl,?_,e2,fun x hx=>e3 x (.inr hx)⟩
 show (forIn scope.names [] _ >>= fun r=>pure r)=_
 refine Eq.trans (congrArg (fun m=>m >>= fun r=>pure r) e1) ?_
 simp
def UT (ifs:List Expr)(env:Env):Sem Bool:=forIn ifs true fun c r=>if r=true then do let ok <- isTrue c env (eval c env);pure (ForInStep.yield ok) else pure (ForInStep.yield r)
theorem QC {prog:Program}{w:World}{A:Around}{R:Result->Shared->Prop}{s:Shared}{elt target iter:Expr}{ifs:List Expr}{scope:Scope}{pos:Pos}{it acc:Value}{env:Env}(J:Nat->Shared->Prop)
 (turn:∀ n s,J n s->wpAny (model prog w) A (pyNext it) (fun r s₁=>match r with
  | none=>R (.ok .next) s₁
  | some v=>wpAny (model prog w) A (letOwnedTupleGo target it v) (fun _ s₁'=>wpAny (model prog w) A (assign target env v) (fun _ s₂=>wpAny (model prog w) A (UT ifs env) (fun ok s₃ =>
   if ok=true then wpAny (model prog w) A (eval elt env) (fun x s₄=>wpAny (model prog w) A (call (.builtin "list.append") [acc,x]) (fun _ s₅=>∃ m,m<n/\J m s₅) (notedBy (model prog w) A env fun e s'=>R (.error e) s') s₄)
    (notedBy (model prog w) A env fun e s'=>R (.error e) s') s₃
   else ∃ m,m<n/\J m s₃) (notedBy (model prog w) A env fun e s'=>R (.error e) s') s₂) (notedBy (model prog w) A env fun e s'=>R (.error e) s') s₁') (notedBy (model prog w) A env fun e s'=>R (.error e) s') s₁)
   (notedBy (model prog w) A env fun e s'=>R (.error e) s') s) (n:Nat) (h:J n s) :
 codeAny (model prog w) A (.compLoop (.ListComp elt [⟨target,iter,ifs,0⟩] scope pos) 0 it acc env) R s:=by
 refine codeAny_loop rfl J (fun n s hJ=>?_) n h
 show wpAny _ _ (Sem.onRaise (compTurn (.ListComp elt [⟨target,iter,ifs,0⟩] scope pos) 0 it acc env) fun x=>do noteFrame x env;theTreesLotGoes x) _ _ _
 refine wpAny_noted ?_
 rw [compTurn_list]
 refine wpAny_bind (wpAny_standAt (wpAny_bind (thn (turn n s hJ) fun r s₁ h₁=>?_)))
 cases r with
 | none=>exact wpAny_pure h₁
 | some v =>
   refine wpAny_bind (thn h₁ fun _ s₁' h₁'=>wpAny_bind (thn h₁' fun _ s₂ h₂=>wpAny_bind (thn h₂ fun ok s₃ h₃=>?_)))
   cases ok with
   | true=>exact wpAny_bind (wpAny_bind (thn h₃ fun x s₄ h₄=>wpAny_bind (thn h₄ fun _ s₅ h₅=>wpAny_pure (wpAny_pure ⟨rfl,h₅⟩))))
   | false=>exact wpAny_pure ⟨rfl,h₃⟩
def Q0j (X:Cx)(C:Addr)(e:Value)(s':Shared):Prop :=
 ∃ m,s'.heap.Ns C m/\∀ h',Heap.SameBut C s'.heap h'->∀ cenv:Env,cenv.locals=C->wpAny (model X.prog X.w) X.A (passOn "comprehension.variables-let-go" e cenv:Sem Value) (fun _ _=>False) X.xe { s' with heap:=h' }
def Q0 (X:Cx)(N:List Str)(scope:Scope)(cells:List (Str×Addr))(C:Addr)(fp:List Addr)(s:Shared)(H:Hp):Cx where
 prog:=X.prog
 w:=X.w
 K:=X.K
 mg:=X.mg
 base:=X.base
 A:=X.A
 N:=N
 s₀:=s
 H₀:=H
 env:=compEnvC scope cells C X.env
 outer:=X.stack
 stack:=X.stack
 ex:=fp
 fn:=fun x=>decide (scope.names.lookup x=some NameKind.cell)
 calm:=X.calm
 pn:=[]
 xe:=notedBy (model X.prog X.w) X.A (compEnvC scope cells C X.env) (Q0j X C)
def capt (σ:St)(map:List (Option Nat)):St:=map.map fun o=>o.bind fun i=>(σ[i]?).join
def CapOk (X:Cx)(scope:Scope):List (Option Nat)->List Str->Prop
 | [],[]=>True
 | none::m,_::n=>CapOk X scope m n
 | some i::m,x::n=>(X.N[i]?=some x/\scope.names.lookup x=some .free/\(scope.names.all fun p=>!(p.1==x&&p.2==NameKind.cell))=true/\(X.env.kindOf x=some .cell\/X.env.kindOf x=some .free))/\CapOk X scope m n
 | _,_=>False
theorem CapOk.length {X:Cx}{scope:Scope}:∀ {m:List (Option Nat)} {n:List Str},CapOk X scope m n->m.length=n.length
 | [],[],_=>rfl
 | none::m,_::n,h=>by simp [CapOk.length (m:=m) (n:=n) h]
 | some i::m,x::n,h=>by simp [CapOk.length (m:=m) (n:=n) h.2]
 | [],_::_,h=>h.elim
 | some _::_,[],h=>h.elim
 | none::_,[],h=>h.elim
theorem CapOk.get {X:Cx}{scope:Scope}:∀ {m:List (Option Nat)} {n:List Str} {j i:Nat} {x:Str},CapOk X scope m n->m[j]?=some (some i)->n[j]?=some x ->
 X.N[i]?=some x/\scope.names.lookup x=some .free/\¬ (x,NameKind.cell)∈scope.names/\(X.env.kindOf x=some .cell\/X.env.kindOf x=some .free)
 | [],[],_,_,_,_,e,_=>by simp at e
 | none::m,_::n,0,_,_,_,e,_=>by simp at e
 | none::m,_::n,j+1,i,x,h,e,e'=>CapOk.get (m:=m) (n:=n) (j:=j) h (by simpa using e) (by simpa using e')
 | some k::m,y::n,0,i,x,h,e,e'=>by
   have e1:k=i:=by simpa using e
   have e2:y=x:=by simpa using e'
   subst e1 e2
   obtain ⟨⟨h1,h2,h3,h4⟩,_⟩:=h
   refine ⟨h1,h2,fun hm=>?_,h4⟩
   have q:=List.all_eq_true.mp h3 _ hm
   simp at q
 | some k::m,y::n,j+1,i,x,h,e,e'=>CapOk.get (m:=m) (n:=n) (j:=j) h.2 (by simpa using e) (by simpa using e')
 | [],_::_,_,_,_,h,_,_=>h.elim
 | some _::_,[],_,_,_,h,_,_=>h.elim
 | none::_,[],_,_,_,h,_,_=>h.elim
def GU (g:TG)(map:List (Option Nat)):Prop:=∀ v σ H Q,g v σ H Q->g v σ H fun σ' H'=>(σ'.length=σ.length/\∀ j i:Nat,map[j]?=some (some i)->σ'[j]?=σ[j]?)/\Q σ' H'
def PIf (X:Cx)(ifs:List Expr)(t:TT):Prop :=
 ∀ (pins:List (Addr×Obj)) (s:Shared) (σ:St) (H:Hp) (Q:Bool->Hp->Prop),Inv X pins σ H s->t σ H Q->wpAny (model X.prog X.w) X.A (UT ifs X.env) (TP X pins σ Q) X.xe s
def Q0p:TT:=fun _ H Q=>Q true H
theorem VB {X:Cx}:PIf X [] Q0p:=fun _ _ _ H _ I h=>wpAny_pure ⟨H,I,h⟩
theorem J3m {X:Cx}{c:Expr}{t:TT}(hc:PT X c t):PIf X [c] t:=fun pins s σ H Q I h=>by
 unfold UT
 simp only [List.forIn_cons,List.forIn_nil,if_true]
 exact wpAny_bind (wpAny_bind (thn (hc pins s σ H Q I h) fun b s' hb=>wpAny_pure (wpAny_pure hb)))
theorem CO {env:Env}{x:Str}{k:NameKind}:∀ {names:List (Str×NameKind)},
 (names.map fun (p:Str×NameKind)=>match p with|(n,k)=>if (k==NameKind.free&&env.scope.kind==.function&&env.kindOf n==some .cell) then (n,NameKind.cell) else (n,k)).lookup x=some k ->
 ∃ k',names.lookup x=some k'/\(k'=k\/(k'=.free/\k=.cell))
 | [],h=>by simp at h
 | (n,k')::r,h=>by
   rw [List.map_cons] at h
   by_cases hc:(k'==NameKind.free&&env.scope.kind==.function&&env.kindOf n==some .cell)=true
   · simp only [if_pos hc,List.lookup_cons] at h
     rw [List.lookup_cons]
     cases hx:x==n with
     | true =>
       rw [hx] at h
       cases h
       refine ⟨k',rfl,.inr ⟨?_,rfl⟩⟩
       simp only [Bool.and_eq_true,beq_iff_eq] at hc
       exact hc.1.1
     | false =>
       rw [hx] at h
       exact CO h
   · simp only [if_neg hc,List.lookup_cons] at h
     rw [List.lookup_cons]
     cases hx:x==n with
     | true =>
       rw [hx] at h
       cases h
       exact ⟨_,rfl,.inl rfl⟩
     | false =>
       rw [hx] at h
       exact CO h
theorem FM {env:Env}{x:Str}:∀ {names:List (Str×NameKind)},names.lookup x=some .free ->
 (names.map fun (p:Str×NameKind)=>match p with|(n,k)=>if (k==NameKind.free&&env.scope.kind==.function&&env.kindOf n==some .cell) then (n,NameKind.cell) else (n,k)).lookup x=some .cell \/
 (names.map fun (p:Str×NameKind)=>match p with|(n,k)=>if (k==NameKind.free&&env.scope.kind==.function&&env.kindOf n==some .cell) then (n,NameKind.cell) else (n,k)).lookup x=some .free
 | [],h=>by simp at h
 | (n,k')::r,h=>by
   rw [List.map_cons]
   rw [List.lookup_cons] at h
   by_cases hc:(k'==NameKind.free&&env.scope.kind==.function&&env.kindOf n==some .cell)=true
   · simp only [if_pos hc,List.lookup_cons]
     cases hx:x==n with
     | true=>exact .inl rfl
     | false =>
       rw [hx] at h
       exact FM h
   · simp only [if_neg hc,List.lookup_cons]
     cases hx:x==n with
     | true =>
       rw [hx] at h
       cases h
       exact .inr rfl
     | false =>
       rw [hx] at h
       exact FM h
section
variable {X:Cx}{elt iter tg:Expr}{ifs:List Expr}{scope:Scope}{pos:Pos}{N':List Str}{map:List (Option Nat)}{wi:TI}{g:TG}{tt:TT}{te:TE}
def KI (J:It)(g:TG)(tt:TT)(te:TE)(σc:St)(Fin:List V->Hp->Prop)(W:Nat->Nat->List V->Hp->Prop):Prop :=
 ∀ i m acc H2,W i m acc H2->(J.stop i H2/\acc.length<=sizeLine/\Fin acc H2) \/
  (J.go i H2/\acc.length<sizeLine/\∃ N:List V->Hp->Prop,(∀ acc' H',N acc' H'->∃ m',m'<m/\W (i+1) m' acc' H')/\∀ x H3,J.yld i H2 x H3->g x σc H3 fun σ4 H4=>tt σ4 H4 fun b H5=>if b=true then te σ4 H5 fun v H6=>N (acc++[v]) H6 else N acc H5)
structure TurnG (R:Cx->Prop)(P:Program)(w:World)(K:Fg)(tg:Expr)(J:It)(fp:List Addr)(it:Addr)(tn:Nat->Heap->Prop):Prop where
 mem:it∈fp
 obj:∀ i h,tn i h->∀ b∈fp,∃ o,h.get? b=some o/\∀ v,o.data≠.cell v
 keep:∀ i h h',tn i h->(∀ b∈fp,∀ o,h.get? b=some o->h'.get? b=some o)->tn i h'
 item:∀ (X:Cx),X.prog=P->X.w=w->X.K=K->R X->∀ (i:Nat) (pins:List (Addr×Obj)) (s:Shared) (σ:St) (H:Hp) (E:Value->Shared->Prop),Inv X pins σ H s->(∀ b∈fp,HJ X pins H b)->tn i s.heap->J.go i H->wpAny (model P w) X.A (pyNext (.ref it)) (fun r s1=>∃ u,r=some u /\
  wpAny (model P w) X.A (letOwnedTupleGo tg (.ref it) u) (fun _ s2=>∃ x H',Inv X pins σ H' s2/\RelV x u/\J.yld i H x H'/\tn (i+1) s2.heap/\∀ b∈fp,H' b=none) E s1) E s
 done:∀ (X:Cx),X.prog=P->X.w=w->X.K=K->R X->∀ (i:Nat) (pins:List (Addr×Obj)) (s:Shared) (σ:St) (H:Hp) (E:Value->Shared->Prop),Inv X pins σ H s->(∀ b∈fp,HJ X pins H b)->tn i s.heap->J.stop i H->wpAny (model P w) X.A (pyNext (.ref it)) (fun r s1=>r=none/\Inv X pins σ H s1) E s
 self:∀ (A:Around) (i:Nat) (s:Shared) (Q:Value->Shared->Prop) (E:Value->Shared->Prop),tn i s.heap->Q (.ref it) s->wpAny (model P w) A (pyIter (.ref it)) Q E s
theorem Turn.gen {w:World} {tg:Expr}{J:It}{fp:List Addr}{it:Addr}{tn:Nat->Heap->Prop}(T:Turn P w K tg J fp it tn):TurnG (fun X=>X.calm=true) P w K tg J fp it tn:=⟨T.mem,T.obj,T.keep,T.item,T.done,T.self⟩
def J2o (X:Cx)(C:Addr)(fp:List Addr)(s:Shared)(H:Hp):Prop:=∃ pins σ,Inv X pins σ H s/\(∀ b∈fp,HJ X pins H b)/\s.heap.objs.size<=C
structure BlkM (X:Cx)(N':List Str)(scope:Scope)(map:List (Option Nat))(tg elt:Expr)(ifs:List Expr)(g:TG)(tt:TT)(te:TE):Prop where
 kind:scope.kind=.function
 loc:∀ x∈scope.names,x.2=.local->scope.names.lookup x.1=some .local
 free:(scope.names.all fun p=>!(p.2==NameKind.free)||(X.env.kindOf p.1==some .cell||X.env.kindOf p.1==some .free))=true
 cap:CapOk X scope map N'
 keep:GU g map
 run:∀ cells C fp s H,J2o X C fp s H->PG (Q0 X N' scope cells C fp s H) tg g/\PIf (Q0 X N' scope cells C fp s H) ifs tt/\PE (Q0 X N' scope cells C fp s H) elt te
structure Blk (X:Cx)(N':List Str)(scope:Scope)(map:List (Option Nat))(tg elt:Expr)(ifs:List Expr)(g:TG)(tt:TT)(te:TE):Prop where
 calm:X.calm=true
 kind:scope.kind=.function
 loc:∀ x∈scope.names,x.2=.local->scope.names.lookup x.1=some .local
 free:(scope.names.all fun p=>!(p.2==NameKind.free)||(X.env.kindOf p.1==some .cell||X.env.kindOf p.1==some .free))=true
 cap:CapOk X scope map N'
 keep:GU g map
 run:∀ cells C fp s H,J2o X C fp s H->PG (Q0 X N' scope cells C fp s H) tg g/\PIf (Q0 X N' scope cells C fp s H) ifs tt/\PE (Q0 X N' scope cells C fp s H) elt te
theorem Blk.m (B:Blk X N' scope map tg elt ifs g tt te):BlkM X N' scope map tg elt ifs g tt te:=⟨B.kind,B.loc,B.free,B.cap,B.keep,B.run⟩
theorem WG {pins:List (Addr×Obj)}{σ:St}{H1:Hp}{s2:Shared}{cl:List (Str×Addr)}{fp:List Addr}(I:Inv X pins σ H1 s2)(B:BlkM X N' scope map tg elt ifs g tt te)
 (hsub:∀ x c,cl.lookup x=some c->X.env.cells.lookup x=some c) (hhas:∀ x,(x,NameKind.free)∈scope.names->(cl.lookup x).isSome=true)
 (hf:∀ b∈fp,HJ X pins H1 b) (hfo:∀ b∈fp,∃ o,s2.heap.get? b=some o) (C:Addr) (h3:Heap) (hC:s2.heap.objs.size<=C) (k3:∀ b o,s2.heap.get? b=some o->h3.get? b=some o) (hCsz:C<h3.objs.size) (hns:h3.Ns C fun _=>none) (tk:Nat) :
 Inv (Q0 X N' scope (cellsFrom h3.objs.size scope.names cl) C fp s2 H1) [] (capt σ map) H1 { s2 with heap:=pushCells h3 scope.names,toks:=tk }:=by
 have kk:∀ b o,s2.heap.get? b=some o->(pushCells h3 scope.names).get? b=some o:=fun b o e=>pushCells_keeps _ _ b o (k3 b o e)
 have fsz:∀ b∈fp,b<s2.heap.objs.size:=fun b hb=>by obtain ⟨o,e⟩:=hfo b hb;exact Heap.lt_size e
 have clz:∀ x c,cl.lookup x=some c->c<s2.heap.objs.size:=fun x c e=>by
  obtain ⟨v,o,ho,_⟩:=I.cell x c (hsub x c e)
  exact Heap.lt_size ho
 have h3sz:s2.heap.objs.size<h3.objs.size:=Nat.lt_of_le_of_lt hC hCsz
 have cof:∀ x c,(cellsFrom h3.objs.size scope.names cl).lookup x=some c->X.env.cells.lookup x=some c\/h3.objs.size<=c:=fun x c e=>(SL _ _ _ x c e).imp (hsub x c) id
 have cnb:∀ x c,(cellsFrom h3.objs.size scope.names cl).lookup x=some c->∀ b∈fp,c≠b:=fun x c e b hb z=>by
  rcases cof x c e with q|q
  · exact (hf b hb).2.2.2.2.1 x c q z
  · have h1:=fsz b hb
    rw [<- z] at h1
    exact absurd (Nat.lt_of_lt_of_le (Nat.lt_trans h1 h3sz) q) (Nat.lt_irrefl _)
 have fnf:∀ b∈fp,b∉frs X.stack:=fun b hb hm=>by
  obtain ⟨_,f1,f2,_⟩:=hf b hb
  rcases List.mem_cons.mp (I.stkSub b hm) with z|z
  · exact f1 z
  · exact f2 z
 have cellI:∀ x c,(cellsFrom h3.objs.size scope.names cl).lookup x=some c->∃ v,(pushCells h3 scope.names).IsCell c v:=fun x c e =>
  QF scope.names h3 cl (fun x' c' q=>by
   obtain ⟨v,w⟩:=I.cell x' c' (hsub x' c' q)
   exact ⟨v,w.keeps k3⟩) x c e
 have hC0:H1 C=none:=I.hok.fresh hC
 have ok:(Q0 X N' scope (cellsFrom h3.objs.size scope.names cl) C fp s2 H1).Ok :=
  { mod:=I.ok.mod
    kind:=B.kind
    glob:=I.ok.glob
    blt:=I.ok.blt
    above:=hC
    inj:=UF scope.names h3.objs.size cl (fun x c e=>Nat.lt_trans (clz x c e) h3sz) fun x y c e1 e2=>I.ok.inj x y c (hsub x c e1) (hsub y c e2)
    has:=fun x hx=>by
     have hx:(relabel scope X.env).names.lookup x=some .cell\/(relabel scope X.env).names.lookup x=some .free:=hx
     have goal:(scope.names.lookup x=some .cell\/(cl.lookup x).isSome=true):=by
      rcases hx with q|q
      · obtain ⟨k',e1,e2⟩:=CO q
        rcases e2 with z|⟨z,_⟩
        · exact .inl (by rw [e1,z])
        · exact .inr (hhas x (PySem.mem_of_lookup (by rw [e1,z])))
      · obtain ⟨k',e1,e2⟩:=CO q
        rcases e2 with z|⟨z,z'⟩
        · exact .inr (hhas x (PySem.mem_of_lookup (by rw [e1,z])))
        · cases z'
     exact Option.isSome_iff_exists.mp (PySem.W.cellsFrom_some scope.names h3.objs.size cl goal)
    cab:=fun x c hx e=>Nat.le_of_lt (Nat.lt_of_lt_of_le h3sz (UD scope.names h3.objs.size cl (Nat.le_refl _) (PySem.mem_of_lookup (of_decide_eq_true hx)) c e))
    hd:=I.ok.hd
    frames:=I.ok.frames
    stk:=.inl rfl
    exf:=fun b hb=>⟨fun z=>absurd (fsz b hb) (by rw [z];exact Nat.not_lt.mpr hC),fun x c e=>cnb x c e b hb⟩
    bs:=I.bs
    bsz:=Nat.le_trans I.ok.bsz I.sz
    noex:=fun b o e hb=>by
     rcases (hf b hb).2.2.2.1 with z|z
     · exact I.ok.noex b o e z
     · exact absurd (Heap.lt_size (I.ok.bs b o e).1) (Nat.not_lt.mpr z)
    exfs:=fnf
    funs:=I.stack
    frf:=I.stkFree }
 refine ⟨ok,rfl,I.bare,Un.kept kk,⟨fun _=>none,hns.keeps fun b o e=>pushCells_keeps _ _ b o e,fun j x v e1 e2 e3=>?_⟩,cellI,hC0,fun x c e=>?_,fun p hp=>absurd (show p∈([]:List (Addr×Obj)) from hp) (by simp),I.hok.kept kk,?_⟩
 · have e2':(capt σ map)[j]?=some (some v):=e2
   unfold capt at e2'
   rw [List.getElem?_map] at e2'
   cases hm:map[j]? with
   | none=>rw [hm] at e2';cases e2'
   | some o =>
     rw [hm] at e2'
     cases o with
     | none=>simp at e2'
     | some i =>
       have e2'':(σ[i]?).join=some v:=by simpa using e2'
       have hσ:σ[i]?=some (some v):=by
        cases q:σ[i]? with
        | none=>rw [q] at e2'';cases e2''
        | some o' =>
          rw [q] at e2''
          have:o'=some v:=by simpa using e2''
          rw [this]
       obtain ⟨c1,c2,c3,c4⟩:=B.cap.get hm e1
       obtain ⟨m,hn,hl⟩:=I.loc
       have vis:Vis X.env.scope x:=by
        rcases c4 with z|z
        · exact .inr (.inl z)
        · exact .inr (.inr z)
       obtain ⟨u,r,l⟩:=hl i x v c1 hσ vis
       refine ⟨u,r,?_⟩
       rcases l with ⟨z,_⟩|⟨_,c,ec,hcell⟩
       · rcases c4 with q|q
         · rw [q] at z;cases z
         · rw [q] at z;cases z
       · right
         refine ⟨FM c2,c,?_,hcell.keeps kk⟩
         show (cellsFrom h3.objs.size scope.names cl).lookup x=some c
         rw [UE _ _ _ c3]
         obtain ⟨c',hc'⟩:=Option.isSome_iff_exists.mp (hhas x (PySem.mem_of_lookup c2))
         have:=hsub x c' hc'
         rw [ec] at this
         cases this
         exact hc'
 · rcases cof x c e with q|q
   · exact I.freeC x c q
   · exact I.hok.fresh (Nat.le_trans (Nat.le_of_lt h3sz) q)
 · show (capt σ map).length=N'.length
   unfold capt
   rw [List.length_map]
   exact B.cap.length
theorem WF {pins:List (Addr×Obj)}{σ:St}{H1:Hp}{s2:Shared}{cl:List (Str×Addr)}{fp:List Addr}{it:Addr}{tn:Nat->Heap->Prop}{J:It}{E:Value->Shared->Prop}(I:Inv X pins σ H1 s2)(B:BlkM X N' scope map tg elt ifs g tt te)
 (hsub:∀ x c,cl.lookup x=some c->X.env.cells.lookup x=some c) (hhas:∀ x,(x,NameKind.free)∈scope.names->(cl.lookup x).isSome=true)
 {R:Cx->Prop} (hR:∀ cells C fp s H,R (Q0 X N' scope cells C fp s H)) (T:TurnG R X.prog X.w X.K tg J fp it tn) (st:tn 0 s2.heap) (hf:∀ b∈fp,HJ X pins H1 b) {Fin:List V->Hp->Prop} {W:Nat->Nat->List V->Hp->Prop} {m0:Nat} (w0:W 0 m0 [] H1) (ht:KI J g tt te (capt σ map) Fin W)
 {RR:Value->Addr->Result->Shared->Prop}
 (hOk:∀ D C acc H' s' m,Inv X pins σ (upd H' D (.lst acc)) s'->H' D=none->s'.heap.Ns C m->upd H' D (.lst acc) C=none->C≠X.env.locals->X.s₀.heap.objs.size<=C->(∀ x c,X.env.cells.lookup x=some c->c≠C)->(∀ p∈X.pn++pins,p.1≠C)->Fin acc H'->RR (.ref D) C (.ok .next) s')
 (hErr:∀ D C e s',Q0j X C e s'->RR (.ref D) C (.error e) s') :
 wpAny (model X.prog X.w) X.A (newList []) (fun acc s3=>wpAny (model X.prog X.w) X.A (newFunctionEnv scope X.env.globals cl [] X.env.qual none .none (some X.env)) (fun cenv s4 =>
  codeAny (model X.prog X.w) X.A (.compStart (.ListComp elt [⟨tg,iter,ifs,0⟩] scope pos) 0 (.ref it) acc { cenv with scope:=relabel scope X.env }) (RR acc cenv.locals) s4) E s3) E s2:=by
 have fo:∀ b∈fp,∃ o,s2.heap.get? b=some o:=fun b hb=>by obtain ⟨o,e,_⟩:=T.obj 0 _ st b hb;exact ⟨o,e⟩
 refine wpAny_newObj_type ?_
 generalize hH2:s2.heap.push { cls:=.type "list",dict:=none,data:=.seq ([]:List Value).toArray }=H2
 have szD:H2.objs.size=s2.heap.objs.size+1:=by rw [<- hH2,Heap.size_push]
 have kD:∀ b o,s2.heap.get? b=some o->H2.get? b=some o:=fun b o e=>hH2▸Heap.get?_push_of_some _ e
 simp only [newFunctionEnv,Option.isSome_some,if_true]
 refine wpAny_bind (wpAny_alloc ?_)
 refine wpAny_bind (wpAny_layCells _ (fun name kind cells=>by cases hkc:kind==NameKind.cell<;>simp [hkc]) _ _ _ _ ?_)
 dsimp only
 generalize hH3:H2.push { cls:=.type "dict",dict:=none,data:=.dict #[] }=h3
 have sz3:h3.objs.size=H2.objs.size+1:=by rw [<- hH3,Heap.size_push]
 have kC:∀ b o,H2.get? b=some o->h3.get? b=some o:=fun b o e=>hH3▸Heap.get?_push_of_some _ e
 have nsC:h3.Ns H2.objs.size fun _=>none:=hH3▸Heap.Ns.new H2 (.type "dict")
 refine wpAny_bind (wpAny_pure (wpAny_pure ?_))
 show codeAny _ _ (.compStart (.ListComp elt [⟨tg,iter,ifs,0⟩] scope pos) 0 (.ref it) (.ref s2.heap.objs.size) (compEnvC scope (cellsFrom h3.objs.size scope.names cl) H2.objs.size X.env)) _ _
 generalize hX':Q0 X N' scope (cellsFrom h3.objs.size scope.names cl) H2.objs.size fp s2 H1=X'
 have I4:Inv X' [] (capt σ map) H1 { s2 with heap:=pushCells h3 scope.names }:=hX'▸WG I B hsub hhas hf fo H2.objs.size h3 (by rw [szD];exact Nat.le_succ _) (fun b o e=>kC b o (kD b o e)) (by rw [sz3];exact Nat.lt_succ_self _) nsC s2.toks
 obtain ⟨pg,pif,pel⟩:=B.run (cellsFrom h3.objs.size scope.names cl) H2.objs.size fp s2 H1 ⟨pins,σ,I,hf,by rw [szD];exact Nat.le_succ _⟩
 rw [hX'] at pg pif pel
 have eprog:X'.prog=X.prog:=by rw [<- hX'];rfl
 have ew:X'.w=X.w:=by rw [<- hX'];rfl
 have eK:X'.K=X.K:=by rw [<- hX'];rfl
 have eA:X'.A=X.A:=by rw [<- hX'];rfl
 have ecalm:R X':=by rw [<- hX'];exact hR _ _ _ _ _
 have eenv:X'.env=compEnvC scope (cellsFrom h3.objs.size scope.names cl) H2.objs.size X.env:=by rw [<- hX'];rfl
 have exe:X'.xe=notedBy (model X.prog X.w) X.A (compEnvC scope (cellsFrom h3.objs.size scope.names cl) H2.objs.size X.env) (Q0j X H2.objs.size):=by rw [<- hX'];rfl
 have es0:X'.s₀=s2:=by rw [<- hX'];rfl
 have eH0:X'.H₀=H1:=by rw [<- hX'];rfl
 have eex:X'.ex=fp:=by rw [<- hX'];rfl
 have efs:X'.fs=frs X.stack:=by rw [<- hX'];rfl
 have epn:X'.pn=[]:=by rw [<- hX'];rfl
 have eL:X'.env.locals=H2.objs.size:=by rw [eenv];rfl
 generalize hDd:s2.heap.objs.size=D at *
 have fD:∀ b∈fp,b≠D:=fun b hb=>by obtain ⟨o,e⟩:=fo b hb;exact Nat.ne_of_lt (hDd▸Heap.lt_size e)
 have nfsD:D∉X'.fs:=fun hb=>by
  rw [efs] at hb
  have h1:=I.stkSub D hb
  rcases List.mem_cons.mp h1 with z|z
  · have:=I.lt;rw [hDd,<- z] at this;exact Nat.lt_irrefl _ this
  · exact I.nofs (by rw [hDd];exact Nat.le_refl _) z
 have ncD:∀ x c,X'.env.cells.lookup x=some c->c≠D:=fun x c e z=>by
  rw [eenv] at e
  rcases SL _ _ _ x c e with q|q
  · obtain ⟨v,o,ho,_⟩:=I.cell x c (hsub x c q)
    have:=Heap.lt_size ho
    rw [hDd,z] at this
    exact Nat.lt_irrefl _ this
  · rw [z,sz3,szD] at q
    exact absurd (Nat.lt_of_lt_of_le (Nat.lt_succ_of_lt (Nat.lt_succ_self D)) q) (Nat.lt_irrefl _)
 have f4:∀ {H':Hp} {pl:List (Addr×Obj)},(∀ b∈fp,H' b=none)->(∀ p∈pl,p.1=D)->∀ b∈fp,HJ X' pl H' b:=fun {H' pl} hn hpl b hb=>by
  have q:=hf b hb
  refine ⟨hn b hb,?_,?_,.inl (by rw [eex];exact hb),fun x c e=>?_,fun p hp=>?_⟩
  · rw [eL]
    obtain ⟨o,e⟩:=fo b hb
    have:=Heap.lt_size e
    rw [hDd] at this
    intro z
    rw [z,szD] at this
    exact absurd (Nat.lt_of_succ_lt this) (Nat.lt_irrefl _)
  · have:=I4.ok.exfs b (by rw [eex];exact hb)
    exact this
  · exact (I4.ok.exf b (by rw [eex];exact hb)).2 x c e
  · rw [epn] at hp
    have hp:p∈pl:=by simpa using hp
    rw [hpl p hp]
    exact (fD b hb).symm
 have noCell:∀ {its:Array Value} {n:Nat} (v:Option Value),({ cls:=.type "list",data:=.seq its n }:Obj).data≠.cell v:=fun v z=>by cases z
 have hD4:(pushCells h3 scope.names).get? D=some { cls:=.type "list",data:=.seq ([]:List Value).toArray 0 }:=pushCells_keeps _ _ _ _ (kC _ _ (by rw [<- hH2,<- hDd];exact Heap.get?_push_size _ rfl))
 have loop:codeAny (model X.prog X.w) X.A (.compLoop (.ListComp elt [⟨tg,iter,ifs,0⟩] scope pos) 0 (.ref it) (.ref D) (compEnvC scope (cellsFrom h3.objs.size scope.names cl) H2.objs.size X.env)) (RR (.ref D) H2.objs.size) { s2 with heap:=pushCells h3 scope.names }:=by
  refine QC (fun n s'=>∃ i acc H' its k,Inv X' [] (capt σ map) H' s'/\tn i s'.heap/\(∀ b∈fp,H' b=none)/\H' D=none/\s'.heap.get? D=some { cls:=.type "list",data:=.seq (List.toArray its) k }/\Vals acc its/\W i n acc H') ?_ m0
   ⟨0,[],H1,[],0,I4,T.keep _ _ _ st fun b hb o e=>pushCells_keeps _ _ _ _ (kC _ _ (kD _ _ e)),fun b hb=>(hf b hb).1,I.hok.fresh (by rw [hDd];exact Nat.le_refl _),hD4,.nil,w0⟩
  rintro n s5 ⟨i,acc,H5,its,k,I5,st5,fr5,hD5,oD5,rv5,w5⟩
  have pinD:Inv X' [(D,{ cls:=.type "list",data:=.seq (List.toArray its) k })] (capt σ map) H5 s5:=I5.pins_of fun p hp=>by
   have e:p=(D,{ cls:=.type "list",data:=.seq (List.toArray its) k }):=by simpa using hp
   subst e
   refine ⟨oD5,hD5,?_,nfsD,fun v=>noCell v⟩
   rw [eL,szD]
   exact Nat.ne_of_lt (Nat.lt_succ_self _)
  have plD:∀ p∈[(D,({ cls:=.type "list",data:=.seq (List.toArray its) k }:Obj))],p.1=D:=fun p hp=>by
   have e:p=(D,{ cls:=.type "list",data:=.seq (List.toArray its) k }):=by simpa using hp
   rw [e]
  have err:∀ e s',X'.xe e s'->notedBy (model X.prog X.w) X.A (compEnvC scope (cellsFrom h3.objs.size scope.names cl) H2.objs.size X.env) (fun e s'=>RR (.ref D) H2.objs.size (.error e) s') e s':=fun e s' he=>by
   rw [exe] at he
   exact wpAny_mono he (fun _ s'' q=>hErr D _ e s'' q) fun e'' s'' q=>hErr D _ e'' s'' q
  rcases ht i n acc H5 w5 with ⟨stop,hsz,fin⟩|⟨go,hsz,NN,hNN,step⟩
  · have dn:=T.done X' eprog ew eK ecalm i _ s5 (capt σ map) H5 (notedBy (model X.prog X.w) X.A (compEnvC scope (cellsFrom h3.objs.size scope.names cl) H2.objs.size X.env) fun e s'=>RR (.ref D) H2.objs.size (.error e) s') pinD (f4 fr5 plD) st5 stop
    rw [eA] at dn
    refine thn dn fun r s6 ⟨hr,I6⟩=>?_
    subst hr
    obtain ⟨oD6,hD6,_⟩:=I6.pin (D,_) (by rw [epn];exact List.mem_cons_self)
    obtain ⟨m,nsm,_⟩:=I6.loc
    rw [eL] at nsm
    have un:=I6.base
    rw [efs,eex,eH0,es0] at un
    have hok:=I6.hok
    rw [eprog,ew] at hok
    have os6:=I6.os
    rw [es0] at os6
    have fC:H5 H2.objs.size=none:=by rw [<- eL];exact I6.free
    have nDC:H2.objs.size≠D:=by rw [szD];exact Nat.ne_of_gt (Nat.lt_succ_self _)
    refine hOk D H2.objs.size acc H5 s6 m (I.call' (ch:=fp) os6 ?_ ?_ I6.bare fun b hb=>?_) hD5 nsm (by rw [V1 nDC];exact fC) ?_ ?_ ?_ ?_ fin
    · refine ⟨un.keep,un.slot,fun b o e n hx=>?_,un.there,fun b xs e=>?_,fun b o u e=>?_,fun b ps e=>?_⟩
      · rw [V1 (Nat.ne_of_lt (hDd▸Heap.lt_size e))]
        exact un.free b o e n hx
      · have:=un.tups b xs e
        rw [V1 (V3 this hD5)]
        exact this
      · have:=un.frzs b o u e
        rw [V1 (V3 this hD5)]
        exact this
      · obtain ⟨more,this⟩:=un.tbls b ps e
        exact ⟨more,by rw [V1 (V3 this hD5)];exact this⟩
    · intro b o e
      by_cases hb:b=D
      · subst hb
        rw [AA] at e
        cases e
        exact ⟨hsz,its,k,rv5,oD6⟩
      · rw [V1 hb] at e
        exact (hok b o e).stay (fun _ _ _ q=>q) (fun c q=>by rw [V1 (V3 q hD5)];exact q) fun c xs q=>by rw [V1 (V3 q hD5)];exact q
    · obtain ⟨f0,f1,f2,f3,f4',f5⟩:=hf b hb
      exact ⟨f3,f1,f4',f5⟩
    · have:=I.lt
      rw [hDd] at this
      intro z
      rw [<- z,szD] at this
      exact absurd (Nat.lt_of_succ_lt this) (Nat.lt_irrefl _)
    · have:=I.sz
      rw [hDd] at this
      omega
    · intro x c e z
      obtain ⟨v,o,ho,_⟩:=I.cell x c e
      have:=Heap.lt_size ho
      rw [hDd,z,szD] at this
      exact absurd (Nat.lt_of_succ_lt this) (Nat.lt_irrefl _)
    · intro p hp z
      have:=Heap.lt_size (I.pin p hp).1
      rw [hDd,z,szD] at this
      exact absurd (Nat.lt_of_succ_lt this) (Nat.lt_irrefl _)
  · have im:=T.item X' eprog ew eK ecalm i _ s5 (capt σ map) H5 (notedBy (model X.prog X.w) X.A (compEnvC scope (cellsFrom h3.objs.size scope.names cl) H2.objs.size X.env) fun e s'=>RR (.ref D) H2.objs.size (.error e) s') pinD (f4 fr5 plD) st5 go
    rw [eA] at im
    refine thn im fun r s6 ⟨u,hr,h6⟩=>?_
    subst hr
    refine thn h6 fun _ s7 ⟨x,H7,I7,r7,y7,st7,fr7⟩=>?_
    have I7':=I7.pinned (f4 fr7 plD) (T.obj _ _ st7)
    have stp:=B.keep _ _ _ _ (step x H7 y7)
    have pgx:=pg _ s7 (capt σ map) H7 x u _ I7' r7 stp
    rw [eprog,ew,eA,eenv] at pgx
    refine wpAny_mono pgx (fun _ s8 ⟨σ8,H8,I8,⟨kl,k8⟩,q8⟩=>?_) err
    have pix:=pif _ s8 σ8 H8 _ I8 q8
    rw [eprog,ew,eA,eenv] at pix
    refine wpAny_mono pix (fun b s9 ⟨H9,I9,q9⟩=>?_) err
    have wk:∀ {σa:St} {Ha:Hp} {sa:Shared},σa=σ8->Inv X' ([(D,({ cls:=.type "list",data:=.seq (List.toArray its) k }:Obj))]++FQ fp s7.heap) σa Ha sa ->
     Inv X' [] (capt σ map) Ha sa/\tn (i+1) sa.heap/\(∀ b∈fp,Ha b=none)/\Ha D=none/\sa.heap.get? D=some { cls:=.type "list",data:=.seq (List.toArray its) k }:=fun {σa Ha sa} ea Ia=>by
     subst ea
     refine ⟨(Ia.pins_of (pins':=[]) fun p hp=>absurd hp (by simp)).weak kl.symm fun j v e=>?_,T.keep _ _ _ st7 fun b hb o e=>(Ia.pin (b,o) (List.mem_append_right _ (List.mem_append_right _ (BK hb e)))).1,fun b hb=>?_,?_,?_⟩
     · have e':=e
       unfold capt at e'
       rw [List.getElem?_map] at e'
       cases hm:map[j]? with
       | none=>rw [hm] at e';cases e'
       | some o =>
         rw [hm] at e'
         cases o with
         | none=>simp at e'
         | some i'=>rw [k8 j i' hm];exact e
     · obtain ⟨o,e,d⟩:=T.obj _ _ st7 b hb
       exact (Ia.pin (b,o) (List.mem_append_right _ (List.mem_append_right _ (BK hb e)))).2.1
     · exact (Ia.pin (D,_) (List.mem_append_right _ (List.mem_append_left _ List.mem_cons_self))).2.1
     · exact (Ia.pin (D,_) (List.mem_append_right _ (List.mem_append_left _ List.mem_cons_self))).1
    cases b with
    | false =>
      rw [if_neg Bool.false_ne_true] at q9 ⊢
      obtain ⟨m',hm',w9⟩:=hNN _ _ q9
      obtain ⟨a1,a2,a3,a4,a5⟩:=wk rfl I9
      exact ⟨m',hm',i+1,acc,H9,its,k,a1,a2,a3,a4,a5,rv5,w9⟩
    | true =>
      rw [if_pos rfl] at q9 ⊢
      have pex:=pel _ s9 σ8 H9 _ I9 q9
      rw [eprog,ew,eA,eenv] at pex
      refine wpAny_mono pex (fun v s10 ⟨y,H10,I10,r10,q10⟩=>?_) err
      obtain ⟨m',hm',w10⟩:=hNN _ _ q10
      obtain ⟨a1,a2,a3,a4,a5⟩:=wk rfl I10
      have hl:=rv5.length
      refine wpAny_list_append_plain (items:=List.toArray its) ⟨k,a5⟩ (fun h11 pl11 sb11=>?_) (by simp only [List.size_toArray];omega)
      obtain ⟨k',e11⟩:=pl11
      refine ⟨m',hm',i+1,acc++[y],H10,its++[v],k',a1.turned (t':=s10.toks) (it:=D) (fun b o hb e=>(sb11.2 b hb).trans e) a4 ?_ (.inr (by rw [es0,hDd];exact Nat.le_refl _)) ncD (fun p hp=>absurd hp (by rw [epn];simp)),T.keep _ _ _ a2 fun b hb o e=>(sb11.2 b (fD b hb)).trans e,a3,a4,?_,rv5.append (.cons r10 .nil),w10⟩
      · rw [eL,szD]
        exact Nat.ne_of_lt (Nat.lt_succ_self _)
      · rw [e11,List.push_toArray]
 exact codeAny_compStart_list loop (T.self _ 0 _ _ _ (T.keep _ _ _ st fun b hb o e=>pushCells_keeps _ _ _ _ (kC _ _ (kD _ _ e))) loop)
theorem Blk.clos {pins:List (Addr×Obj)}{σ:St}{H:Hp}{s:Shared}(B:Blk X N' scope map tg elt ifs g tt te)(I:Inv X pins σ H s) :
 ∃ cl,closureFor scope X.env=pure cl/\(∀ x c,cl.lookup x=some c->X.env.cells.lookup x=some c)/\∀ x,(x,NameKind.free)∈scope.names->(cl.lookup x).isSome=true :=
 NG fun x hx=>I.ok.has x (by
  have q:=List.all_eq_true.mp B.free _ hx
  simpa using q)
def Q0u (wi:TI)(map:List (Option Nat))(g:TG)(tt:TT)(te:TE):TE:=fun σ H Q=>wi σ H fun J H1=>∃ W:Nat->Nat->List V->Hp->Prop,(∃ m,W 0 m [] H1) /\
 KI J g tt te (capt σ map) (fun acc H'=>∀ D,H' D=none->Q (.ref D) (upd H' D (.lst acc))) W
theorem VC (B:Blk X N' scope map tg elt ifs g tt te)(hi:PI X tg iter wi)(hs:∀ x,foldedSetIterable iter X.env x=pure x:=by intro _;rfl):PE X (.ListComp elt [⟨tg,iter,ifs,0⟩] scope pos) (Q0u wi map g tt te):=by
 intro pins s σ H Q I h
 obtain ⟨cl,hcl,hsub,hhas⟩:=B.clos I
 rw [eval_ListComp]
 refine wpAny_comprehension_free (use:=none) rfl hs hcl B.kind B.loc (thn (hi pins s σ H _ I h) fun v s1 h1=>thn h1 fun itv s2 h2=>?_)
 obtain ⟨it,fp,tn,J,H2,e,I2,T,st2,f2,W,⟨m0,w0⟩,turn⟩:=h2
 subst e
 refine WF (RR:=fun acc C=>compPost (model X.prog X.w) X.A X.xe none (EP X pins σ Q) acc C) I2 B.m hsub hhas (R:=fun X=>X.calm=true) (fun _ _ _ _ _=>B.calm) T.gen st2 f2 w0 turn (fun D C acc H' s' m I' hD nsm fC c1 c2 c3 c4 fin=>?_) fun D C e s' z=>z
 refine ⟨m,nsm,fun h' sb=>⟨.ref D,_,?_,rfl,fin D hD⟩⟩
 exact I'.turned (t':=s'.toks) (fun b o hb e=>(sb.2 b hb).trans e) fC c1 (.inr c2) c3 c4
def YS (i:Nat)(wi:TI)(map:List (Option Nat))(g:TG)(tt:TT)(te:TE):TS:=fun D σ H=>wi σ H fun J H1=>∃ W:Nat->Nat->List V->Hp->Prop,(∃ m,W 0 m [] H1) /\
 KI J g tt te (capt σ map) (fun acc H'=>∀ d,H' d=none->D.nx (σ.set i (some (.ref d))) (upd H' d (.lst acc))) W
theorem SY {i:Nat}{y:Str}{py spos:Pos}(hN:X.N.Nodup)(hiN:X.N[i]?=some y)(hy:Loc X.env.scope y)(B:Blk X N' scope map tg elt ifs g tt te)(hi:PI X tg iter wi)
 (hsw:swapsWith (.ListComp elt [⟨tg,iter,ifs,0⟩] scope pos) (some (.Name y py)) spos.line X.env=pure true:=by rfl) (hfn:X.fn y=true\/X.env.scope.names.lookup y=some .local:=by first|exact .inl rfl|exact .inr rfl)
 (hs:∀ x,foldedSetIterable iter X.env x=pure x:=by intro _;rfl):PS X (.Assign [.Name y py] (.ListComp elt [⟨tg,iter,ifs,0⟩] scope pos) spos) (YS i wi map g tt te):=by
 intro pins s σ H D I h
 obtain ⟨cl,hcl,hsub,hhas⟩:=B.clos I
 rw [exec_Assign_Name_used _ _ _ _ hsw]
 refine wpAny_bind (wpAny_standAt (wpAny_bind ?_))
 show wpAny _ _ (do let _ <- comprehension (.ListComp elt [⟨tg,iter,ifs,0⟩] scope pos) scope X.env _ (newList []) false (eval iter X.env) (some (assign (.Name y py) X.env))) _ _ _
 refine wpAny_bind (thn (wpAny_comprehension_free (use:=some (assign (.Name y py) X.env)) (Q:=fun _ s'=>SP X pins D .next s') rfl hs hcl B.kind B.loc (thn (hi pins s σ H _ I h) fun v s1 h1=>thn h1 fun itv s2 h2=>?_)) fun _ s' hq=>wpAny_pure (wpAny_pure hq))
 obtain ⟨it,fp,tn,J,H2,e,I2,T,st2,f2,W,⟨m0,w0⟩,turn⟩:=h2
 subst e
 refine WF (RR:=fun acc C=>compPost (model X.prog X.w) X.A X.xe (some (assign (.Name y py) X.env)) (fun _ s'=>SP X pins D .next s') acc C) I2 B.m hsub hhas (R:=fun X=>X.calm=true) (fun _ _ _ _ _=>B.calm) T.gen st2 f2 w0 turn (fun d C acc H' s' m I' hD nsm fC c1 c2 c3 c4 fin=>?_) fun D C e s' z=>z
 refine wpAny_assign_Name (NL I' hN hiN hy (v:=.ref d) rfl (fun s'' I'' ⟨a,sb,ha⟩=>?_) hfn)
 have hCa:C≠a:=by
  rcases ha with z|z
  · rw [z];exact c1
  · exact (c3 y a z).symm
 refine ⟨m,nsm.sameBut sb hCa,fun h' sb'=>⟨_,_,?_,fin d hD⟩⟩
 exact I''.turned (t':=s''.toks) (fun b o hb e=>(sb'.2 b hb).trans e) fC c1 (.inr c2) c3 c4
end
theorem gkeep_name {j:Nat}{map:List (Option Nat)}(h:map[j]?=some none):GU (RT j) map:=fun v σ H Q q=>by
 refine ⟨⟨by simp,fun j' i hm=>?_⟩,q⟩
 have:j≠j':=fun z=>by rw [z,hm] at h;cases h
 rw [List.getElem?_set_ne this]
def Bd (n:Nat)(i:Int):Prop:=i.natAbs<2 ^ n
theorem Bd.mono {m n:Nat}{i:Int}(h:Bd m i)(k:m<=n):Bd n i:=Nat.lt_of_lt_of_le h (Nat.pow_le_pow_right (by decide) k)
theorem Bd.mul {m n:Nat}{i j:Int}(h:Bd m i)(k:Bd n j):Bd (m+n) (i*j):=by
 unfold Bd at *
 rw [Int.natAbs_mul,Nat.pow_add]
 exact Nat.mul_lt_mul'' h k
theorem Bd.add {m n:Nat}{i j:Int}(h:Bd m i)(k:Bd n j):Bd (max m n+1) (i+j):=by
 have h':Bd (max m n) i:=h.mono (Nat.le_max_left _ _)
 have k':Bd (max m n) j:=k.mono (Nat.le_max_right _ _)
 unfold Bd at *
 rw [Nat.pow_succ]
 have:=Int.natAbs_add_le i j
 omega
theorem Bd.of {n:Nat}{i:Int}(h1 : -(2 ^ n:Nat)<i)(h2:i<(2 ^ n:Nat)):Bd n i:=by
 unfold Bd
 omega
theorem QO {n:Nat}{i:Int}(h:Bd n i):Builtin.Int.intBits i<=n:=by
 unfold Builtin.Int.intBits
 split
 · exact Nat.zero_le _
 · rename_i hz
   have h0:i.natAbs≠0:=fun z=>hz (by have:i=0:=Int.natAbs_eq_zero.mp z;simp [this])
   exact (Nat.log2_lt h0).mpr h
def CMulB (i j:Int):Prop:=(∃ m n,Bd m i/\Bd n j/\m+n<=100000000)\/Bd 64 j
def Q2n (i j:Int):Prop:=0<j/\∃ n,Bd n j/\n<=9000
section
variable {X:Cx}
theorem EO:OpR X (binaryOp .Mult) (rI CMulB fun i j=>.int (i*j)):=opI fun i j _ _ _ _ _ hc q=>mul_int q (by
 rcases hc with ⟨m,n,h1,h2,h3⟩|h1
 case inr=>exact .of_right (QO h1)
 have e1:=QO h1
 have e2:=QO h2
 unfold IntMulOk
 have e3:Builtin.Int.intTooBig (Builtin.Int.intBits i+Builtin.Int.intBits j)=false:=by
  unfold Builtin.Int.intTooBig
  refine decide_eq_false ?_
  have:bitsLine=134217728:=by unfold bitsLine;decide
  rw [this]
  omega
 rw [e3]
 simp)
theorem MA:OpR X (binaryOp .FloorDiv) (rI Q2n fun i j=>.int (i / j)):=opI fun i j _ _ _ _ _ hc q=>by
 obtain ⟨h1,n,h2,h3⟩:=hc
 refine floordiv_int (by omega) (by rw [Int.fdiv_eq_ediv_of_nonneg i (by omega)];exact q) (.inl (PyProof.noPylong_of_log2 ?_))
 have h0:j.natAbs≠0:=by omega
 exact (Nat.log2_lt h0).mpr (h2.mono h3)
end
theorem Same.upd {H:Hp}{p:Addr}{o:HO}(h:H p=none):Same H (upd H p o):=fun b u e=>by rw [V1 (V3 e h)];exact e
def Keep (p:Addr)(H H':Hp):Prop:=∀ b o,b≠p->H b=some o->H' b=some o
theorem Keep.trans {p:Addr}{H H1 H2:Hp}(a:Keep p H H1)(b:Keep p H1 H2):Keep p H H2:=fun c o n e=>b c o n (a c o n e)
theorem Keep.upd {p:Addr}{H:Hp}{o:HO}:Keep p H (upd H p o):=fun b u n e=>by rw [V1 n];exact e
theorem Same.keep {p:Addr}{H H':Hp}(h:Same H H'):Keep p H H':=fun b o _ e=>h b o e
structure Callee (P:Program)(w:World)(K:Fg)(mg:Str->Option Value)(base:Heap)(CX:CXT)(x:Str)(k:Nat)(ps:List Str)(sp:Sp):Prop where
 ex:∃ f fd,FnOk P w K mg base CX k f fd ps sp/\mg x=some (.ref f)/\PySem.W.keepIn K (.ref f)=true/\Binds K fd ps []
section
variable {X:Cx}{k:Nat}{ps:List Str}{sp:Sp}{x:Str}{p pos:Pos}{e:Expr}{es:List Expr}{t:TA}
theorem LX (G:Callee X.prog X.w X.K X.mg X.base CX0 x k ps sp)(hr:Room k X.A)(hg:Gl X x)(ha:PA X (e::es) t)(hdb:(x==("__debug__" : Str))=false:=by decide) (he:starEach (e::es) X.env=(false,eval e X.env)::starEach es X.env:=by rfl) (hpl:(backTo pos (starEach es X.env)).any (·.1)=false:=by rfl) :
 PE X (.Call (.Name x p) (e::es) [] pos) (UU sp [] E0 t):=by
 obtain ⟨f,fd,F,hm,hk,hb⟩:=G.ex
 exact VE F hr hg hm hk hb .nil Q1b ha hdb he hpl
theorem SO:AV X (.builtin "isinstance") (fun xs H Q=>∃ y c t b,xs=[y,.ty c]/\TyOf X.K H y t/\PySem.W.kitOne X.K t (.type c)=some b/\Q (.bl b) H):=by
 intro pins s σ H xs us Q I r h
 obtain ⟨y,c,t,b,rfl,ty,e,q⟩:=h
 obtain ⟨u,w',rfl,r1,r2⟩:=LL r
 cases (show w'=Value.type c from r2)
 exact XL I r1 ty e fun tk=>⟨.bl b,H,I.tok _,rfl,q⟩
end
theorem Callee.mk' {w:World} {CX:CXT}{x qual:Str}{st:Stmt}{f:Addr} {k:Nat}{ps:List Str}{sp:Sp}(F:Fun K x qual st f fd)(G:FnOk P w K mg base CX k f fd ps sp)(hm:mg x=some (.ref f))(hb:Binds K fd ps []) :
 Callee P w K mg base CX x k ps sp:=⟨f,fd,G,hm,F.kp,hb⟩
theorem Q1m {c:Bool}{A B:Prop}(h1:c=true->A)(h2:c=false->B):if c=true then A else B:=by
 cases c with
 | true=>exact Q3b (h1 rfl)
 | false=>exact Q3c (h2 rfl)
theorem UK:bootBuiltins "abs" = some (.builtin "abs"):=by decide +kernel
theorem Z5:bootBuiltins "len" = some (.builtin "len"):=by decide +kernel
theorem Q5:bootBuiltins "isinstance" = some (.builtin "isinstance"):=by decide +kernel
theorem QM:bootBuiltins "max" = some (.builtin "max"):=by decide +kernel
theorem QL:bootBuiltins "min" = some (.builtin "min"):=by decide +kernel
theorem CU:bootBuiltins "all" = some (.builtin "all"):=by decide +kernel
theorem NY:bootBuiltins "sorted" = some (.builtin "sorted"):=by decide +kernel
theorem UJ:bootBuiltins "int" = some (.type "int"):=by decide +kernel
theorem QN:bootBuiltins "bool" = some (.type "bool"):=by decide +kernel
theorem AO:bootBuiltins "tuple" = some (.type "tuple"):=by decide +kernel
theorem FS:bootBuiltins "list" = some (.type "list"):=by decide +kernel
theorem Same.get {H H':Hp}{a:Addr}{o:HO}(S:Same H H')(h:H a=some o):H' a=some o:=S a o h
theorem Keep.get {p:Addr}{H H':Hp}{a:Addr}{o:HO}(S:Keep p H H')(n:a≠p)(h:H a=some o):H' a=some o:=S a o n h
theorem rd_mul {i j:Int}{m n:Nat}{Q:Prop}(h1:Bd m i)(h2:Bd n j)(h3:m+n<=100000000)(q:Q):CMulB i j/\Q:=⟨.inl ⟨m,n,h1,h2,h3⟩,q⟩
theorem Bd.num (i:Int)(h:i.natAbs<18446744073709551616):Bd 64 i:=h
theorem BS:1000<=sizeLine:=by decide
theorem J6b {p:Prop}[Decidable p](h:decide p=true):p:=of_decide_eq_true h
def Bag (H:Hp)(p:Addr):Prop:=∃ f m:Int,H p=some (.lst [.int f,.int m])/\0<=f/\0<=m/\m<2147483647
theorem Bag.ne {H:Hp}{p a:Addr}{xs:List V}(b:Bag H p)(h:H a=some (.tup xs)):a≠p:=by
 obtain ⟨f,m,e,_⟩:=b
 exact ZX h e (by intro z;cases z)
theorem CMulB.right {i j:Int}(h:Bd 64 j):CMulB i j:=.inr h
theorem Keep.tup {p:Addr}{H H':Hp}{a:Addr}{xs:List V}(S:Keep p H H')(b:Bag H p)(h:H a=some (.tup xs)):H' a=some (.tup xs):=S a _ (b.ne h) h
theorem J2f {xs:List V}{i:Int}(h0:0<=i)(h1:i<xs.length):∃ v,atI xs i=some v/\v∈xs:=by
 obtain ⟨j,rfl⟩:∃ j:Nat,i=j:=⟨i.toNat,by omega⟩
 have hj:j<xs.length:=by omega
 exact ⟨xs[j],CC (List.getElem?_eq_getElem hj),List.getElem_mem hj⟩
theorem V9 (l:List Str)(h:l.Nodup):l.Nodup:=h
section
variable {X:Cx}{l:Expr}
theorem PN (K:Fg)(h:X.K=K):IxR X (J3f K):=by subst h;exact J8l
theorem DL (K:Fg)(h:X.K=K):IxR X (J3g K):=by subst h;exact J3y
theorem BO {es:List Expr}{k:Nat}{t:TGs}{n:Nat}{pos:Pos}(K:Fg)(h:X.K=K)(hc:X.calm=true)(hs:PGs X es t)(hn:(assignEach es X.env).length=n:=by rfl)(hst:(assignEach es X.env).findIdx? (·.1)=none:=by rfl):PG X (.Tuple es k pos) (J4e K n t):=by subst h;exact J7x hc hs hn hst
theorem J8 (K:Fg)(h:X.K=K):AV X (.builtin "len") (fun xs H Q=>∃ p ys,xs=[.ref p]/\(SqL K H p ys\/SqT K H p ys)/\Q (.int ys.length) H):=by subst h;exact QJ
theorem CT (K:Fg)(h:X.K=K):AV X (.type "tuple") (fun xs H Q=>∃ p ys,xs=[.ref p]/\((SqL K H p ys/\∀ l,H l=none->Q (.ref l) (upd H l (.tup ys)))\/(SqT K H p ys/\Q (.ref p) H))):=by subst h;exact NH
theorem NI (K:Fg)(h:X.K=K):AV X (.type "list") (fun xs H Q=>∃ p ys,xs=[.ref p]/\(SqL K H p ys\/SqT K H p ys)/\∀ l,H l=none->Q (.ref l) (upd H l (.lst ys))):=by subst h;exact QI
theorem WV {a:Expr}{ta:TE}(K:Fg)(h:X.K=K)(ha:PE X a ta)(he:∀ whole,isTrue a X.env whole=(do let v <- whole;standAt a.pos;holding [v] (truthy v))):PT X a (fun σ H Q=>ta σ H fun x H'=>∃ k,Q0c K x H' k/\Q k H'):=by subst h;exact ZD ha he
end
theorem HU:∀ {ns:List Int} {us:List Value},Vals (ns.map V.int) us->∃ xs:List (Int×Tok),us=xs.map (fun p=>Value.int p.1 p.2)/\xs.map (·.1)=ns
 | [],us,r=>by
   cases r
   exact ⟨[],rfl,rfl⟩
 | n::ns,us,r=>by
   cases r with
   | cons r1 r2 =>
     obtain ⟨t,rfl⟩:=r1
     obtain ⟨xs,e1,e2⟩:=HU r2
     exact ⟨(n,t)::xs,by rw [e1];rfl,by rw [<- e2];rfl⟩
theorem FC (xs:List (Int×Tok)):intItems xs.toArray=(xs.map fun p=>Value.int p.1 p.2).toArray:=by simp [intItems]
theorem DD (xs:List (Int×Tok))(i:Nat):numAt xs.toArray i=((xs.map (·.1))[i]?).getD 0:=by simp [numAt]
section
variable {X:Cx}
theorem NZ:∀ {bs:List Bool} {us:List Value},Vals (bs.map V.bl) us->us=bs.map Value.bool
 | [],us,r=>by
   cases r
   rfl
 | b::bs,us,r=>by
   cases r with
   | cons r1 r2 =>
     cases r1
     rw [NZ r2]
     rfl
theorem RA (bs:List Bool):(List.range bs.length).map (fun i=>bs[i]?.getD false)=bs:=by
 apply List.ext_getElem
 · simp
 · intro i h1 h2
   simp at h1
   simp [h1]
theorem AI (K:Fg)(hK:X.K=K)(hc:X.calm=true):AV X (.builtin "all") (fun xs H Q=>∃ (p:Addr) (bs:List Bool),xs=[.ref p]/\SqL K H p (bs.map V.bl)/\Q (.bl (bs.all id)) H):=by
 subst hK
 intro pins s σ H xs us Q I r h
 obtain ⟨p,bs,rfl,hq,q⟩:=h
 obtain ⟨u,rfl,rx⟩:=ET r
 cases rx
 obtain ⟨its,rv,pl,hz⟩:=I.list hq
 have e1:=NZ rv
 subst e1
 have hl:=pl.isList
 have hlt:p<s.heap.objs.size:=by obtain ⟨_,e,_⟩:=hl;exact Heap.lt_size e
 refine call_all_walk (wpAny_pyIter_list hl ?_)
 refine ⟨_,_,_,_,_,_,(fun i=>bs[i]?.getD false),rfl,Walks.list (A:=X.A.in1) (I.ok.hd hc) _ p (Nat.ne_of_lt hlt) (bs.map Value.bool).toArray,⟨⟨_,Heap.get?_push_size _ rfl,rfl,rfl⟩,hl.push _⟩,?_,fun h' tk hk=>?_⟩
 · intro i v s' Q' E' hv hq'
   have e:bs[i]?.map Value.bool=some v:=by simpa using hv
   cases hb:bs[i]? with
   | none=>rw [hb] at e;cases e
   | some b =>
     rw [hb] at e
     cases e
     have hq'':Q' (bs[i]?.getD false) s':=hq'
     rw [hb] at hq''
     exact wpAny_truthy_bool hq''
 · have ea:(List.range (bs.map Value.bool).toArray.size).all (fun i=>bs[i]?.getD false)=bs.all id:=by
    have:=congrArg (fun l:List Bool=>l.all id) (RA bs)
    simpa [List.all_map] using this
   rw [ea]
   refine ⟨.bl (bs.all id),H,I.kept fun b o e=>hk b o (fun hm=>?_) (Heap.get?_push_of_some _ e),rfl,q⟩
   have:b=s.heap.objs.size:=by simpa using hm
   exact absurd (this▸Heap.lt_size e) (Nat.lt_irrefl _)
end
section
def ItAt (b:Bool)(h:Heap)(u l:Addr)(j:Nat):Prop:=match b with|false=>h.IsListIter u l j|true=>h.IsTupleIter u l j
def SeqAt (b:Bool)(h:Heap)(l:Addr)(xs:Array Value):Prop:=match b with|false=>h.IsList l xs|true=>h.IsTuple l xs
theorem ItAt.at {b:Bool}{h h':Heap}{u l:Addr}{j:Nat}(x:ItAt b h u l j)(k:∀ o,h.get? u=some o->h'.get? u=some o):ItAt b h' u l j:=by
 cases b with
 | false=>exact Heap.IsListIter.at x k
 | true=>exact Heap.IsTupleIter.at x k
theorem SeqAt.at {b:Bool}{h h':Heap}{l:Addr}{xs:Array Value}(x:SeqAt b h l xs)(k:∀ o,h.get? l=some o->h'.get? l=some o):SeqAt b h' l xs:=by
 cases b with
 | false=>obtain ⟨o,e,r⟩:=x;exact ⟨o,k o e,r⟩
 | true=>obtain ⟨o,e,r⟩:=x;exact ⟨o,k o e,r⟩
end
section
variable {X:Cx}
theorem ZO {x:Str}{n:Int}{pos:Pos}(hg:Gl X x)(hm:∃ t,X.mg x=some (.int n t))(hd:(x==("__debug__" : Str))=false:=by decide):PE X (.Name x pos) (tC (.int n)):=by
 obtain ⟨t,e⟩:=hm
 exact J3o hg e ⟨t,rfl⟩ hd
theorem VF:∀ cs:List (Int×Nat×Pos),PA X (cs.map fun c=>.Constant (.int c.1) c.2.1 c.2.2) (fun σ H Q=>Q (cs.map fun c=>V.int c.1) H)
 | []=>ES
 | c::cs=>by
   intro pos pins s σ H Q I h
   exact CA (e:=.Constant (.int c.1) c.2.1 c.2.2) Z7 (VF cs) (by rfl) pos pins s σ H Q I h
theorem TH {es:List Expr}{x1}{pos:Pos}(cs:List (Int×Nat×Pos))(h:es=cs.map fun c=>.Constant (.int c.1) c.2.1 c.2.2):PE X (.Tuple es x1 pos) (Q0o fun σ H Q=>Q (cs.map fun c=>V.int c.1) H):=by
 subst h
 exact TJ (VF cs)
theorem ZF {sts0:List Stmt}{t:TS}(h:PSs X sts0 t):∀ {sts:List Stmt},PSs X sts (fun D σ H=>sts=sts0/\t D σ H):=by
 intro sts pins s σ H D I q
 obtain ⟨e,q⟩:=q
 subst e
 exact h pins s σ H D I q
end
theorem WR {X:Cx}(K:Fg)(h:X.K=K):SlR X (ZB K):=by subst h;exact J3c
section
variable {X:Cx}{x:Str}{C:Addr}{bm bmN:List Value}{newId Bn inN B nid initId:String}{e0:Expr}{rest:List Expr}{t:TA}{np cpos pos:Pos}
theorem ZH (O:OwnCls x C bm newId X.mg X.base)(Fn:ExcBaseFacts Bn newId inN bmN)(hBn:bm.contains (.type Bn)=true)(FB:ExcBaseFacts B nid initId bm)(hc:X.calm=true)(hg:Gl X x)(E:XK)
 (hx:∀ (pins:List (Addr×Obj)) (σ:St) (H:Hp) (s:Shared) (h':Heap) (e:Addr) (us:List Value),Inv X pins σ H s->Heap.MadeExcOf s.heap h' e (.ref C) us->E (.ref C) none H->X.xe (.ref e) { s with heap:=h' })
 (ha:PA X (e0::rest) t) (hz:∀ σ H Q,t σ H Q->t σ H fun vs H1=>vs.length<=sizeLine/\Q vs H1)
 (he:starEach (e0::rest) X.env=(false,eval e0 X.env)::starEach rest X.env:=by rfl) (hpl:(backTo cpos (starEach rest X.env)).any (·.1)=false:=by rfl) (hd:(x==("__debug__" : Str))=false:=by decide) :
 PS X (.Raise (some (.Call (.Name x np) (e0::rest) [] cpos)) none pos) (fun _ σ H=>t σ H fun _ H1=>E (.ref C) none H1):=by
 intro pins s σ H D I q
 obtain ⟨tl,N,nm,qn,bs,hdct,sn,sub,ab,col,dd,k0,k1,k2,k3,k5,mN,hC,hN,hni,T⟩:=O.obj
 refine wpAny_Raise_call_subU (C:=C) (nm:=nm) (q:=qn) (N:=N) (bs:=bs) (bm:=tl) (hdct:=hdct) (sn:=sn) (sub:=sub) (ab:=ab) (col:=col) (dd:=dd) (k0:=k0) (k1:=k1) (k2:=k2) (k3:=k3) (k5:=k5)
  Fn hBn FB (mN:=mN) (T.hasType FB.hasBase) (I.ok.hd hc) (by rw [he];show (false||(backTo cpos (starEach rest X.env)).any (·.1))=false;rw [hpl];rfl) hni (LD I hg O.bound ⟨rfl,?_⟩ hd)
 have h1:=ha cpos pins s σ H _ I (hz _ _ _ q)
 rw [he] at h1 ⊢
 refine Calls.evalArgs_plain (wpAny_mono h1 (fun us s2 ⟨vs,H1,I1,r,z,w⟩=>⟨rfl,by rw [<- r.length];exact z,I1.bk _ _ hC,hN.keeps I1.bk,T.keeps I1.bk,fun h' e hm=>hx pins σ H1 s2 h' e us I1 hm w⟩) fun _ _ y=>y)
end
section
variable {M:Model}{A:Around}{E:Value->Shared->Prop}{s:Shared}
structure Gone (fs:List Addr)(x:Addr)(ox:Obj)(old:List Addr)(h h':Heap)(T:Addr):Prop where
 keep:∀ b o,b∉fs->b≠x->b∉old->h.get? b=some o->h'.get? b=some o
 slot:∀ b o,b∈fs->h.get? b=some o->∃ sl,h'.get? b=some { o with slots:=sl }
 new:h.objs.size<=T
 exc:h'.get? x=some (ox.mapFields (·.setIfInBounds 1 (.ref T)))
 tr:∃ oT ts,h'.get? T=some oT/\oT.data=.fields ts/\ts[3]?=some .none
theorem MM {env:Env}{outer:List Env}{L x:Addr}{ox:Obj}{vs:Array Value}{hd:Value}{nx:Bool}{Q:Unit->Shared->Prop}(f1:A.frames=some (env::outer))(f2:s.heap.FunFrames base (env::outer))(f3:env.frame=some L)
 (x1:s.heap.get? x=some ox) (x2:ox.data=.fields vs) (x3:1<vs.size) (q:∀ h' T,Gone ((env::outer).filterMap (·.frame)) x ox [] s.heap h' T->Q () { s with heap:=h' }) :
 wpAny M A (do let a <- frameOf env;let pl <- entryPlaceOf L nx;let b <- EntryCells.newEntry hd a .none (rawInt L) .none pl;setField (.ref x) 1 b) (fun _ s'=>wpAny M A (setFlight (.ref x) none) Q E s') E s:=by
 have xf:x∉(env::outer).filterMap (·.frame):=fun hm=>by
  obtain ⟨_,o,e1,e2⟩:=f2.mem hm
  rw [x1] at e1
  cases e1
  exact e2 vs x2
 refine wpAny_bind (wpAny_frameOf_fun f1 f2 f3 fun g1 m1=>wpAny_bind (wpAny_entryPlaceOf fun pl hpl=>?_))
 unfold EntryCells.newEntry newFields
 refine wpAny_bind (wpAny_newObj_type ?_ (hpl.sizeOk5 _ _ _ _ _))
 generalize hob:({ cls:=.type "traceback",dict:=none,data:=.fields ([hd,.ref L,.none,rawInt L,.none]++(if pl.isEmpty then List.replicate 6 Value.none else pl)).toArray }:Obj)=ob
 have dob:ob.data=.fields ([hd,.ref L,.none,rawInt L,.none]++(if pl.isEmpty then List.replicate 6 Value.none else pl)).toArray:=by rw [<- hob]
 have lob:ob.isFreed=false:=Obj.isFreed_of_fields dob
 have xg1:g1.get? x=some ox:=(m1.2.1 x xf).trans x1
 have xg2:=Heap.get?_push_of_some (h:=g1) ob xg1
 refine wpAny_setField xg2 x2 x3 ?_
 have nTx:g1.objs.size≠x:=Nat.ne_of_gt (Heap.lt_size xg1)
 have dx:=Obj.data_mapFields x2 (·.setIfInBounds 1 (Value.ref g1.objs.size))
 have xg3:=Heap.get?_update_self (Obj.mapFields (·.setIfInBounds 1 (Value.ref g1.objs.size))) xg2 (Obj.isFreed_of_fields dx)
 have tg3:=(Heap.get?_update_other (g1.push ob) (Obj.mapFields (·.setIfInBounds 1 (Value.ref g1.objs.size))) (Ne.symm nTx)).trans (Heap.get?_push_size g1 lob)
 unfold setFlight
 refine wpAny_bind (wpAny_field xg3 dx (x:=.ref g1.objs.size) (by simp [x3]) ?_)
 rw [if_pos (show (Value.ref g1.objs.size != Value.none)=true from by simp)]
 refine wpAny_setField tg3 dob (by simp only [List.size_toArray,List.length_append,List.length_cons,List.length_nil]<;>omega) (q _ g1.objs.size ⟨?_,?_,?_,?_,?_⟩)
 · intro b o nf nx' _ e
   have e1:g1.get? b=some o:=(m1.2.1 b nf).trans e
   rw [Heap.get?_update_other _ _ (Nat.ne_of_gt (Heap.lt_size e1)),Heap.get?_update_other _ _ (Ne.symm nx')]
   exact Heap.get?_push_of_some _ e1
 · intro b o hb e
   obtain ⟨sl,e1⟩:=m1.2.2 b o e
   refine ⟨sl,?_⟩
   have nbx:b≠x:=fun z=>xf (z▸hb)
   rw [Heap.get?_update_other _ _ (Nat.ne_of_gt (Heap.lt_size e1)),Heap.get?_update_other _ _ (Ne.symm nbx)]
   exact Heap.get?_push_of_some _ e1
 · rw [m1.1]
   exact Nat.le_refl _
 · rw [Heap.get?_update_other _ _ nTx]
   exact xg3
 · refine ⟨_,_,Heap.get?_update_self _ tg3 (Obj.isFreed_of_fields (Obj.data_mapFields dob _)),Obj.data_mapFields dob _,?_⟩
   first|(simp;done)|(rcases hpl with rfl|⟨_,_,_,_,_,_,_,rfl⟩<;>simp)
theorem RN {env:Env}{outer:List Env}{L x:Addr}{ox:Obj}{vs:Array Value}{Q:Unit->Shared->Prop}(f1:A.frames=some (env::outer))(f2:s.heap.FunFrames base (env::outer))(f3:env.frame=some L)
 (x1:s.heap.get? x=some ox) (x2:ox.data=.fields vs) (x3:vs[1]?=some .none) (q:∀ h' T,Gone ((env::outer).filterMap (·.frame)) x ox [] s.heap h' T->Q () { s with heap:=h' }):wpAny M A (leaving env (.ref x)) Q E s:=by
 unfold leaving noteFrame;simp only [f3]
 refine wpAny_bind (wpAny_bind (wpAny_field x1 x2 x3 ?_));rw [if_neg (by decide)]
 exact MM f1 f2 f3 x1 x2 (Array.getElem?_eq_some_iff.mp x3).1 q
end
theorem ObjOk.ex {w:World}{H:Hp}{h:Heap}{a:Addr}{o:HO}(x:ObjOk P w H h a o):∃ ob,h.get? a=some ob:=by
 cases o with
 | lst xs=>obtain ⟨_,_,_,_,e⟩:=x;exact ⟨_,e⟩
 | tup xs=>obtain ⟨_,_,_,ob,e,_⟩:=x;exact ⟨_,e⟩
 | dK kvs=>obtain ⟨_,_,_,_,o,_,_,e,_⟩:=x;exact ⟨_,e⟩
 | dT kvs=>obtain ⟨_,_,_,_,o,_,_,e,_⟩:=x;exact ⟨_,e⟩
 | set S n=>obtain ⟨o,_,_,_,e,_⟩:=x;exact ⟨_,e⟩
 | ins C dx fs=>obtain ⟨_,_,_,e,_⟩:=x;exact ⟨_,e⟩
 | own y=>exact x
 | xd fs=>obtain ⟨_,⟨_,_,_,e,_⟩,_⟩:=x;exact ⟨_,e⟩
 | rng lo hi=>obtain ⟨_,_,_,e⟩:=x;exact ⟨_,e⟩
 | frz ob u=>obtain ⟨e,_⟩:=x;exact ⟨_,e⟩
 | tbl ps=>exact ⟨_,(show h.get? a=some _ from x)⟩
 | cod q=>obtain ⟨_,e,_⟩:=x;exact ⟨_,e⟩
 | met f y=>exact ⟨_,(show h.get? a=some _ from x)⟩
 | ext φ=>obtain ⟨_,e,_⟩:=x;exact e
theorem XU (o:Obj)(f:Array Value->Array Value):(o.mapFields f).dict=o.dict:=by unfold Obj.mapFields;split<;>rfl
def Exd (H:Hp)(base g h:Heap)(x C:Addr):Prop:=H x=none/\base.get? x=none/\g.get? x=none/\∃ ox vs T oT ts,h.get? x=some ox/\ox.cls=.ref C/\ox.dict=none/\ox.data=.fields vs/\vs[1]?=some (.ref T)/\vs[2]?=some .none /\
 T≠x/\H T=none/\base.get? T=none/\g.get? T=none/\h.get? T=some oT/\oT.data=.fields ts/\ts[3]?=some .none
def CX1 (P:Program)(w:World)(base:Heap):CXT:=fun outer H s E e s'=>∃ (x C:Addr) (H':Hp),e=.ref x/\s'.os=s.os/\AllBare s'.gens/\Un (frs outer) [] H H' s.heap s'.heap/\HOk P w H' s'.heap/\Exd H' base s.heap s'.heap x C/\E (.ref C) none H'
theorem YJ {P:Program}{w:World}{K:Fg}{mg:Str->Option Value}{base:Heap}{N:List Str}{qual:Str}{scope:Scope}{f:Addr}{cd:Value}{A:Around}{outer:List Env}{s:Shared}{H:Hp}{E:XK}{C:Addr}
 (pins:List (Addr×Obj)) (σ:St) (H1:Hp) (s1:Shared) (h':Heap) (e:Addr) (us:List Value) (I:Inv (CI (CX1 P w base) P w K mg base N qual scope f cd A outer s H E) pins σ H1 s1) (hm:Heap.MadeExcOf s1.heap h' e (.ref C) us) (q:E (.ref C) none H1) :
 (CI (CX1 P w base) P w K mg base N qual scope f cd A outer s H E).xe (.ref e) { s1 with heap:=h' }:=by
 obtain ⟨t,e1,e2,e3⟩:=hm.there
 have nH:∀ b,s1.heap.get? b=none->H1 b=none:=fun b hb=>by
  cases z:H1 b with
  | none=>rfl
  | some o =>
    obtain ⟨ob,eo⟩:∃ ob,s1.heap.get? b=some ob:=(I.hok b o z).ex
    rw [hb] at eo
    cases eo
 have hst:s1.heap.FunFrames base (envOfC qual scope s.heap.objs.size f cd::outer):=I.stack
 have hfree:∀ b∈frs (envOfC qual scope s.heap.objs.size f cd::outer),H1 b=none:=I.stkFree
 show wpAny (model P w) (A.deeper (envOfC qual scope s.heap.objs.size f cd)) (leaving (envOfC qual scope s.heap.objs.size f cd) (.ref e)) _ _ { s1 with heap:=h' }
 refine RN (s:={ s1 with heap:=h' }) (base:=base) I.ok.frames (hst.of_keeps fun b o eb _=>⟨o,hm.keeps b o eb,rfl⟩) rfl e1 rfl rfl fun h2 T g=>?_
 have lt1:∀ b o,s1.heap.get? b=some o->b<h'.objs.size:=fun b o eb=>Heap.lt_size (hm.keeps b o eb)
 have neE:∀ b o,s1.heap.get? b=some o->b≠e:=fun b o eb z=>by rw [z,hm.new] at eb;cases eb
 have kp:∀ b o,b∉frs (envOfC qual scope s.heap.objs.size f cd::outer)->s1.heap.get? b=some o->h2.get? b=some o:=fun b o nf eb=>g.keep b o nf (neE b o eb) (by simp) (hm.keeps b o eb)
 have sl:∀ b o,b∈frs (envOfC qual scope s.heap.objs.size f cd::outer)->s1.heap.get? b=some o->∃ z,h2.get? b=some { o with slots:=z }:=fun b o hb eb=>g.slot b o hb (hm.keeps b o eb)
 have nTo:∀ b o,s1.heap.get? b=some o->b≠T:=fun b o eb z=>by
  have h1:=lt1 b o eb
  rw [z] at h1
  exact absurd (Nat.lt_of_lt_of_le h1 g.new) (Nat.lt_irrefl _)
 have baseK:∀ b o,base.get? b=some o->s1.heap.get? b=some o:=I.bk
 have nf:∀ b o,s.heap.get? b=some o->b∉frs outer->b∉frs (envOfC qual scope s.heap.objs.size f cd::outer):=fun b o eb nb hb=>by
  rcases List.mem_cons.mp (show b∈s.heap.objs.size::frs outer from hb) with z|z
  · exact absurd (Heap.lt_size eb) (by rw [z];exact Nat.lt_irrefl _)
  · exact nb z
 have tH:H1 T=none:=by
  cases z:H1 T with
  | none=>rfl
  | some o =>
    obtain ⟨ob,eo⟩:=(I.hok T o z).ex
    exact absurd rfl (nTo T ob eo)
 have U:Un (frs outer) [] H H1 s.heap s1.heap:=I.base
 refine ⟨e,C,H1,rfl,I.os,I.bare,⟨fun b o eb n hb hx=>kp b o (nf b o eb hb) (U.keep b o eb n hb hx),fun b o eb n hb hx=>?_,U.free,fun b o eb hx=>?_,U.tups,U.frzs,U.tbls⟩,fun b o eb=>?_,⟨nH e hm.new,?_,?_,?_⟩,q⟩
 · obtain ⟨z,e4⟩:=U.slot b o eb n hb hx
   obtain ⟨z',e5⟩:=sl b _ (List.mem_cons_of_mem _ hb) e4
   exact ⟨z',e5⟩
 · obtain ⟨o',e4⟩:=U.there b o eb hx
   by_cases hb:b∈frs (envOfC qual scope s.heap.objs.size f cd::outer)
   · obtain ⟨z,e5⟩:=sl b o' hb e4
     exact ⟨_,e5⟩
   · exact ⟨o',kp b o' hb e4⟩
 · refine (I.hok b o eb).stay (fun c v hc ev=>kp c v (fun hb=>?_) ev) (fun _ z=>z) fun _ _ z=>z
   have:=hfree c hb
   rcases hc with z|z
   · rw [z,eb] at this
     cases this
   · rw [z] at this
     cases this
 · cases z:base.get? e with
   | none=>rfl
   | some o=>exact absurd rfl (neE e o (baseK e o z))
 · cases z:s.heap.get? e with
   | none=>rfl
   | some o =>
     obtain ⟨o',e4⟩:=U.there e o z (by simp)
     exact absurd rfl (neE e o' e4)
 · obtain ⟨oT,ts,g1,g2,g3⟩:=g.tr
   refine ⟨_,_,T,oT,ts,g.exc,rfl,rfl,rfl,rfl,rfl,?_,tH,?_,?_,g1,g2,g3⟩
   · intro z
     have:=Heap.lt_size e1
     rw [<- z] at this
     exact absurd (Nat.lt_of_lt_of_le this g.new) (Nat.lt_irrefl _)
   · cases z:base.get? T with
     | none=>rfl
     | some o=>exact absurd rfl (nTo T o (baseK T o z))
   · cases z:s.heap.get? T with
     | none=>rfl
     | some o =>
       obtain ⟨o',e4⟩:=U.there T o z (by simp)
       exact absurd rfl (nTo T o' e4)
theorem Inv.raised {X:Cx}{pins:List (Addr×Obj)}{σ:St}{H H2:Hp}{s s':Shared}(I:Inv X pins σ H s)(os:s'.os=s.os)(bare:AllBare s'.gens)(un:Un (frs X.stack) [] H H2 s.heap s'.heap)(hok:HOk X.prog X.w H2 s'.heap):Inv X pins σ H2 s':=by
 obtain ⟨hh,g,d,t,os'⟩:=s'
 obtain rfl:os'=s.os:=os
 exact I.call (h':=hh) (g':=g) (d':=d) (t':=t) (ch:=[]) un hok bare (fun b z=>absurd z (by simp))
theorem Fun.okX {P:Program}{w:World} {mg:Str->Option Value}{base:Heap}{CX:CXT}{x qual:Str}{st:Stmt}{f:Addr} {N ps:List Str}{k:Nat}{sp:Sp}(F:Fun K x qual st f fd)(S:FnScope N ps (J5 st))(len:∀ vs H Q E,sp vs H Q E->vs.length=ps.length)
 (hbody:∀ (cdv:Value) (A:Around) (outer:List Env) (s:Shared) (H:Hp) (vs:List V) (Q:VK) (E:XK),Room k (A.deeper (envOfC qual (J5 st) s.heap.objs.size f cdv))->sp vs H Q E ->
  ∃ t,PSs (CI CX P w K mg base N qual (J5 st) f cdv A outer s H E) (BP st) t/\t { nx:=fun _ H'=>Q .non H',rt:=Q } (EC N vs) H):FnOk P w K mg base CX (k+1) f fd ps sp:=by
 obtain ⟨oc,od,kV,doc,pm,an,cdv,ct,osl,rfl,lk,hcd⟩:=F.ex
 exact J5z lk hcd S len fun A outer s H vs Q E hr hsp=>hbody cdv A outer s H vs Q E hr hsp
theorem J3n {X:Cx}{CX:CXT}{k:Nat}{ps:List Str}{sp:Sp}{E:XK}{x:Str}{p pos:Pos}{e:Expr}{es:List Expr}{t:TA}(hp:GS CX X E)(G:Callee X.prog X.w X.K X.mg X.base CX x k ps sp)(hr:Room k X.A)(hg:Gl X x)(ha:PA X (e::es) t)
 (hdb:(x==("__debug__" : Str))=false:=by decide) (he:starEach (e::es) X.env=(false,eval e X.env)::starEach es X.env:=by rfl) (hpl:(backTo pos (starEach es X.env)).any (·.1)=false:=by rfl):PE X (.Call (.Name x p) (e::es) [] pos) (UU sp [] E t):=by
 obtain ⟨f,fd,F,hm,hk,hb⟩:=G.ex
 exact VE F hr hg hm hk hb .nil hp ha hdb he hpl
def ExcO (x C:Addr):HO:=.ext fun h=>∃ (ox:Obj) (vs:Array Value),h.get? x=some ox/\ox.cls=.ref C/\ox.dict=none/\ox.data=.fields vs/\vs[2]?=some .none
theorem ExcO.ok {w:World}{H:Hp}{h:Heap}{x C:Addr}{ox:Obj}{vs:Array Value}(e:h.get? x=some ox)(c:ox.cls=.ref C)(d:ox.dict=none)(f:ox.data=.fields vs)(v:vs[2]?=some .none):ObjOk P w H h x (ExcO x C) :=
 ⟨⟨ox,vs,e,c,d,f,v⟩,⟨ox,e⟩,fun h1 h2 ⟨ox',vs',e',c',d',f',v'⟩ k=>⟨ox',vs',k _ e',c',d',f',v'⟩⟩
theorem Inv.exc {X:Cx}{pins:List (Addr×Obj)}{σ:St}{H:Hp}{s:Shared}{x C:Addr}(I:Inv X pins σ H s)(hx:H x=some (ExcO x C)):∃ (ox:Obj) (vs:Array Value),s.heap.get? x=some ox/\ox.cls=.ref C/\ox.dict=none/\ox.data=.fields vs/\vs[2]?=some .none:=(I.hok x _ hx).1
structure XCls (K:Fg)(D:Addr):Prop where
 get:PySem.W.findIn K (.ref D) "__getattribute__" = some (some (.builtin "BaseException.__getattribute__"))
 hook:PySem.W.findIn K (.ref D) "__getattr__" = some none
 fnd:PySem.W.findObj K D none "__class__" = some (.bind (.builtin "getset_descriptor.__get__") (.builtin "object.__class__"))
 mro:PySem.W.mroIn K D (.type "object")=some true
 cls:(PySem.W.clsIn K D).isSome=true
 exc:PySem.W.subIn K (.ref D) (.type "BaseException")=some true
theorem XD {M:Model}{h:Heap}{C:Addr}(X:K.In h)(e1:(PySem.W.clsIn K C).isSome=true):PySem.W.Looks M h (isType (.ref C)) true:=by
 unfold PySem.W.clsIn at e1
 split at e1
 · rename_i c' d' cd' sl' ho
   intro A' Q' E' s' k q
   unfold isType loadHead;exact wpAny_bind (wpAny_loadPart (k _ _ (X _ _ ho)) (wpAny_pure q))
 · cases e1
section
variable {X:Cx}
theorem Inv.instAt {pins:List (Addr×Obj)}{σ:St}{H:Hp}{s:Shared}{x C:Addr}(I:Inv X pins σ H s)(hx:H x=some (ExcO x C)):∃ ox,PySem.W.InstAt s.heap x ox C none:=by
 obtain ⟨ox,vs,e1,e2,e3,e4,e5⟩:=I.exc hx
 exact ⟨ox,e1,e2,by unfold PySem.W.notCls;rw [e4],by rw [e3];trivial⟩
end
theorem J4g {M:Model}{A:Around}{E:Value->Shared->Prop}{s:Shared} {x B C:Addr}{ox:Obj}{Q:Bool->Shared->Prop}(X:K.In s.heap)(I:PySem.W.InstAt s.heap x ox C none)(hB:(PySem.W.clsIn K B).isSome=true)(tB:PySem.W.typeIn K (.ref B)=some (.type "type"))
 (bB:PySem.W.subIn K (.ref B) (.type "BaseException")=some true) (cB:PySem.W.subIn K (.ref C) (.ref B)=some true) (h:Q true s):wpAny M A (excMatches (.ref x) (.ref B)) Q E s:=by
 obtain ⟨h0,g,d,tt,os⟩:=s
 have LT:PySem.W.Looks M h0 (isInstance (.ref B) (.type "tuple")) false:=(PySem.W.looks_typeIn X tB).andThen (PySem.W.Looks.of_pure tc_notTuple)
 have LE:PySem.W.Looks M h0 (isExcClass (.ref B)) true:=by
  unfold isExcClass
  exact (XD X hB).andThen (PySem.W.looks_subIn X bB)
 unfold excMatches
 refine wpAny_bind (LT.at ?_)
 simp only [Bool.false_eq_true,if_false]
 refine wpAny_bind (wpAny_pure ?_)
 simp only [List.forIn_cons,List.forIn_nil]
 refine wpAny_bind (wpAny_bind (wpAny_bind (LE.at ?_)))
 simp only [Bool.not_true,Bool.false_eq_true,if_false]
 refine wpAny_pure (wpAny_pure ?_)
 refine wpAny_bind (I.type.at ?_)
 refine wpAny_bind (wpAny_bind (wpAny_bind ((PySem.W.looks_subIn X cB).at ?_)))
 simp only [if_true]
 exact wpAny_pure (wpAny_pure (wpAny_pure h))
abbrev Cx.re (X:Cx)(E:Value->Shared->Prop)(pn:List (Addr×Obj)):Cx:={ X with xe:=E,pn:=pn }
abbrev Cx.marked (X:Cx)(x:Addr):Cx:={ X with A:=X.A.mark (some (.ref x)),calm:=false,xe:=fun _ _=>False }
section
variable {X:Cx}{pins pl:List (Addr×Obj)}{σ:St}{H:Hp}{s:Shared}{E:Value->Shared->Prop}{x:Addr}
theorem Cx.Ok.re (ok:X.Ok)(E:Value->Shared->Prop)(pn:List (Addr×Obj)):(X.re E pn).Ok:=⟨ok.mod,ok.kind,ok.glob,ok.blt,ok.above,ok.inj,ok.has,ok.cab,ok.hd,ok.frames,ok.stk,ok.exf,ok.bs,ok.bsz,ok.noex,ok.exfs,ok.funs,ok.frf⟩
theorem Cx.Ok.unre {pn:List (Addr×Obj)}(ok:(X.re E pn).Ok):X.Ok:=⟨ok.mod,ok.kind,ok.glob,ok.blt,ok.above,ok.inj,ok.has,ok.cab,ok.hd,ok.frames,ok.stk,ok.exf,ok.bs,ok.bsz,ok.noex,ok.exfs,ok.funs,ok.frf⟩
theorem Cx.Ok.marked (ok:X.Ok)(x:Addr):(X.marked x).Ok:=⟨ok.mod,ok.kind,ok.glob,ok.blt,ok.above,ok.inj,ok.has,ok.cab,fun z=>(by cases z),ok.frames,ok.stk,ok.exf,ok.bs,ok.bsz,ok.noex,ok.exfs,ok.funs,ok.frf⟩
theorem Inv.re (I:Inv X pins σ H s)(E:Value->Shared->Prop):Inv (X.re E (X.pn++pins)) [] σ H s:=⟨I.ok.re E _,I.os,I.bare,I.base,I.loc,I.cell,I.free,I.freeC,fun p hp=>I.pin p (by simpa using hp),I.hok,I.len⟩
theorem Inv.unre (I:Inv (X.re E (X.pn++pins)) pl σ H s):Inv X pins σ H s:=⟨I.ok.unre,I.os,I.bare,I.base,I.loc,I.cell,I.free,I.freeC,fun p hp=>I.pin p (List.mem_append_left _ hp),I.hok,I.len⟩
theorem Inv.marked (I:Inv X pins σ H s)(x:Addr):Inv (X.marked x) pins σ H s:=⟨I.ok.marked x,I.os,I.bare,I.base,I.loc,I.cell,I.free,I.freeC,I.pin,I.hok,I.len⟩
theorem Inv.unmarked (ok:X.Ok)(I:Inv (X.marked x) pins σ H s):Inv X pins σ H s:=⟨ok,I.os,I.bare,I.base,I.loc,I.cell,I.free,I.freeC,I.pin,I.hok,I.len⟩
end
theorem WZ {M:Model}{A:Around}{F:Value->Shared->Prop}{s:Shared} {env:Env}{outer:List Env}{L x T0:Addr}{ox oT:Obj}{vs ts:Array Value}{Q:Unit->Shared->Prop}(f1:A.frames=some (env::outer))(f2:s.heap.FunFrames base (env::outer))(f3:env.frame=some L)
 (x1:s.heap.get? x=some ox) (x2:ox.data=.fields vs) (x3:vs[1]?=some (.ref T0)) (t1:s.heap.get? T0=some oT) (t2:oT.data=.fields ts) (t3:ts[3]?=some .none) (tx:T0≠x)
 (q:∀ h' T,Gone ((env::outer).filterMap (·.frame)) x ox [T0] s.heap h' T->Q () { s with heap:=h' }):wpAny M A (noteFrame (.ref x) env) (fun _ s'=>wpAny M A (setFlight (.ref x) none) Q F s') F s:=by
 unfold noteFrame;simp only [f3]
 refine wpAny_bind (wpAny_field x1 x2 x3 ?_);rw [if_pos (show (Value.ref T0 != Value.none)=true from by simp)]
 refine wpAny_bind (wpAny_field t1 t2 t3 ?_);rw [if_neg (show ¬ ((Value.none==rawInt L)=true) from by simp [rawInt])]
 refine wpAny_bind (wpAny_setField t1 t2 (Array.getElem?_eq_some_iff.mp t3).1 ?_)
 have oth:∀ b,b≠T0->(s.heap.update T0 (Obj.mapFields (·.setIfInBounds 3 Value.none))).get? b=s.heap.get? b:=fun b hb=>Heap.get?_update_other _ _ (Ne.symm hb)
 have nrec:∀ b o,s.heap.get? b=some o->(∀ vs,o.data≠.fields vs)->b≠T0:=fun b o e n z=>by
  rw [z,t1] at e
  cases e
  exact n ts t2
 have fT:∀ b∈(env::outer).filterMap (·.frame),b≠T0:=fun b hb=>by
  obtain ⟨_,o,e1,e2⟩:=f2.mem hb
  exact nrec b o e1 e2
 refine MM f1 (f2.of_keeps fun b o e n=>⟨o,(oth b (nrec b o e n)).trans e,rfl⟩) f3 ((oth x (Ne.symm tx)).trans x1) x2 (Array.getElem?_eq_some_iff.mp x3).1 fun h' T g=>q h' T ⟨?_,?_,?_,g.exc,g.tr⟩
 · intro b o nf nx no e
   exact g.keep b o nf nx (by simp) ((oth b (by simpa using no)).trans e)
 · intro b o hb e
   exact g.slot b o hb ((oth b (fT b hb)).trans e)
 · have:=g.new
   simpa using this
structure XBase (K:Fg)(B:Addr):Prop where
 cls:(PySem.W.clsIn K B).isSome=true
 typ:PySem.W.typeIn K (.ref B)=some (.type "type")
 exc:PySem.W.subIn K (.ref B) (.type "BaseException")=some true
abbrev bmV:List Value:=[.type "ValueError",.type "Exception",.type "BaseException",.type "object"]
theorem Q1c {x:Str}{C:Addr}{bmB:List Value}{newId:String}(X:K.In base)(G:base.Ns mainGlobals mg)(e:PySem.W.nsIn K mainGlobals x=some (some (.ref C)))(q:PySem.W.excIn K C bmB newId=true):OwnCls x C bmB newId mg base:=by
 refine ⟨PySem.W.mg_of X G e,?_⟩
 unfold PySem.W.excIn at q
 split at q
 · rename_i dd cd sl ho
   split at q
   · rename_i C' bm k0 k1 k2 k3 n k5 hm hs
     simp only [Bool.and_eq_true,beq_iff_eq,Bool.not_eq_true'] at q;obtain ⟨⟨⟨⟨⟨rfl,rfl⟩,hdel⟩,ht⟩,hok⟩,hni⟩:=q
     obtain ⟨nm,bs,mro,ns,qn,hd,sn,sub,ab,col,del⟩:=cd
     dsimp only at hm hdel hok hni;subst hm hdel
     have hsl:sl=#[k0,k1,k2,k3,some (.builtin n),k5]:=by
      obtain ⟨l⟩:=sl
      simp only at hs;rw [hs]
     subst hsl
     refine ⟨bm,ns,nm,qn,bs,hd,sn,sub,ab,col,dd,k0,k1,k2,k3,k5,_,X _ _ ho,.of_isNs (PySem.W.isNs_of_in X hok),PySem.W.nsMap_none_of_in X hok hni,PySem.W.tail_of_in X ht⟩
   · cases q
 · cases q
theorem EU {P:Program}{w:World}{K:Fg} {N:List Str}{qual:Str}{scope:Scope}{f:Addr}{cd:Value}{A:Around}{outer:List Env}{s:Shared}{H:Hp}{E:XK}{x m:Str}{C:Addr}{j}{mp np cpos pos:Pos}(O:OwnCls x C bmV "ValueError.__new__" mg base)
 (hg:Gl (CI (CX1 P w base) P w K mg base N qual scope f cd A outer s H E) x) (hd:(x==("__debug__" : Str))=false:=by decide) :
 PS (CI (CX1 P w base) P w K mg base N qual scope f cd A outer s H E) (.Raise (some (.Call (.Name x np) [.Constant (.str m) j mp] [] cpos)) none pos) (fun _ _ H1=>E (.ref C) none H1) :=
 ZH (X:=CI (CX1 P w base) P w K mg base N qual scope f cd A outer s H E) O PySem.F.excBase_ValueError (by decide) PySem.F.excBase_ValueError rfl hg E (fun pins σ H1 s1 h' e us I hm q=>YJ pins σ H1 s1 h' e us I hm q) (CA ZL ES) (fun σ H Q q=>⟨Nat.le_trans (Nat.le_of_ble_eq_true rfl) BS,q⟩) rfl rfl hd
abbrev KS (led:Bool):Obj:={ cls:=.type "set",dict:=none,data:=.set #[] 0 (.fresh 0 0 led) }
abbrev met (ns:List Int)(k:Nat):List Int:=firstMet (fun i=>ns.getD i 0) k
def J2n (prog:Program)(w:World)(s:Shared)(ns:List Int)(k:Nat)(h':Heap):Prop:=h'.SetOf (intKind prog w) s.heap.objs.size (fun x=>(met ns k).any (·==x)) (met ns k).length/\∀ b o,b<s.heap.objs.size->s.heap.get? b=some o->h'.get? b=some o
section
variable {prog:Program}{w:World}{A:Around}{E:Value->Shared->Prop}{s:Shared}
theorem YV {tp:Addr}{its:Array Value}{ns:List Int}{led:Bool}(hh:A.handled=none)(ht:s.heap.IsTuple tp its)(hi:IntsAre its.toList ns)(hb:its.size+1<scanBound) :
 codeAny (model prog w) A (.call (.builtin "set.__init__") ⟨[.ref s.heap.objs.size,.ref tp],[]⟩) (wants (fun r s2=>r=.none/\∃ h' tk,s2={ s with heap:=h',toks:=tk }/\J2n prog w s ns its.size h') E) { s with heap:=s.heap.push (KS led) }:=by
 have gS:(s.heap.push (KS led)).get? s.heap.objs.size=some (KS led):=Heap.get?_push_size _ rfl
 have tS:Shared.TypeIs { s with heap:=s.heap.push (KS led) } (.ref s.heap.objs.size) "set":=⟨_,gS,rfl⟩
 refine codeAny_call_builtin F.called_set.init.plain F.entry_set_init (check_set_init_1 tS ?_)
 have below:tp<s.heap.objs.size:=by obtain ⟨o,e,_⟩:=ht;exact Heap.lt_size e
 obtain ⟨⟨kc,kd,kdata,ks⟩,eT,cT,n,dT⟩:=ht
 simp only at cT dT
 subst cT dT
 have eT1:(s.heap.push (KS led)).get? tp=some { cls:=.type "tuple",dict:=kd,data:=.seq its n,slots:=ks }:=Heap.get?_push_of_some _ eT
 have isT:(s.heap.push (KS led)).IsTuple tp its:=⟨_,eT1,rfl,n,rfl⟩
 have s1:=F.sub_tuple_set
 have s2:=F.sub_tuple_frozenset
 have s3:(Value.type "tuple"==Value.type "dict")=false:=by decide
 unfold Builtin.«set.__init__» noKeywords Builtin.Frozenset.updateFrom
 generalize keepIter:pyIter=PI
 wp_walk
 subst keepIter
 refine wpAny_pyIter_tuple isT ?_
 refine wpAny_bind (wpAny_runValue ?_)
 have sz:(s.heap.push (KS led)).objs.size=s.heap.objs.size+1:=Heap.size_push ..
 have nI:tp≠(s.heap.push (KS led)).objs.size:=by rw [sz];exact Nat.ne_of_lt (Nat.lt_succ_of_lt below)
 have nS:s.heap.objs.size∉[(s.heap.push (KS led)).objs.size,tp]:=by
  rw [sz]
  intro m
  rcases List.mem_cons.mp m with z|z
  · exact absurd z (Nat.ne_of_lt (Nat.lt_succ_self _))
  · exact absurd (List.mem_singleton.mp z) (Nat.ne_of_gt below)
 refine codeAny_set_update_loopS ((Walks.tuple (A:=A.in1.in1) (by simp [hh]) (s.heap.push (KS led)).objs.size tp nI its).toS) s.heap.objs.size nS (fun i=>ns.getD i 0)
  (fun i v e=>hi.int_at i v (by rw [Array.getElem?_toList];exact e)) hb (its.size - 0) 0 _ (by omega) (Nat.zero_le _) ?_ ?_ ?_
 · exact ⟨⟨_,Heap.get?_push_size _ rfl,rfl,rfl⟩,_,Heap.get?_push_of_some _ eT1,rfl,n,rfl⟩
 · exact SetOf_congr ((setObjOf_fresh (knd:=intKind prog w) led).setOf (Heap.get?_push_of_some _ gS) (by unfold scanBound;omega)) (fun _=>rfl) rfl
 · intro s' same full
   obtain ⟨h',g',d',tk',os'⟩:=s'
   cases (show g'=s.gens from same.gens)
   cases (show d'=s.drawn from same.drawn)
   cases (show os'=s.os from same.os)
   show wpAny _ _ _ _ _ _
   refine wpAny_pure ?_
   show wpAny _ _ (ret Value.none) _ _ _
   refine wpAny_pure ⟨rfl,h',tk',rfl,full,fun b o lt e=>?_⟩
   refine same.heap b o (fun m=>?_) (Heap.get?_push_of_some _ (Heap.get?_push_of_some _ e))
   rw [sz] at m
   rcases List.mem_cons.mp m with z|z
   · exact absurd z (Nat.ne_of_lt lt)
   · exact absurd (List.mem_singleton.mp z) (Nat.ne_of_lt (Nat.lt_succ_of_lt lt))
theorem QH {tp:Addr}{its:Array Value}{ns:List Int}{Q:Value->Shared->Prop}(hh:A.handled=none)(ht:s.heap.IsTuple tp its)(hi:IntsAre its.toList ns)(hb:its.size+1<scanBound)
 (fin:∀ h' tk,J2n prog w s ns its.size h'->Q (.ref s.heap.objs.size) { s with heap:=h',toks:=tk }):wpAny (model prog w) A (call (.type "set") [.ref tp]) Q E s:=by
 obtain ⟨c0,tl,m0⟩:=F.called_set.mro
 have m1:=F.called_set.made
 have m2:=F.called_set.sub
 have m3:=F.called_set.notType
 have m4:=F.called_set.canCreate
 have m5:=F.typeCall_set_1 (.ref tp)
 refine wpAny_call (codeAny_of_tree ?_)
 show wpAny _ _ (callAny (.type "set") _) _ _ _
 refine wpAny_pure ⟨Code.quiet_builtin _ (by decide +kernel),codeAny_builtin F.entry_type_call ?_⟩
 rw [Around.under_plain (weight_type_call_type "set" [.ref tp] []) rfl]
 repeat (any_goals (first|assumption|wp_step))
 refine codeAny_mono (code_set_new_1 (.ref tp) (E:=E) (Q₁:=fun v s1=>∃ led,v=.ref s.heap.objs.size/\s1={ s with heap:=s.heap.push (KS led) }) fun led=>⟨led,rfl,rfl⟩) fun r s1 made=>?_
 match r,made with
 | .error e,made=>exact made
 | .ok .next,made=>exact made.elim
 | .ok .brk,made=>exact made.elim
 | .ok .cont,made=>exact made.elim
 | .ok (.ret v),made =>
   obtain ⟨led,rfl,rfl⟩:=made
   have tS:Shared.TypeIs { s with heap:=s.heap.push (KS led) } (.ref s.heap.objs.size) "set":=⟨_,Heap.get?_push_size _ rfl,rfl⟩
   have i1:=F.called_set.init.lookup
   have i2:=F.called_set.init.bind (.ref s.heap.objs.size)
   repeat (any_goals (first|assumption|wp_step))
   refine codeAny_mono (YV (E:=E) (led:=led) (by simp [hh]) ht hi hb) fun r2 s2 done=>?_
   match r2,done with
   | .error e,done=>exact done
   | .ok .next,done=>exact done.elim
   | .ok .brk,done=>exact done.elim
   | .ok .cont,done=>exact done.elim
   | .ok (.ret u),done =>
     obtain ⟨rfl,h',tk,rfl,full⟩:=done
     repeat (any_goals (first|assumption|wp_step))
     exact fin h' tk full
end
def Asc (xs:Array Nat):Prop:=xs.toList.Pairwise (· < ·)
structure Tb (w:World)(t:SetTable):Prop where
 dum:t.dummies=#[]
 led:w.params.followText "set-order" = false->t.led=true
 asc:t.plain=true->Asc t.place
def iv:Value->Int
 | .int n _=>n
 | _=>0
abbrev Q1j (es:Array (Int×Value)):List Int:=es.toList.map fun e=>iv e.2
structure ISo (prog:Program)(w:World)(ns:List Int)(o:Obj)(es:Array (Int×Value))(ep:Nat)(t:SetTable):Prop where
 ex:o.ExactSet
 da:o.data=.set es ep t
 el:ElemsOf (intKind prog w) es.toList
 nd:(Q1j es).Nodup
 me:∀ z,z∈Q1j es↔z∈ns
 sz:es.size<=ns.length
 ft:t.fits es.size=true
 tb:Tb w t
structure WSo (w:World)(o:Obj)(es:Array (Int×Value))(ep:Nat)(t:SetTable):Prop where
 ex:o.ExactSet
 da:o.data=.set es ep t
 ft:t.fits es.size=true
 tb:Tb w t
theorem ISo.w {prog:Program}{w:World}{ns:List Int}{o:Obj}{es:Array (Int×Value)}{ep:Nat}{t:SetTable}(I:ISo prog w ns o es ep t):WSo w o es ep t:=⟨I.ex,I.da,I.ft,I.tb⟩
abbrev byT (w:World):Bool:=w.params.followText "set-order"
inductive Way (w:World)(a:Addr)(es:Array (Int×Value))(ep:Nat)(t:SetTable)(ord:List (Int×Value))(fx:List Addr)(h:Heap)(i:Nat)(first:Value):Prop
 | text (k:Nat) (b:byT w=true) (f:first=.int k 0) (o:ord=(pickOrder (w.params.setOrder a ep) es).toList)
 | place (k:Nat) (b:byT w=false) (d:(!t.plain&&decide (es.size>1))=false) (c:Asc t.place) (f:first=.int k 0) (e:SetTable.below t.place k=i) (o:ord=es.toList)
 | drawn (p:Addr) (ps:List Nat) (b:byT w=false) (d:(!t.plain&&decide (es.size>1))=true) (f:first=.ref p) (m:p∈fx) (q:h.get? p=some { cls:=.type "tuple",data:=.seq (ps.map fun x:Nat=>Value.int (x:Int) 0).toArray 0 }) (o:ps.map (fun x=>es[x]?)=ord.map some)
section
variable {w:World}{a:Addr}{o:Obj}{es:Array (Int×Value)}{ep:Nat}{t:SetTable}{ord:List (Int×Value)}{fx:List Addr}{i:Nat}{first:Value}
theorem Way.frame {h h':Heap}(W:Way w a es ep t ord fx h i first)(k:∀ b∈fx,∀ o,h.get? b=some o->h'.get? b=some o):Way w a es ep t ord fx h' i first:=by
 cases W with
 | text k b f o=>exact .text k b f o
 | place k b d c f e o=>exact .place k b d c f e o
 | drawn p ps b d f m q o=>exact .drawn p ps b d f m (k p m _ q) o
end
def kA (k:Keyed->Int)(xs:Array Keyed)(i:Nat):Int:=match xs[i]? with
 | some p=>k p
 | none=>0
def JX (k:Keyed->Int)(xs:Array Keyed)(lo n:Nat):Prop:=∀ i j,lo<=i->i<=j->j<lo+n->kA k xs i<=kA k xs j
def IS (k:Keyed->Int)(xs:Array Keyed)(lo n:Nat):Prop:=∀ i j,lo<=i->i<=j->j<lo+n->kA k xs j<=kA k xs i
theorem GI {k:Keyed->Int}{xs ys:Array Keyed}{i j:Nat}(h:xs[i]?=ys[j]?):kA k xs i=kA k ys j:=by unfold kA;rw [h]
theorem VG {k:Keyed->Int}{xs:Array Keyed}{i:Nat}(h:i<xs.size):kA k xs i=k xs[i]:=by unfold kA;rw [getElem?_pos xs i h]
theorem NT {k:Keyed->Int}{xs:Array Keyed}{src d:Nat}(hs:src<xs.size)(hd:d<=src)(i:Nat) :
 kA k (bubble xs src d) i=if i=src - d then kA k xs src else if src - d<i/\i<=src then kA k xs (i - 1) else kA k xs i:=by
 have e:=getElem?_bubble hs d hd i
 by_cases h1:i=src - d
 · rw [if_pos h1] at e ⊢;exact GI e
 · rw [if_neg h1] at e ⊢
   by_cases h2:src - d<i/\i<=src
   · rw [if_pos h2] at e ⊢;exact GI e
   · rw [if_neg h2] at e ⊢;exact GI e
theorem JJ {k:Keyed->Int}{xs:Array Keyed}{i j:Nat}(hj:j<=xs.size)(q:Nat) :
 kA k (mirror xs i j ((j - i) / 2)) q=if i<=q/\q<j then kA k xs (i+j - 1 - q) else kA k xs q:=by
 have e:=getElem?_mirror_all (i:=i) hj q
 by_cases h1:i<=q/\q<j
 · rw [if_pos h1] at e ⊢;exact GI e
 · rw [if_neg h1] at e ⊢;exact GI e
theorem DU {k:Keyed->Int}{xs:Array Keyed}{i j:Nat}(hj:j<=xs.size)(heq:∀ q,i<=q->q<j->kA k xs q=kA k xs (j - 1))(q:Nat) :
 kA k (mirror xs i j ((j - i) / 2)) q=kA k xs q:=by
 rw [JJ hj]
 split
 · rw [heq _ (by omega) (by omega),heq q (by omega) (by omega)]
 · rfl
structure Cmp (prog:Program)(w:World)(A:Around)(s:Shared)(κ:SortKind)(a₀:Array Keyed)(k:Keyed->Int):Prop where
 lt:∀ x∈a₀.toList,∀ y∈a₀.toList,∀ (E:Value->Shared->Prop) (Q:Bool->Shared->Prop),Q (decide (k x<k y)) s->wpAny (model prog w) A (keyLt' κ x.1 y.1) Q E s
structure TB (κ:SortKind)(a₀:Array Keyed)(st:SortSt):Prop where
 perm:(arrOf st).Perm a₀
 kind:kindOf st=κ
 ok:failedOf st=none
theorem TB.size {κ:SortKind}{a₀:Array Keyed}{st:SortSt}(h:TB κ a₀ st):(arrOf st).size=a₀.size:=h.perm.size_eq
theorem TB.setArr {κ:SortKind}{a₀:Array Keyed}{st:SortSt}(h:TB κ a₀ st){xs:Array Keyed}(hp:xs.Perm (arrOf st)):TB κ a₀ (setArr st xs):=⟨hp.trans h.perm,h.kind,h.ok⟩
theorem TB.mem {κ:SortKind}{a₀:Array Keyed}{st:SortSt}(h:TB κ a₀ st){p:Keyed}(hp:p∈(arrOf st).toList):p∈a₀.toList:=(Array.perm_iff_toList_perm.mp h.perm).mem_iff.mp hp
structure Sam (lo hi:Nat)(st st':SortSt):Prop where
 pend:pendingOf st'=pendingOf st
 out:∀ i,i<lo\/hi<=i->(arrOf st')[i]?=(arrOf st)[i]?
theorem Sam.refl (lo hi:Nat)(st:SortSt):Sam lo hi st st:=⟨rfl,fun _ _=>rfl⟩
theorem Sam.trans {lo hi:Nat}{a b c:SortSt}(h:Sam lo hi a b)(h':Sam lo hi b c):Sam lo hi a c:=⟨h'.pend.trans h.pend,fun i hi=>(h'.out i hi).trans (h.out i hi)⟩
theorem Sam.bubble {lo hi:Nat}{st:SortSt}{src d:Nat}(hs:src<(arrOf st).size)(hd:d<=src)(h1:lo<=src - d)(h2:src<hi):Sam lo hi st (setArr st (bubble (arrOf st) src d)):=⟨rfl,fun i h=>by
 show (PyProof.Rows.bubble (arrOf st) src d)[i]?=_
 rw [getElem?_bubble hs d hd i,if_neg (by omega),if_neg (by omega)]⟩
theorem Sam.mirror {lo hi:Nat}{st:SortSt}{i j:Nat}(hj:j<=(arrOf st).size)(h1:lo<=i)(h2:j<=hi):Sam lo hi st (setArr st (mirror (arrOf st) i j ((j - i) / 2))):=⟨rfl,fun q h=>by
 show (PyProof.Rows.mirror (arrOf st) i j ((j - i) / 2))[q]?=_
 rw [getElem?_mirror_all hj q,if_neg (by omega)]⟩
section
variable {prog:Program}{w:World}{A:Around}{E:Value->Shared->Prop}{s:Shared}{κ:SortKind}{a₀:Array Keyed}{k:Keyed->Int}
theorem J6z {st:SortSt}{x y:Keyed}{Q:Option Bool->SortSt->Prop}(C:Cmp prog w A s κ a₀ k)(hk:kindOf st=κ)(hx:x∈a₀.toList)(hy:y∈a₀.toList)(h:Q (some (decide (k x<k y))) st):wpS (model prog w) A E s (lt' x y) Q st:=by
 rw [lt'_eq]
 refine wpS_bind (wpS_get ?_)
 rw [hk]
 refine wpS_bind (wpS_lift (wpAny_attempt (C.lt x hx y hy _ _ ⟨rfl,?_⟩)))
 exact wpS_pure h
theorem QT {st:SortSt}{arr:Array Keyed}{i:Nat}{Q:Keyed->SortSt->Prop}(hi:i<arr.size)(h:Q arr[i] st):wpS (model prog w) A E s (elem' arr i) Q st:=by
 rw [elem'_eq,getElem?_pos arr i hi]
 exact wpS_pure h
theorem GV {st:SortSt}{i j:Nat}{Q:Option Bool->SortSt->Prop}(C:Cmp prog w A s κ a₀ k)(hB:TB κ a₀ st)(hi:i<a₀.size)(hj:j<a₀.size)
 (h:Q (some (decide (kA k (arrOf st) i<kA k (arrOf st) j))) st):wpS (model prog w) A E s (ltAt' i j) Q st:=by
 have hi':i<(arrOf st).size:=by rw [hB.size];exact hi
 have hj':j<(arrOf st).size:=by rw [hB.size];exact hj
 rw [VG hi',VG hj'] at h
 rw [ltAt'_eq]
 refine wpS_bind (wpS_get ?_)
 exact wpS_bind (QT hi' (wpS_bind (QT hj' (J6z C hB.kind (hB.mem (by simp)) (hB.mem (by simp)) h))))
theorem YM {st:SortSt}{lo n ok:Nat}{Q:Bool->SortSt->Prop}(C:Cmp prog w A s κ a₀ k)(hn:lo+n<=a₀.size)(hok:ok<=n)(hB:TB κ a₀ st)(hs:JX k (arrOf st) lo ok)
 (h:∀ st',TB κ a₀ st'->Sam lo (lo+n) st st'->JX k (arrOf st') lo n->Q true st'):wpS (model prog w) A E s (binarySort' lo n ok) Q st:=by
 rw [binarySort'_eq]
 refine wpS_bind (wpS_mono (wpS_forRange (I:=fun q c st'=>c=(none,())/\TB κ a₀ st'/\Sam lo (lo+n) st st'/\JX k (arrOf st') lo (min q n))
  (Q:=fun c st'=>c=(none,())/\TB κ a₀ st'/\Sam lo (lo+n) st st'/\JX k (arrOf st') lo n) ?step ?fin ?init) ?post)
 case post =>
  rintro c st' ⟨rfl,tb,d3,so⟩
  exact wpS_pure (h st' tb d3 so)
 case init =>
  refine ⟨rfl,hB,Sam.refl _ _ _,fun i j h0 hij hj=>?_⟩
  by_cases h1:ok=0
  · have:i=j:=by omega
    subst this;exact Int.le_refl _
  · exact hs i j h0 hij (by omega)
 case fin =>
  rintro c st' ⟨hc,tb,d3,so⟩
  refine ⟨hc,tb,d3,?_⟩
  rwa [show min (max (max ok 1) n) n=n by omega] at so
 case step =>
  rintro q c st' hak hqn ⟨rfl,tb,hsm,so⟩
  rw [show min q n=q by omega] at so
  have hq:lo+q<a₀.size:=by omega
  refine wpS_bind (wpS_mono (wpS_forRange (I:=fun x c sx=>sx=st'/\∃ l r,c=(none,l,r)/\l<=r/\r<=q/\r - l<=q - x /\
   (∀ i,i<l->kA k (arrOf st') (lo+i)<=kA k (arrOf st') (lo+q))/\(∀ i,r<=i->i<q->kA k (arrOf st') (lo+q)<kA k (arrOf st') (lo+i)))
   (Q:=fun c sx=>sx=st'/\∃ l r,c=(none,l,r)/\l<=q /\
    (∀ i,i<l->kA k (arrOf st') (lo+i)<=kA k (arrOf st') (lo+q))/\(∀ i,l<=i->i<q->kA k (arrOf st') (lo+q)<kA k (arrOf st') (lo+i))) ?istep ?ifin ?iinit) ?ipost)
  case iinit=>exact ⟨rfl,0,q,rfl,by omega,by omega,by omega,fun i hi=>by omega,fun i h1 h2=>by omega⟩
  case ifin =>
   rintro c sx ⟨rfl,l,r,rfl,d1,d2,d3,d4,d5⟩
   have:l=r:=by omega
   subst this
   exact ⟨rfl,l,l,rfl,d2,d4,d5⟩
  case istep =>
   rintro x c sx _ q1 ⟨rfl,l,r,rfl,d1,d2,d3,d4,d5⟩
   dsimp only
   by_cases cmp:l>=r
   · rw [if_pos cmp]
     have:l=r:=by omega
     subst this
     exact wpS_pure ⟨rfl,l,l,rfl,d2,d4,d5⟩
   · rw [if_neg cmp]
     refine wpS_bind (GV C tb hq (by omega) ?_)
     by_cases les:kA k (arrOf sx) (lo+q)<kA k (arrOf sx) (lo+(l+r) / 2)
     · simp only [les,decide_true,if_true]
       refine wpS_pure ⟨rfl,l,(l+r) / 2,rfl,by omega,by omega,by omega,d4,fun i h1 h2=>?_⟩
       exact Int.lt_of_lt_of_le les (so _ _ (by omega) (by omega) (by omega))
     · simp only [les,decide_false,Bool.false_eq_true,if_false]
       refine wpS_pure ⟨rfl,(l+r) / 2+1,r,rfl,by omega,by omega,by omega,fun i h1=>?_,d5⟩
       exact Int.le_trans (so (lo+i) (lo+(l+r) / 2) (by omega) (by omega) (by omega)) (Int.not_lt.mp les)
  case ipost =>
   rintro c sx ⟨rfl,l,r,rfl,d6,d4,d5⟩
   show wpS _ _ _ _ (do moveDown' (lo+q) (lo+l);pure (ForInStep.yield (none,()))) _ _
   rw [moveDown'_eq]
   have kz:lo+q<(arrOf sx).size:=by rw [tb.size];exact hq
   refine wpS_bind (wpS_modify (wpS_pure ⟨rfl,tb.setArr (bubble_perm _ _ _),hsm.trans (Sam.bubble kz (by omega) (by omega) (by omega)),?_⟩))
   rw [show min (q+1) n=q+1 by omega]
   intro i j h0 hij hj
   show kA k (bubble (arrOf sx) (lo+q) (lo+q - (lo+l))) i<=kA k (bubble (arrOf sx) (lo+q) (lo+q - (lo+l))) j
   have lo':∀ i,lo<=i->i<lo+l->kA k (arrOf sx) i<=kA k (arrOf sx) (lo+q):=fun i h1 h2=>by
    have:=d4 (i - lo) (by omega)
    rwa [show lo+(i - lo)=i by omega] at this
   have hi':∀ i,lo+l<=i->i<lo+q->kA k (arrOf sx) (lo+q)<kA k (arrOf sx) i:=fun i h1 h2=>by
    have:=d5 (i - lo) (by omega) (by omega)
    rwa [show lo+(i - lo)=i by omega] at this
   rw [NT kz (by omega),NT kz (by omega),show lo+q - (lo+q - (lo+l))=lo+l by omega]
   repeat' split
   all_goals first
    | (exfalso;omega)
    | exact Int.le_refl _
    | exact lo' _ (by omega) (by omega)
    | exact Int.le_of_lt (hi' _ (by omega) (by omega))
    | exact so _ _ (by omega) (by omega) (by omega)
end
local macro_rules | `(tactic| walk_at "un gallop") => do let n := Lean.mkIdent (Lean.mkPrivateNameCore `PySem.Builtin.List.W1All `PySem.Builtin.gallop); `(tactic| unfold $n)
local macro_rules | `(tactic| walk_at "un countRun") => do let n := Lean.mkIdent (Lean.mkPrivateNameCore `PySem.Builtin.List.W1All `PySem.Builtin.countRun); `(tactic| unfold $n)
def YX:Nat->Nat->StateT SortSt Sem (Option Nat):=sortPriv% PySem.Builtin.countRun
section
variable {prog:Program}{w:World}{A:Around}{E:Value->Shared->Prop}{s:Shared}{κ:SortKind}{a₀:Array Keyed}{k:Keyed->Int}
theorem FW {st:SortSt}{i j:Nat}{Q:Unit->SortSt->Prop}(h:Q () (setArr st (mirror (arrOf st) i j ((j - i) / 2)))):wpS (model prog w) A E s (reverseSlice' i j) Q st:=by
 rw [reverseSlice'_eq];exact wpS_modify h
theorem QX {xs:Array Keyed}{lo x:Nat}(h:JX k xs lo x)(l:¬ kA k xs (lo+x)<kA k xs (lo+x - 1)):JX k xs lo (x+1):=fun i j h0 hij hj=>by
 by_cases e:j<lo+x
 · exact h i j h0 hij e
 · have ej:j=lo+x:=by omega
   subst ej
   by_cases ei:i=lo+x
   · rw [ei];exact Int.le_refl _
   · exact Int.le_trans (h i (lo+x - 1) h0 (by omega) (by omega)) (Int.not_lt.mp l)
theorem FD {xs:Array Keyed}{lo x:Nat}(h:IS k xs lo x)(l:kA k xs (lo+x)<=kA k xs (lo+x - 1)):IS k xs lo (x+1):=fun i j h0 hij hj=>by
 by_cases e:j<lo+x
 · exact h i j h0 hij e
 · have ej:j=lo+x:=by omega
   subst ej
   by_cases ei:i=lo+x
   · rw [ei];exact Int.le_refl _
   · exact Int.le_trans l (h i (lo+x - 1) h0 (by omega) (by omega))
theorem JP {xs ys:Array Keyed}{lo x:Nat}(h:IS k xs lo x)(e:∀ i,kA k ys i=kA k xs i):IS k ys lo x:=fun i j h0 hij hj=>by
 rw [e,e];exact h i j h0 hij hj
theorem YL {st:SortSt}{lo nrem:Nat}{Q:Option Nat->SortSt->Prop}(C:Cmp prog w A s κ a₀ k)(hn:lo+nrem<=a₀.size)(h1:1<=nrem)(hB:TB κ a₀ st)
 (h:∀ m st',TB κ a₀ st'->Sam lo (lo+nrem) st st'->1<=m->m<=nrem->JX k (arrOf st') lo m->Q (some m) st'):wpS (model prog w) A E s (YX lo nrem) Q st:=by
 unfold YX
 walk_at "un countRun"
 dsimp only
 refine wpS_bind (wpS_mono (wpS_forRange (I:=fun x c st'=>st'=st/\c=(none,x)/\JX k (arrOf st) lo x)
  (Q:=fun c st'=>st'=st/\∃ x,c=(none,x)/\1<=x/\x<=nrem/\JX k (arrOf st) lo x/\(x=nrem\/kA k (arrOf st) (lo+x)<kA k (arrOf st) (lo+x - 1))) ?turn ?stop ⟨rfl,rfl,fun i j h0 hij hj=>?_⟩) ?after)
 case stop =>
  rintro c st' ⟨rfl,rfl,b1⟩
  rw [show max 1 nrem=nrem by omega] at b1 ⊢
  exact ⟨rfl,nrem,rfl,h1,Nat.le_refl _,b1,.inl rfl⟩
 case turn =>
  rintro x c st' hx1 hx ⟨rfl,rfl,b1⟩
  dsimp only
  refine wpS_bind (GV C hB (by omega) (by omega) ?_)
  by_cases q:kA k (arrOf st') (lo+x)<kA k (arrOf st') (lo+x - 1)
  · simp only [q,decide_true,if_true]
    exact wpS_pure ⟨rfl,x,rfl,hx1,by omega,b1,.inr q⟩
  · simp only [q,decide_false,Bool.false_eq_true,if_false]
    exact wpS_pure ⟨rfl,rfl,QX b1 q⟩
 · have:i=j:=by omega
   subst this;exact Int.le_refl _
 rintro c st' ⟨rfl,n,rfl,n1,n2,so,up⟩
 dsimp only
 by_cases q:n=nrem
 · rw [if_pos (by simpa using q)]
   exact wpS_pure (h n st' hB (Sam.refl _ _ _) n1 n2 so)
 rw [if_neg (by simpa using q)]
 have lt:=up.resolve_left q
 have facts:n>1\/¬ n>1:=Nat.lt_or_ge 1 n |>.imp id fun z=>by omega
 rcases facts with g1|g1
 case' inl =>
  rw [if_pos g1]
  refine wpS_bind (GV C hB (by omega) (by omega) ?_)
  by_cases r:kA k (arrOf st') lo<kA k (arrOf st') (lo+n - 1)
  · simp only [r,decide_true,if_true]
    exact wpS_pure (h n st' hB (Sam.refl _ _ _) n1 n2 so)
  simp only [r,decide_false,Bool.false_eq_true,if_false]
  have sz:lo+n<=(arrOf st').size:=by rw [hB.size];omega
  have al:∀ i,lo<=i->i<lo+n->kA k (arrOf st') i=kA k (arrOf st') (lo+n - 1):=fun i i1 i2=>by
   have a1:=so lo i (by omega) i1 i2
   have a2:=so i (lo+n - 1) i1 (by omega) (by omega)
   omega
  refine wpS_bind (FW ?_)
  have tb:=hB.setArr (mirror_perm (arrOf st') lo (lo+n) ((lo+n - lo) / 2))
  have sm:Sam lo (lo+nrem) st' _:=Sam.mirror (st:=st') (i:=lo) (j:=lo+n) sz (Nat.le_refl _) (by omega)
  have fl:IS k (mirror (arrOf st') lo (lo+n) ((lo+n - lo) / 2)) lo (n+1):=JP (xs:=arrOf st') (FD (fun i j h0 hij hj=>by rw [al i h0 (by omega),al j (by omega) hj];exact Int.le_refl _) (Int.le_of_lt lt)) (DU sz al)
  generalize hst:setArr st' (mirror (arrOf st') lo (lo+n) ((lo+n - lo) / 2))=st2 at tb sm ⊢
  rw [show mirror (arrOf st') lo (lo+n) ((lo+n - lo) / 2)=arrOf st2 by rw [<- hst]] at fl
  clear hst al
 case' inr =>
  rw [if_neg g1]
  have fl:IS k (arrOf st') lo (n+1):=FD (fun i j h0 hij hj=>by
   have:i=j:=by omega
   subst this;exact Int.le_refl _) (Int.le_of_lt lt)
  obtain ⟨st2,hst⟩:∃ z,z=st':=⟨_,rfl⟩
  have sm:Sam lo (lo+nrem) st' st2:=by rw [hst];exact Sam.refl _ _ _
  have tb:TB κ a₀ st2:=by rw [hst];exact hB
  rw [<- hst] at fl
  rw [<- hst]
  clear hst
 all_goals
  refine wpS_bind (wpS_lift (wpAny_rule ⟨rfl,?_⟩))
  refine wpS_bind (wpS_mono (wpS_forRange (I:=fun x c st'=>∃ u,c=(none,x,u)/\TB κ a₀ st'/\Sam lo (lo+nrem) st2 st'/\IS k (arrOf st') lo x/\u+1<=x/\∀ i,lo+x - (u+1)<=i->i<lo+x->kA k (arrOf st') i=kA k (arrOf st') (lo+x - 1))
   (Q:=fun c st'=>∃ x u,c=(none,x,u)/\n+1<=x/\x<=nrem/\TB κ a₀ st'/\Sam lo (lo+nrem) st2 st'/\IS k (arrOf st') lo x/\u+1<=x/\∀ i,lo+x - (u+1)<=i->i<lo+x->kA k (arrOf st') i=kA k (arrOf st') (lo+x - 1)) ?_ ?_ ⟨0,rfl,tb,Sam.refl _ _ _,fl,by omega,fun i i1 i2=>by congr 1;omega⟩) ?_)
  · rintro x c st3 hx1 hx ⟨u,rfl,b1,b2,b3,b4,b5⟩
    dsimp only
    have sz:lo+x<=(arrOf st3).size:=by rw [b1.size];omega
    refine wpS_bind (GV C b1 (by omega) (by omega) ?_)
    by_cases q:kA k (arrOf st3) (lo+x)<kA k (arrOf st3) (lo+x - 1)
    · simp only [q,decide_true,if_true]
      by_cases z:u>0
      · rw [if_pos z]
        refine wpS_bind (FW (wpS_pure ⟨0,rfl,b1.setArr (mirror_perm _ _ _ _),b2.trans (Sam.mirror sz (by omega) (by omega)),JP (xs:=arrOf st3) (FD b3 (Int.le_of_lt q)) (DU sz b5),by omega,fun i i1 i2=>by congr 1;omega⟩))
      · rw [if_neg z]
        exact wpS_pure ⟨0,rfl,b1,b2,FD b3 (Int.le_of_lt q),by omega,fun i i1 i2=>by congr 1;omega⟩
    · simp only [q,decide_false,Bool.false_eq_true,if_false]
      refine wpS_bind (GV C b1 (by omega) (by omega) ?_)
      by_cases z:kA k (arrOf st3) (lo+x - 1)<kA k (arrOf st3) (lo+x)
      · simp only [z,decide_true,if_true]
        exact wpS_pure ⟨x,u,rfl,hx1,by omega,b1,b2,b3,b4,b5⟩
      · simp only [z,decide_false,Bool.false_eq_true,if_false]
        have eq:kA k (arrOf st3) (lo+x)=kA k (arrOf st3) (lo+x - 1):=by omega
        refine wpS_pure ⟨u+1,rfl,b1,b2,FD b3 (Int.le_of_eq eq),by omega,fun i i1 i2=>?_⟩
        rw [show lo+(x+1) - 1=lo+x by omega]
        by_cases ei:i=lo+x
        · rw [ei]
        · rw [eq];exact b5 i (by omega) (by omega)
  · rintro c st3 ⟨u,rfl,b1,b2,b3,b4,b5⟩
    rw [show max (n+1) nrem=nrem by omega] at b3 b4 b5 ⊢
    exact ⟨nrem,u,rfl,by omega,Nat.le_refl _,b1,b2,b3,b4,b5⟩
  rintro c st3 ⟨m,u,rfl,m1,m2,b1,b2,b3,b4,b5⟩
  dsimp only
  have sz:lo+m<=(arrOf st3).size:=by rw [b1.size];omega
  have fin:∀ st4:SortSt,TB κ a₀ st4->Sam lo (lo+nrem) st3 st4->IS k (arrOf st4) lo m->TB κ a₀ (setArr st4 (mirror (arrOf st4) lo (lo+m) ((lo+m - lo) / 2)))/\Sam lo (lo+nrem) st' (setArr st4 (mirror (arrOf st4) lo (lo+m) ((lo+m - lo) / 2)))/\JX k (mirror (arrOf st4) lo (lo+m) ((lo+m - lo) / 2)) lo m:=fun st4 c1 c2 c3=>by
   have sz4:lo+m<=(arrOf st4).size:=by rw [c1.size];omega
   refine ⟨c1.setArr (mirror_perm _ _ _ _),(sm.trans (b2.trans c2)).trans (Sam.mirror sz4 (Nat.le_refl _) (by omega)),fun i j h0 hij hj=>?_⟩
   rw [JJ sz4,JJ sz4,if_pos (by omega),if_pos (by omega)]
   exact c3 _ _ (by omega) (by omega) (by omega)
  have z:u>0\/¬ u>0:=Nat.eq_zero_or_pos u |>.symm.imp id fun z=>by omega
  rcases z with z|z
  case' inl =>
   rw [if_pos z]
   refine wpS_bind (FW ?_)
   refine wpS_bind (FW ?_)
   obtain ⟨d1,d2,d3⟩:=fin _ (b1.setArr (mirror_perm (arrOf st3) (lo+m - (u+1)) (lo+m) ((lo+m - (lo+m - (u+1))) / 2))) (Sam.mirror sz (by omega) (by omega)) (JP b3 (DU sz b5))
  case' inr =>
   rw [if_neg z]
   refine wpS_bind (FW ?_)
   obtain ⟨d1,d2,d3⟩:=fin _ b1 (Sam.refl _ _ _) b3
  all_goals
   refine wpS_bind (wpS_mono (wpS_forRange (I:=fun x c sx=>c=(none,x)/\TB κ a₀ sx/\Sam lo (lo+nrem) st' sx/\JX k (arrOf sx) lo x) (Q:=fun c sx=>∃ x,c=(none,x)/\1<=x/\x<=nrem/\TB κ a₀ sx/\Sam lo (lo+nrem) st' sx/\JX k (arrOf sx) lo x) ?_ ?_ ⟨rfl,d1,d2,d3⟩) ?_)
   · rintro x c st5 hx1 hx ⟨rfl,e1,e2,e3⟩
     dsimp only
     refine wpS_bind (GV C e1 (by omega) (by omega) ?_)
     by_cases q:kA k (arrOf st5) (lo+x)<kA k (arrOf st5) (lo+x - 1)
     · simp only [q,decide_true,if_true]
       exact wpS_pure ⟨x,rfl,by omega,by omega,e1,e2,e3⟩
     · simp only [q,decide_false,Bool.false_eq_true,if_false]
       exact wpS_pure ⟨rfl,e1,e2,QX e3 q⟩
   · rintro c st5 ⟨rfl,e1,e2,e3⟩
     rw [show max m nrem=nrem by omega] at e3 ⊢
     exact ⟨nrem,rfl,h1,Nat.le_refl _,e1,e2,e3⟩
   rintro c st5 ⟨x,rfl,x1,x2,e1,e2,e3⟩
   exact wpS_pure (h x _ e1 e2 x1 x2 e3)
end
def SrtA (k:Keyed->Int)(xs:Array Keyed):Prop:=JX k xs 0 xs.size
theorem SrtA.le {k:Keyed->Int}{xs:Array Keyed}(h:SrtA k xs){i j:Nat}(hij:i<=j)(hj:j<xs.size):kA k xs i<=kA k xs j:=h i j (Nat.zero_le _) hij (by omega)
theorem XC {n:Nat}(h2:2<=n)(h:n<64):minRun' n n 0=n:=by
 obtain ⟨f,rfl⟩:∃ f,n=f+2:=⟨n - 2,by omega⟩
 rw [minRun'_succ,if_pos h]
section
variable {prog:Program}{w:World}{A:Around}{E:Value->Shared->Prop}{s:Shared}{κ:SortKind}{a₀:Array Keyed}{k:Keyed->Int}
theorem WO {st:SortSt}{Q:Unit->SortSt->Prop}(C:Cmp prog w A s κ a₀ k)(hB:TB κ a₀ st)(hp:pendingOf st=#[])(h2:2<=a₀.size)(h128:a₀.size<64)
 (h:∀ st',TB κ a₀ st'->SrtA k (arrOf st')->Q () st'):wpS (model prog w) A E s sortRuns' Q st:=by
 have r1:=XC h2 h128
 rw [sortRuns'_eq]
 refine wpS_bind (wpS_get ?_)
 dsimp only
 rw [hB.size,r1]
 refine wpS_bind (wpS_mono (wpS_forRange
  (I:=fun x c sx=>TB κ a₀ sx/\((x=0/\c=(none,0)/\pendingOf sx=#[])\/(1<=x/\c=(none,a₀.size)/\SrtA k (arrOf sx)/\∃ p,pendingOf sx=#[(0,a₀.size,p)])))
  (Q:=fun c sx=>TB κ a₀ sx/\c=(none,a₀.size)/\SrtA k (arrOf sx)/\∃ p,pendingOf sx=#[(0,a₀.size,p)]) ?_ ?_ ⟨hB,.inl ⟨rfl,rfl,hp⟩⟩) ?_)
 · rintro x c sx _ hx ⟨tb,⟨rfl,rfl,pe⟩|⟨x1,rfl,so,p,pe⟩⟩
   · dsimp only
     rw [if_neg (by omega)]
     simp only [Nat.sub_zero,Nat.zero_add]
     refine wpS_bind (YL C (by omega) (by omega) tb fun m sy tb1 sm m1 m2 so=>?_)
     dsimp only
     have pe1:pendingOf sy=#[]:=sm.pend.trans pe
     by_cases c1:m<a₀.size
     · rw [if_pos c1]
       refine wpS_bind (wpS_lift (wpAny_rule ⟨rfl,?_⟩))
       have em:min a₀.size a₀.size=a₀.size:=Nat.min_self _
       refine wpS_bind (YM C (by omega) (by omega) tb1 so fun sz tb2 sm2 so2=>?_)
       simp only [Bool.not_true,Bool.false_eq_true,if_false]
       refine wpS_bind (wpS_get ?_)
       have pe2:pendingOf sz=#[]:=sm2.pend.trans pe1
       have hb:(pendingOf sz).back?=none:=by rw [pe2];rfl
       rw [hb]
       dsimp only
       rw [em] at so2 ⊢
       exact wpS_bind (wpS_modify (wpS_pure ⟨⟨tb2.perm,tb2.kind,tb2.ok⟩,.inr ⟨Nat.le_refl _,rfl,(fun i j h0 hij hj=>so2 i j h0 hij (by rw [show (arrOf sz).size=a₀.size from tb2.size] at hj;exact hj)),0,by show (pendingOf sz).push _=_;rw [pe2];rfl⟩⟩))
     · rw [if_neg c1]
       have e:m=a₀.size:=by omega
       subst e
       refine wpS_bind (wpS_get ?_)
       have hb:(pendingOf sy).back?=none:=by rw [pe1];rfl
       rw [hb]
       dsimp only
       exact wpS_bind (wpS_modify (wpS_pure ⟨⟨tb1.perm,tb1.kind,tb1.ok⟩,.inr ⟨Nat.le_refl _,rfl,(fun i j h0 hij hj=>so i j h0 hij (by rw [show (arrOf sy).size=a₀.size from tb1.size] at hj;exact hj)),0,by show (pendingOf sy).push _=_;rw [pe1];rfl⟩⟩))
   · dsimp only
     rw [if_pos (Nat.le_refl _)]
     exact wpS_pure ⟨tb,rfl,so,p,pe⟩
 · rintro c sx ⟨tb,⟨h0,_⟩|⟨_,e,so,p,pe⟩⟩
   · omega
   · exact ⟨tb,e,so,p,pe⟩
 rintro c sx ⟨tb,rfl,so,p,pe⟩
 dsimp only
 refine wpS_bind (wpS_mono (wpS_forRange (I:=fun _ c sy=>sy=sx/\c=(none,())) (Q:=fun c sy=>sy=sx/\c=(none,())) ?_ (fun _ _ z=>z) ⟨rfl,rfl⟩) ?_)
 · rintro y c sy _ _ ⟨rfl,rfl⟩
   refine wpS_bind (wpS_get ?_)
   rw [if_pos (by rw [pe];exact Nat.le_refl 1)]
   exact wpS_pure ⟨rfl,rfl⟩
 · rintro c sy ⟨rfl,rfl⟩
   exact wpS_pure (h _ tb so)
end
def CH (p:Int):List Int->Int
 | []=>p
 | a::ns=>CH (p*18446744073709551616+a) ns
def II:List Int->List Int->Bool
 | a::ns,c::ms=>decide (a<c)||(decide (a=c)&&II ns ms)
 | _,_=>false
def BM (z:Int):Prop:=-1000000000000000000<z/\z<1000000000000000000
theorem VR:∀ (ns ms:List Int) (p q:Int),ns.length=ms.length->(∀ z∈ns,BM z)->(∀ z∈ms,BM z)->(CH p ns<CH q ms↔p<q\/(p=q/\II ns ms=true))
 | [],[],p,q,_,_,_=>by
   show p<q↔_
   simp [II]
 | a::ns,c::ms,p,q,hl,hn,hm=>by
   have h1:=hn a (List.mem_cons_self ..)
   have h2:=hm c (List.mem_cons_self ..)
   have ih:=VR ns ms (p*18446744073709551616+a) (q*18446744073709551616+c) (by simpa using hl) (fun z hz=>hn z (List.mem_cons_of_mem _ hz)) fun z hz=>hm z (List.mem_cons_of_mem _ hz)
   show CH (p*18446744073709551616+a) ns<CH (q*18446744073709551616+c) ms↔_
   rw [ih]
   clear ih hn hm hl
   unfold BM at h1 h2
   show _↔p<q\/(p=q/\(decide (a<c)||(decide (a=c)&&II ns ms))=true)
   simp only [Bool.or_eq_true,Bool.and_eq_true,decide_eq_true_eq]
   cases II ns ms
   · simp only [Bool.false_eq_true,and_false,or_false]
     rcases Int.lt_trichotomy p q with z|z|z<;>omega
   · simp only [and_true]
     rcases Int.lt_trichotomy p q with z|z|z<;>rcases Int.lt_trichotomy a c with y|y|y<;>omega
theorem RY:∀ (ns ms:List Int) (p q:Int),ns.length=ms.length->(∀ z∈ns,BM z)->(∀ z∈ms,BM z)->CH p ns=CH q ms->p=q/\ns=ms
 | [],[],p,q,_,_,_,h=>⟨h,rfl⟩
 | a::ns,c::ms,p,q,hl,hn,hm,h=>by
   have h1:=hn a (List.mem_cons_self ..)
   have h2:=hm c (List.mem_cons_self ..)
   obtain ⟨e1,e2⟩:=RY ns ms (p*18446744073709551616+a) (q*18446744073709551616+c) (by simpa using hl) (fun z hz=>hn z (List.mem_cons_of_mem _ hz)) (fun z hz=>hm z (List.mem_cons_of_mem _ hz)) h
   unfold BM at h1 h2
   have e3:p=q/\a=c:=by rcases Int.lt_trichotomy p q with z|z|z<;>omega
   exact ⟨e3.1,by rw [e3.2,e2]⟩
structure TupZ (h:Heap)(v:Value)(ns:List Int):Prop where
 ex:∃ a o xs n,v=.ref a/\h.get? a=some o/\o.cls=.type "tuple"/\o.data=.seq xs n/\IntsAre xs.toList ns
section
variable {prog:Program}{w:World}{A:Around}{E:Value->Shared->Prop}{s:Shared}
theorem WX {b:Bool}{x y:Int}{t u:Tok}{Q:Bool->Shared->Prop}(h:Q (decide (x<y)) s):wpAny (model prog w) A (oneLt' b (.int x t) (.int y u)) Q E s:=by
 cases b
 · refine PySem.W.kat_one _ _ ?_
   exact CmpOf.ints_lt (prog:=prog) (w:=w) (A:=A) (P:=fun i v=>∃ t,v=.int (if i=0 then x else y) t) (fun i=>if i=0 then x else y) (fun i v h=>h) 0 1 _ _ _ _ _ ⟨t,rfl⟩ ⟨u,rfl⟩ h
 · exact oneLt_int h
theorem KD {b:Bool}{Q:Bool->Shared->Prop}:∀ {xs ys:List Value} {ns ms:List Int} (i:Nat),IntsAre xs ns->IntsAre ys ms->ns.length=ms.length->Q (II ns ms) s->PySem.W.KatLex prog w A b false Q (xs.zip ys) i s
 | _,_,_,_,i,.nil,.nil,_,h=>PySem.W.kat_nil h
 | _,_,_,_,i,.cons a t hx,.cons c u hy,hl,h=>by
   rw [List.zip_cons_cons]
   refine PySem.W.kat_cons (wpAny_eqBool_int ?_)
   unfold II at h
   by_cases e:a=c
   · subst e
     rw [show (a==a)=true by simp]
     refine PySem.W.kat_yes (KD (i+1) hx hy (by simpa using hl) ?_)
     simpa using h
   · rw [show (a==c)=false by simpa using e]
     refine PySem.W.kat_no (WX ?_)
     have:decide (a=c)=false:=by simpa using e
     rw [this] at h
     simpa using h
theorem RS {vs:List Value}{ns:List Int}(h:IntsAre vs ns):vs.length=ns.length:=by
 induction h with
 | nil=>rfl
 | cons n t _ ih=>simp [ih]
theorem J3w {b:Bool}{x y:Value}{ns ms:List Int}{Q:Bool->Shared->Prop}(hx:TupZ s.heap x ns)(hy:TupZ s.heap y ms)(hl:ns.length=ms.length)(h:Q (II ns ms) s):wpAny (model prog w) A (keyLt' (tuples' b) x y) Q E s:=by
 obtain ⟨a,o,xs,n,rfl,g1,c1,d1,i1⟩:=hx
 obtain ⟨a',o',ys,n',rfl,g2,c2,d2,i2⟩:=hy
 refine PySem.W.kat_lt g1 d1 g2 d2 ?_
 have e:decide (xs.size<ys.size)=false:=by
  have z1:=RS i1
  have z2:=RS i2
  simp at z1 z2
  simp;omega
 rw [e]
 exact KD 0 i1 i2 hl h
theorem XI {vs:List Value}{rows:Value->List Int}{Q:SortKind->Shared->Prop}(ht:∀ v∈vs,TupZ s.heap v (rows v))(hp:∀ v∈vs,rows v≠[])(hne:0<vs.length)(h:Q (tuples' true) s):wpAny (model prog w) A (keyKind' vs.toArray) Q E s:=by
 have mk:∀ vs:List Value,(∀ v∈vs,TupZ s.heap v (rows v))->(∀ v∈vs,rows v≠[])->∃ fs,PySem.W.KatTups s.heap vs fs/\fs.length=vs.length/\∀ v∈fs,∃ n t,v=Value.int n t:=by
  intro vs
  induction vs with
  | nil=>exact fun _ _=>⟨[],PySem.W.KatTups.nil,rfl,by simp⟩
  | cons v vs ih =>
    intro ht hp
    obtain ⟨fs,k1,k2,k3⟩:=ih (fun v hv=>ht v (List.mem_cons_of_mem _ hv)) fun v hv=>hp v (List.mem_cons_of_mem _ hv)
    obtain ⟨a,o,xs,n,e,g1,c1,d1,i1⟩:=(ht v (List.mem_cons_self ..)).ex
    have hr:=hp v (List.mem_cons_self ..)
    generalize rows v=r at hr i1
    generalize hx:xs.toList=l at i1
    cases i1 with
    | nil=>exact absurd rfl hr
    | cons m t i2 =>
      refine ⟨.int m t::fs,?_,by simp [k2],fun v hv=>?_⟩
      · rw [e]
        exact PySem.W.KatTups.cons g1 c1 d1 (by rw [<- Array.getElem?_toList,hx];rfl) k1
      · rcases List.mem_cons.mp hv with rfl|hv
        · exact ⟨m,t,rfl⟩
        · exact k3 v hv
 obtain ⟨fs,k1,k2,k3⟩:=mk vs ht hp
 refine PySem.W.kat_kind (T:=.type "int") k1 (by omega) (fun v hv=>?_) (by decide) ?_
 · obtain ⟨n,t,rfl⟩:=k3 v hv
   exact PySem.W.Looks.of_pure rfl
 · exact h
theorem MG {a:Addr}{vs:List Value}{n m:Nat}{rows:Value->List Int}{P:Fin->Shared->Prop}(gl:s.heap.get? a=some (seqObj "list" vs.toArray n))
 (ht:∀ v∈vs,TupZ s.heap v (rows v)) (hm:∀ v∈vs,(rows v).length=m/\∀ z∈rows v,BM z) (m0:0<m) (h64:vs.length<64)
 (h:∀ out:Array Value,out.toList.Perm vs->out.toList.Pairwise (fun x y=>CH 0 (rows x)<=CH 0 (rows y))->P (.done (.ret .none)) { s with heap:=sortedHeap s.heap a vs out }) :
 wpAny (model prog w) A (Builtin.«list.sort» ⟨[.ref a],[]⟩) P E s:=by
 rw [list_sort_plain]
 have al:a<s.heap.objs.size:=Heap.lt_size gl
 refine wpAny_bind (listItems_at gl rfl ?_)
 refine wpAny_bind (listUpdate_at gl rfl ?_)
 obtain ⟨ep1,gl1⟩:∃ ep1,(s.heap.update a (Obj.mapSeq fun _=>#[])).get? a=some (seqObj "list" #[] ep1):=⟨_,get?_update_seq gl (fun _=>#[])⟩
 refine wpAny_bind (seqEpoch_at gl1 rfl ?_)
 refine wpAny_bind (wpAny_newTuple ?_)
 refine wpAny_bind (wpAny_newList ?_)
 refine wpAny_holding ?_
 have keep:∀ b o,b≠a->s.heap.get? b=some o->(((s.heap.update a (Obj.mapSeq fun _=>#[])).push (seqObj "tuple" vs.toArray 0)).push (seqObj "list" #[] 0)).get? b=some o:=fun b o hb g=>by
  refine Heap.get?_push_of_some _ (Heap.get?_push_of_some _ ?_)
  rw [Heap.get?_update_ne _ _ _ _ hb]
  exact g
 have gl6:(((s.heap.update a (Obj.mapSeq fun _=>#[])).push (seqObj "tuple" vs.toArray 0)).push (seqObj "list" #[] 0)).get? a=some (seqObj "list" #[] ep1):=Heap.get?_push_of_some _ (Heap.get?_push_of_some _ gl1)
 have ht6:∀ v∈vs,TupZ (((s.heap.update a (Obj.mapSeq fun _=>#[])).push (seqObj "tuple" vs.toArray 0)).push (seqObj "list" #[] 0)) v (rows v):=fun v hv=>by
  obtain ⟨b,o,xs,n',e,g1,c1,d1,i1⟩:=ht v hv
  refine ⟨b,o,xs,n',e,keep b o (fun z=>?_) g1,c1,d1,i1⟩
  rw [z,gl] at g1
  cases g1
  exact absurd c1 (by simp [seqObj])
 show wpAny (model prog w) A _ P E { s with heap:=((s.heap.update a (Obj.mapSeq fun _=>#[])).push (seqObj "tuple" vs.toArray 0)).push (seqObj "list" #[] 0) }
 dsimp only
 have sz0:vs.toArray.size=vs.length:=by simp
 have fin:∀ xs:Array Keyed,xs.Perm (pairsOf vs)->SrtA (fun p=>CH 0 (rows p.1)) xs->P (.done (.ret .none)) { s with heap:=sortedHeap s.heap a vs (xs.map (·.2)) }:=fun xs hp hs=>by
  have zl:xs.toList.Perm (vs.zip vs):=by rw [<- pairsOf_toList];exact Array.perm_iff_toList_perm.mp hp
  have both:∀ p,p∈xs.toList->p.1=p.2:=fun p hp'=>(mem_zip_self (zl.mem_iff.mp hp')).1
  have e:(xs.map (·.2)).toList=xs.toList.map (·.1):=by
   rw [Array.toList_map];exact List.map_congr_left fun p hp'=>(both p hp').symm
  refine h _ ?_ ?_
  · rw [e]
    have:=zl.map Prod.fst
    rwa [List.map_fst_zip (Nat.le_refl _)] at this
  · rw [e,List.pairwise_iff_getElem]
    intro i j hi hj hij
    have ib:i<xs.size:=by simpa using hi
    have jb:j<xs.size:=by simpa using hj
    have q:=hs.le (Nat.le_of_lt hij) jb
    rw [VG ib,VG jb] at q
    simpa using q
 by_cases h2:vs.toArray.size<2
 · rw [if_pos h2,if_pos h2]
   refine wpAny_bind (wpAny_pure ?_)
   rw [StateT.run_pure]
   refine wpAny_bind (wpAny_pure ?_)
   dsimp only
   refine wpAny_bind (seqEpoch_at gl6 rfl ?_)
   refine wpAny_bind (listUpdate_at gl6 rfl ?_ (hsz2:=by rw [Array.size_map];show (pairsOf vs).size<=_;rw [pairsOf_size,sizeLine_eq];omega))
   simp only [bne_self_eq_false,Bool.false_eq_true,if_false]
   refine wpAny_pure (fin (vs.toArray.zip vs.toArray) (Array.Perm.refl _) ?_)
   intro i j _ hij hj
   have z:(vs.toArray.zip vs.toArray).size=vs.length:=pairsOf_size vs
   have:i=j:=by omega
   subst this;exact Int.le_refl _
 · rw [if_neg h2,if_neg h2]
   refine wpAny_bind (XI ht6 (fun v hv (z:rows v=[])=>by have:=(hm v hv).1;rw [z] at this;simp at this;omega) (by omega) ?_)
   have C:Cmp prog w A { s with heap:=((s.heap.update a (Obj.mapSeq fun _=>#[])).push (seqObj "tuple" vs.toArray 0)).push (seqObj "list" #[] 0) } (tuples' true) (pairsOf vs) (fun p=>CH 0 (rows p.1)):=⟨fun x hx y hy E' Q q=>by
    rw [pairsOf_toList] at hx hy
    have mx:=(mem_zip_self hx).2
    have my:=(mem_zip_self hy).2
    refine J3w (ht6 _ mx) (ht6 _ my) (by rw [(hm _ mx).1,(hm _ my).1]) ?_
    have:=VR (rows x.1) (rows y.1) 0 0 (by rw [(hm _ mx).1,(hm _ my).1]) (hm _ mx).2 (hm _ my).2
    have e:II (rows x.1) (rows y.1)=decide (CH 0 (rows x.1)<CH 0 (rows y.1)):=by
     rw [Bool.eq_iff_iff,decide_eq_true_eq,this]
     simp
    rw [e]
    exact q⟩
   have zp:(pairsOf vs).size=vs.length:=pairsOf_size vs
   refine wpAny_bind (wpAny_mono (WO (E:=E) (a₀:=pairsOf vs) (st:=SortSt.mk' (tuples' true) (vs.toArray.zip vs.toArray) #[] 7 none)
    (Q:=fun _ st'=>TB (tuples' true) (pairsOf vs) st'/\SrtA (fun p=>CH 0 (rows p.1)) (arrOf st')) C ⟨Array.Perm.refl _,rfl,rfl⟩ rfl (by omega) (by omega) fun st' a1 a2=>⟨a1,a2⟩) ?_ fun _ _ e=>e)
   rintro ⟨⟨⟩,st'⟩ s' ⟨rfl,tb,hs⟩
   dsimp only
   refine wpAny_bind (seqEpoch_at gl6 rfl ?_)
   refine wpAny_bind (listUpdate_at gl6 rfl ?_ (hsz2:=by refine Nat.le_trans (Nat.le_of_eq ((Array.size_map ..).trans (tb.size.trans (pairsOf_size _)))) ?_;rw [sizeLine_eq];omega))
   rw [tb.ok]
   simp only [bne_self_eq_false,Bool.false_eq_true,if_false]
   exact wpAny_pure (fin (arrOf st') tb.perm hs)
end
section
variable {prog:Program}{w:World}{A:Around}{E:Value->Shared->Prop}{s:Shared}
theorem RZ {it l:Addr}{items:Array Value}(hne:l≠it):∀ (n i:Nat) (s:Shared) (Q:List Value->Shared->Prop),s.heap.IsListIter it l i->s.heap.IsList l items->i+n<=items.size ->
 (∀ h',h'.IsListIter it l (i+n)->Heap.SameBut it s.heap h'->Q ((items.toList.drop i).take n) { s with heap:=h' })->wpAny (model prog w) A (draw (.ref it) n) Q E s
 | 0,i,s,Q,hit,_,_,hQ=>by
   show wpAny _ _ (pure []) Q E s;exact wpAny_pure (by simpa using hQ s.heap hit (Heap.SameBut.refl ..))
 | n+1,i,s,Q,hit,ht,hle,hQ=>by
   have hlt:i<items.size:=by omega
   show wpAny _ _ (pyNext (.ref it) >>= _) Q E s;refine wpAny_bind (wpAny_pyNext_list_item hit ht (x:=items[i]) (by simp [hlt]) fun h₁ hit₁ hs₁=>?_)
   have ht1:h₁.IsList l items:=by
    obtain ⟨o,e,r⟩:=ht
    exact ⟨o,(hs₁.2 l hne).trans e,r⟩
   refine wpAny_bind (wpAny_holding (RZ hne n (i+1) _ _ hit₁ ht1 (by omega) fun h₂ hit₂ hs₂=>wpAny_pure ?_))
   have hd:items.toList.drop i=items[i]::items.toList.drop (i+1):=by simp [List.drop_eq_getElem_cons,hlt]
   have:=hQ h₂ (by rw [show i+(n+1)=i+1+n by omega];exact hit₂) (hs₁.trans hs₂)
   rw [hd,List.take_succ_cons] at this
   exact this
theorem KN {l:Addr}{items:Array Value}{Q:List Value->Shared->Prop}(hh:A.handled=none)(ht:s.heap.IsList l items)
 (hQ:∀ h',Heap.ExtBut s.heap.objs.size s.heap h'->Q items.toList { s with heap:=h' }):wpAny (model prog w) A (unpackItems (.ref l) items.size none) Q E s:=by
 have hlt:l≠s.heap.objs.size:=by obtain ⟨o,ho,_⟩:=ht;exact Nat.ne_of_lt (Heap.lt_size ho)
 have ty:s.TypeIs (.ref l) "list":=by obtain ⟨o,ho,hc,_⟩:=ht;exact ⟨o,ho,hc⟩
 unfold unpackItems;refine wpAny_bind ?_
 unfold notIterableAtAll;refine wpAny_bind (wpAny_specialOf ty slot_list_iter.lookup ?_)
 refine wpAny_pure ?_;simp only [Bool.false_eq_true,if_false]
 refine wpAny_bind (wpAny_holding (wpAny_pyIter_list ht ?_))
 have hp:∀ ob:Obj,(s.heap.push ob).IsList l items:=fun ob=>by
  obtain ⟨o,e,r⟩:=ht
  exact ⟨o,Heap.get?_push_of_some _ e,r⟩
 refine wpAny_bind (wpAny_holding (RZ hlt items.size 0 _ _ ⟨_,Heap.get?_push_size _ rfl,rfl,rfl⟩ (hp _) (by omega) fun h₁ hit₁ hs₁=>?_))
 have hall:List.take items.size (List.drop 0 items.toList)=items.toList:=by rw [List.drop_zero];exact List.take_of_length_le (by simp)
 rw [hall,if_neg (by simp)]
 have ht₁:h₁.IsList l items:=by
  obtain ⟨o,e,r⟩:=ht
  exact ⟨o,(hs₁.2 l hlt).trans (Heap.get?_push_of_some _ e),r⟩
 refine wpAny_bind (wpAny_holding (wpAny_pyNext_list_end hh hit₁ ht₁ (by simp) fun h₂ he₂=>?_))
 simp only [Option.isSome_none,Bool.false_eq_true,if_false]
 refine wpAny_pure (hQ h₂ fun b o hb e=>he₂ b o hb (hs₁.extBut b o hb (Heap.get?_push_of_some _ e)))
end
section
variable {X:Cx}
def Q1q (K:Fg)(n:Nat)(t:TGs):TG:=fun v σ H Q=>∃ a xs,v=.ref a/\SqL K H a xs/\xs.length=n/\t xs σ H Q
theorem BZ {es:List Expr}{k:Nat}{t:TGs}{n:Nat}{pos:Pos}(K:Fg)(hK:X.K=K)(hc:X.calm=true)(h:PGs X es t)(hn:(assignEach es X.env).length=n:=by rfl)(hst:(assignEach es X.env).findIdx? (·.1)=none:=by rfl):PG X (.Tuple es k pos) (Q1q K n t):=by
 subst hK
 intro pins s σ H v u Q I r hw
 obtain ⟨a,xs,e1,hq,hl,hw⟩:=hw
 subst e1
 cases r
 obtain ⟨its,rv,p,hz⟩:=I.list hq
 have hl':its.toArray.size=n:=by simp [<- hl,rv.length]
 rw [assign_Tuple];refine wpAny_bind (wpAny_standAt ?_)
 unfold unpack;rw [hn,hst,<- hl']
 refine wpAny_bind (wpAny_holding (KN (I.ok.hd hc) p.isList fun h' hx=>?_))
 have I1:Inv X pins σ H { s with heap:=h' }:=I.kept (t':=s.toks) fun b o e=>hx b o (Nat.ne_of_lt (Heap.lt_size e)) e
 exact h pins _ σ H xs _ Q I1 (by simpa using rv) hw
end
structure Frg where
 ads:List Addr
 R:(Addr->Prop)->Hp->V->Prop
 keep:∀ M H H' v,(∀ c o,(¬ M c\/c∈ads)->H c=some o->H' c=some o)->R M H v->R M H' v
 avoid:∀ M M' H v,(∀ c,M' c->M c\/H c=none)->R M H v->R M' H v
 ref:∀ M H v,R M H v->∃ a,v=.ref a
 nt:∀ M H v,R M H v->∀ c∈ads,∃ o,H c=some o/\∀ vs,o≠.tup vs
abbrev Tg:=List (List Int×Addr×Value)×Nat
inductive D where
 | non|bl (b:Bool)|int (i:Int)|str (x:Str)|ty (n:String)|adr (a:Addr)
 | tup (xs:List D)|lst (xs:List D)|own (xs:List D)|bag|scr (ns:List Int)|dct (t:Tg) (ks:List (List Int)) (xs:List D)|frg (f:Frg) (d:D)
structure BagT where
 ok:Addr->Hp->Prop
 st:∀ p H H',ok p H->(∀ o,H p=some o->H' p=some o)->ok p H'
 dm:∀ p H,ok p H->∃ o,H p=some o
def KTp (K:Fg)(a:Addr)(xs:List V):Prop:=∃ (o:Obj) (its:Array Value) (n:Nat),K.lookup a=some o/\o.cls=.type "tuple"/\o.data=.seq its n/\its.size<=sizeLine/\Vals xs its.toList
def TpA (K:Fg)(M:Addr->Prop)(H:Hp)(a:Addr)(vs:List V):Prop:=(¬ M a/\H a=some (.tup vs))\/KTp K a vs
theorem TpA.sq {H:Hp}{a:Addr}{vs:List V}(h:TpA K M H a vs):SqT K H a vs:=h.elim (fun z=>.inl (.inl z.2)) .inr
theorem TpA.keep {H H':Hp}{a:Addr}{vs:List V}(k:∀ b o,¬ M b->H b=some o->H' b=some o)(h:TpA K M H a vs):TpA K M H' a vs:=h.imp (fun z=>⟨z.1,k _ _ z.1 z.2⟩) id
theorem TpA.avoid {M M':Addr->Prop}{H:Hp}{a:Addr}{vs:List V}(k:∀ b,M' b->M b\/H b=none)(h:TpA K M H a vs):TpA K M' H a vs:=by
 refine h.imp (fun z=>⟨fun m=>?_,z.2⟩) id
 rcases k a m with n|n
 · exact z.1 n
 · rw [n] at z;cases z.2
def KL (K:Fg)(a:Addr)(xs:List V):Prop:=∃ (o:Obj) (its:Array Value) (n:Nat),K.lookup a=some o/\o.cls=.type "list"/\o.dict=none/\o.data=.seq its n/\its.size<=sizeLine/\Vals xs its.toList
def tkH (ns:List Int):Int:=reduceHash (Builtin.Tuple.tupleHashOf (ns.map hashInt))
def Q3f (x:List Int×Addr×Value):DictEntry:=⟨tkH x.1,.ref x.2.1,x.2.2⟩
def DOb (a:Addr)(es:List (List Int×Addr×Value))(ep:Nat):HO:=.ext fun h=>((a==sysModules)=false/\es.length<=sizeLine/\(es.map (·.1)).Nodup)/\∃ (o:Obj) (ds:Array DictEntry),h.get? a=some o/\o.ExactDict/\o.data=.dict ds ep/\ds.toList=es.map Q3f
def DctE (K:Fg)(M:Addr->Prop)(H:Hp)(es:List (List Int×Addr×Value))(ks:List (List Int))(vs:List V):Prop:=es.map (·.1)=ks/\(∀ e∈es,TpA K M H e.2.1 (e.1.map V.int))/\Vals vs (es.map (·.2.2))
theorem DctE.keep {H H':Hp}{es:List (List Int×Addr×Value)}{ks:List (List Int)}{vs:List V}(k:∀ b o,¬ M b->H b=some o->H' b=some o)(h:DctE K M H es ks vs):DctE K M H' es ks vs:=⟨h.1,fun e m=>(h.2.1 e m).keep k,h.2.2⟩
theorem DctE.avoid {M M':Addr->Prop}{H:Hp}{es:List (List Int×Addr×Value)}{ks:List (List Int)}{vs:List V}(k:∀ b,M' b->M b\/H b=none)(h:DctE K M H es ks vs):DctE K M' H es ks vs:=⟨h.1,fun e m=>(h.2.1 e m).avoid k,h.2.2⟩
mutual
def Rep (K:Fg)(M:Addr->Prop)(H:Hp):D->V->Prop
 | .non,v=>v=.non
 | .bl b,v=>v=.bl b
 | .int i,v=>v=.int i
 | .str x,v=>v=.str x
 | .ty n,v=>v=.ty n
 | .adr a,v=>v=.ref a
 | .tup xs,v=>∃ a vs,v=.ref a/\TpA K M H a vs/\Reps K M H xs vs
 | .lst xs,v=>∃ a vs,v=.ref a/\(¬ M a/\H a=some (.lst vs))/\Reps K M H xs vs
 | .own _,_=>False
 | .bag,_=>False
 | .frg _ _,_=>False
 | .scr ns,v=>∃ a,v=.ref a/\((¬ M a/\Rd H a (.lst (ns.map V.int)))\/KL K a (ns.map V.int))
 | .dct t ks xs,v=>∃ (a:Addr) (vs:List V),v=.ref a/\(¬ M a/\H a=some (DOb a t.1 t.2)/\DctE K M H t.1 ks vs)/\Reps K M H xs vs
def Reps (K:Fg)(M:Addr->Prop)(H:Hp):List D->List V->Prop
 | [],vs=>vs=[]
 | d::ds,vs=>∃ v r,vs=v::r/\Rep K M H d v/\Reps K M H ds r
end
theorem Rd.keep {H H':Hp}{a:Addr}{u:HO}(k:∀ o,H a=some o->H' a=some o)(h:Rd H a u):Rd H' a u:=by
 rcases h with h|⟨o,h⟩
 · exact .inl (k _ h)
 · exact .inr ⟨o,k _ h⟩
theorem Rd.some {H:Hp}{a:Addr}{u:HO}(h:Rd H a u):H a≠none:=by
 rcases h with h|⟨o,h⟩<;>rw [h]<;>simp
section
variable {K:Fg}{M M':Addr->Prop}{H H':Hp}
mutual
theorem Rep.keep (k:∀ b o,¬ M b->H b=some o->H' b=some o):∀ (d:D) (v:V),Rep K M H d v->Rep K M H' d v
 | .non,_,h=>h
 | .bl _,_,h=>h
 | .int _,_,h=>h
 | .str _,_,h=>h
 | .ty _,_,h=>h
 | .adr _,_,h=>h
 | .tup xs,v,h=>by
   obtain ⟨a,vs,e,z,r⟩:=h
   exact ⟨a,vs,e,z.keep k,Reps.keep k xs vs r⟩
 | .lst xs,v,h=>by
   obtain ⟨a,vs,e,z,r⟩:=h
   exact ⟨a,vs,e,⟨z.1,k _ _ z.1 z.2⟩,Reps.keep k xs vs r⟩
 | .own _,_,h=>h
 | .bag,_,h=>h
 | .frg _ _,_,h=>h
 | .scr ns,v,h=>by
   obtain ⟨a,e,z⟩:=h
   exact ⟨a,e,z.imp (fun q=>⟨q.1,q.2.keep fun o=>k a o q.1⟩) id⟩
 | .dct t ks xs,v,h=>by
   obtain ⟨a,vs,e,z,r⟩:=h
   exact ⟨a,vs,e,⟨z.1,k _ _ z.1 z.2.1,z.2.2.keep k⟩,Reps.keep k xs _ r⟩
theorem Reps.keep (k:∀ b o,¬ M b->H b=some o->H' b=some o):∀ (ds:List D) (vs:List V),Reps K M H ds vs->Reps K M H' ds vs
 | [],_,h=>h
 | d::ds,vs,h=>by
   obtain ⟨v,r,e,h1,h2⟩:=h
   exact ⟨v,r,e,Rep.keep k d v h1,Reps.keep k ds r h2⟩
end
mutual
theorem Rep.avoid (k:∀ b,M' b->M b\/H b=none):∀ (d:D) (v:V),Rep K M H d v->Rep K M' H d v
 | .non,_,h=>h
 | .bl _,_,h=>h
 | .int _,_,h=>h
 | .str _,_,h=>h
 | .ty _,_,h=>h
 | .adr _,_,h=>h
 | .tup xs,v,h=>by
   obtain ⟨a,vs,e,z,r⟩:=h
   exact ⟨a,vs,e,z.avoid k,Reps.avoid k xs vs r⟩
 | .lst xs,v,h=>by
   obtain ⟨a,vs,e,z,r⟩:=h
   refine ⟨a,vs,e,⟨fun m=>?_,z.2⟩,Reps.avoid k xs vs r⟩
   rcases k a m with n|n
   · exact z.1 n
   · rw [n] at z;cases z.2
 | .own _,_,h=>h
 | .bag,_,h=>h
 | .frg _ _,_,h=>h
 | .scr ns,v,h=>by
   obtain ⟨a,e,z⟩:=h
   refine ⟨a,e,z.imp (fun q=>⟨fun m=>?_,q.2⟩) id⟩
   rcases k a m with n|n
   · exact q.1 n
   · exact q.2.some n
 | .dct t ks xs,v,h=>by
   obtain ⟨a,vs,e,z,r⟩:=h
   refine ⟨a,vs,e,⟨fun m=>?_,z.2.1,z.2.2.avoid k⟩,Reps.avoid k xs _ r⟩
   rcases k a m with n|n
   · exact z.1 n
   · rw [n] at z;cases z.2.1
theorem Reps.avoid (k:∀ b,M' b->M b\/H b=none):∀ (ds:List D) (vs:List V),Reps K M H ds vs->Reps K M' H ds vs
 | [],_,h=>h
 | d::ds,vs,h=>by
   obtain ⟨v,r,e,h1,h2⟩:=h
   exact ⟨v,r,e,Rep.avoid k d v h1,Reps.avoid k ds r h2⟩
end
end
abbrev Ev:=List (Option D)
structure Wd where
 K:Fg
 B:BagT
 H0:Hp
 M0:Addr->Prop
 b0:Option Addr
def okB (B:BagT)(b:Option Addr)(H:Hp):Prop:=∀ p,b=some p->B.ok p H
def Kp (b:Option Addr)(H H':Hp):Prop:=∀ c o,b≠some c->H c=some o->H' c=some o
theorem Kp.refl (b:Option Addr)(H:Hp):Kp b H H:=fun _ _ _ h=>h
theorem Kp.trans {H H1 H2:Hp}(x:Kp b H H1)(y:Kp b H1 H2):Kp b H H2:=fun c o n h=>y c o n (x c o n h)
theorem Kp.upd {H:Hp}{p:Addr}{o:HO}(h:H p=none):Kp b H (upd H p o):=fun c u _ e=>Same.upd h c u e
theorem Kp.same {H H':Hp}(h:Same H H'):Kp b H H':=fun c o _ e=>h c o e
def RepX (W:Wd)(M:Addr->Prop)(b:Option Addr)(H:Hp):D->V->Prop
 | .own xs,v=>∃ a vs,v=.ref a/\M a/\b≠some a/\W.H0 a=none/\¬ W.M0 a/\H a=some (.lst vs)/\Reps W.K M H xs vs
 | .bag,v=>∃ p,b=some p/\v=.ref p
 | .frg f d,v=>(∀ c∈f.ads,M c/\b≠some c/\W.H0 c=none/\¬ W.M0 c)/\f.R M H v/\Rep W.K (fun c=>M c/\c∉f.ads) H d v
 | d,v=>Rep W.K M H d v
def plain:D->Bool
 | .own _=>false
 | .bag=>false
 | .frg _ _=>false
 | _=>true
def AH:D->Bool
 | .own _=>false
 | .frg _ _=>false
 | _=>true
theorem RepX.rep {W:Wd} {H:Hp}{d:D}{v:V}(h:RepX W M b H d v)(p:plain d=true):Rep W.K M H d v:=by
 cases d<;>first|exact h|cases p
theorem Rep.x {W:Wd} {H:Hp}{d:D}{v:V}(h:Rep W.K M H d v):RepX W M b H d v:=by
 cases d<;>first|exact h|exact h.elim
def RepXs (W:Wd)(M:Addr->Prop)(b:Option Addr)(H:Hp):List D->List V->Prop
 | [],vs=>vs=[]
 | d::ds,vs=>∃ v r,vs=v::r/\RepX W M b H d v/\RepXs W M b H ds r
structure Hs (W:Wd)(M:Addr->Prop)(b:Option Addr)(H:Hp):Prop where
 ok:okB W.B b H
 bagM:∀ p,b=some p->M p
 dom:∀ c,M c->∃ o,H c=some o
 m0:∀ c,W.M0 c->M c
theorem RepX.move {W:Wd}{M M':Addr->Prop}{b b':Option Addr}{H H':Hp}{f:Frg}{d:D}{v:V}(h:RepX W M b H (.frg f d) v)(ow:∀ c∈f.ads,M c->b≠some c->M' c/\b'≠some c)(k:∀ c o,(¬ M' c\/c∈f.ads)->H c=some o->H' c=some o)(a:∀ c,M' c->M c\/H c=none):RepX W M' b' H' (.frg f d) v:=by
 refine ⟨fun c m=>?_,f.keep M' H H' v k (f.avoid M M' H v a h.2.1),Rep.keep (fun c o n e=>k c o ?_ e) _ _ (Rep.avoid (fun c m=>(a c m.1).imp (fun z=>⟨z,m.2⟩) id) _ _ h.2.2)⟩
 · obtain ⟨q1,q2,q3,q4⟩:=h.1 c m
   obtain ⟨z1,z2⟩:=ow c m q1 q2
   exact ⟨z1,z2,q3,q4⟩
 · by_cases z:c∈f.ads
   · exact .inr z
   · exact .inl fun m=>n ⟨m,z⟩
theorem RepX.step {W:Wd} {H H':Hp}{d:D}{v:V}(hb:∀ p,b=some p->M p)(k:Kp b H H')(h:RepX W M b H d v):RepX W M b H' d v:=by
 have k':∀ c o,¬ M c->H c=some o->H' c=some o:=fun c o n e=>k c o (fun z=>n (hb c z)) e
 cases d
 case own xs =>
  obtain ⟨a,vs,e,m,n,n0,m0,h1,h2⟩:=h
  exact ⟨a,vs,e,m,n,n0,m0,k _ _ n h1,Reps.keep k' _ _ h2⟩
 case bag=>exact h
 case frg f d=>exact RepX.move h (fun c m m1 n=>⟨m1,n⟩) (fun c o q e=>q.elim (fun n=>k' c o n e) fun m=>k c o (h.1 c m).2.1 e) fun c m=>.inl m
 all_goals exact Rep.keep k' _ _ h
theorem RepXs.reps {W:Wd} {H:Hp}:∀ (ds:List D) (vs:List V),RepXs W M b H ds vs->ds.all plain=true->Reps W.K M H ds vs
 | [],_,h,_=>h
 | d::ds,vs,h,p=>by
   obtain ⟨v,r,e,h1,h2⟩:=h
   simp only [List.all_cons,Bool.and_eq_true] at p
   exact ⟨v,r,e,h1.rep p.1,RepXs.reps ds r h2 p.2⟩
theorem Reps.length {H:Hp}:∀ (ds:List D) (vs:List V),Reps K M H ds vs->vs.length=ds.length
 | [],_,h=>by cases (show _=_ from h);rfl
 | d::ds,vs,h=>by
   obtain ⟨v,r,rfl,h1,h2⟩:=h
   simp [Reps.length ds r h2]
theorem Reps.get {H:Hp}:∀ {ds:List D} {vs:List V} {i:Nat} {d:D},Reps K M H ds vs->ds[i]?=some d->∃ v,vs[i]?=some v/\Rep K M H d v
 | [],_,_,_,h,e=>by simp at e
 | d::ds,vs,0,_,h,e=>by
   obtain ⟨v,r,rfl,h1,h2⟩:=h
   simp at e;subst e
   exact ⟨v,rfl,h1⟩
 | d::ds,vs,i+1,d',h,e=>by
   obtain ⟨v,r,rfl,h1,h2⟩:=h
   obtain ⟨u,e1,e2⟩:=Reps.get (i:=i) h2 (by simpa using e)
   exact ⟨u,by simpa using e1,e2⟩
theorem Reps.at {H:Hp}{ds:List D}{vs:List V}{i:Int}{d:D}(h:Reps K M H ds vs)(e:atI ds i=some d):∃ v,atI vs i=some v/\Rep K M H d v:=by
 unfold atI at *
 rw [h.length]
 cases q:ixN ds.length i with
 | none=>rw [q] at e;cases e
 | some j =>
   rw [q] at e
   exact Reps.get h e
theorem Reps.append {H:Hp}:∀ {ds es:List D} {vs us:List V},Reps K M H ds vs->Reps K M H es us->Reps K M H (ds++es) (vs++us)
 | [],_,_,_,h,h'=>by cases (show _=_ from h);exact h'
 | d::ds,_,_,_,h,h'=>by
   obtain ⟨v,r,rfl,h1,h2⟩:=h
   exact ⟨v,_,rfl,h1,Reps.append h2 h'⟩
theorem Reps.set {H:Hp}{d:D}{v:V}(h0:Rep K M H d v):∀ {ds:List D} {vs:List V} (j:Nat),Reps K M H ds vs->Reps K M H (ds.set j d) (vs.set j v)
 | [],_,_,h=>by cases (show _=_ from h);exact rfl
 | e::ds,_,0,h=>by
   obtain ⟨v',r,rfl,h1,h2⟩:=h
   exact ⟨v,r,rfl,h0,h2⟩
 | e::ds,_,j+1,h=>by
   obtain ⟨v',r,rfl,h1,h2⟩:=h
   exact ⟨v',_,rfl,h1,Reps.set h0 j h2⟩
theorem Reps.drop {H:Hp}:∀ {ds:List D} {vs:List V} (j:Nat),Reps K M H ds vs->Reps K M H (ds.drop j) (vs.drop j)
 | _,_,0,h=>h
 | [],_,_+1,h=>by cases (show _=_ from h);exact rfl
 | e::ds,_,j+1,h=>by
   obtain ⟨v',r,rfl,h1,h2⟩:=h
   exact Reps.drop j h2
theorem Reps.take {H:Hp}:∀ {ds:List D} {vs:List V} (j:Nat),Reps K M H ds vs->Reps K M H (ds.take j) (vs.take j)
 | _,_,0,h=>rfl
 | [],_,_+1,h=>by cases (show _=_ from h);exact rfl
 | e::ds,_,j+1,h=>by
   obtain ⟨v',r,rfl,h1,h2⟩:=h
   exact ⟨v',_,rfl,h1,Reps.take j h2⟩
def PinR (W:Wd)(M:Addr->Prop)(b:Option Addr)(H:Hp):D->V->Prop
 | .own xs,v=>RepX W M b H (.own xs) v
 | d,v=>Rep W.K M H d v
theorem PinR.x {W:Wd} {H:Hp}{d:D}{v:V}(h:PinR W M b H d v):RepX W M b H d v:=by
 cases d<;>first|exact h|exact h.elim
theorem RepX.pin {W:Wd} {H:Hp}{d:D}{v:V}(h:RepX W M b H d v)(p:plain d=true):PinR W M b H d v:=by
 cases d<;>first|exact h|cases p
theorem PinR.to {W:Wd}{M M':Addr->Prop}{b b':Option Addr}{H H':Hp}{d:D}{v:V}(h:PinR W M b H d v)(rep:∀ d v,Rep W.K M H d v->Rep W.K M' H' d v)(reps:∀ ds vs,Reps W.K M H ds vs->Reps W.K M' H' ds vs)(own:∀ xs a vs,d=.own xs->v=.ref a->M a->b≠some a->H a=some (.lst vs)->M' a/\b'≠some a/\H' a=some (.lst vs)):PinR W M' b' H' d v:=by
 cases d
 case own xs =>
  obtain ⟨a,vs,rfl,m1,m2,m3,m4,hh,r⟩:=h
  obtain ⟨q1,q2,q3⟩:=own xs a vs rfl rfl m1 m2 hh
  exact ⟨a,vs,rfl,q1,q2,m3,m4,q3,reps _ _ r⟩
 case bag=>exact h.elim
 all_goals exact rep _ _ h
def EY:D->V->Addr->Prop
 | .own _,v,c=>v=.ref c
 | .frg f _,_,c=>c∈f.ads
 | _,_,_=>False
def mine:D->Bool
 | .own _=>true
 | .frg _ _=>true
 | _=>false
theorem EY.m {d:D}{v:V}{c:Addr}(h:EY d v c):mine d=true:=by cases d<;>first|rfl|exact h.elim
theorem RepX.mine {W:Wd} {H:Hp}{d:D}{v:V}{c:Addr}(h:RepX W M b H d v)(m:EY d v c):M c/\b≠some c/\W.H0 c=none/\¬ W.M0 c:=by
 cases d
 case own xs =>
  obtain ⟨a,vs,e,m1,n,n0,m0,h1,h2⟩:=h
  cases (e.symm.trans (show v=.ref c from m))
  exact ⟨m1,n,n0,m0⟩
 case frg f d=>exact h.1 c m
 all_goals exact m.elim
structure Sta (W:Wd)(pn:List (D×V))(M:Addr->Prop)(b:Option Addr)(H:Hp)(σ:St)(ρ:Ev):Prop extends Hs W M b H where
 kp:Kp W.b0 W.H0 H
 new:b=W.b0\/(W.b0=none/\∀ p,b=some p->W.H0 p=none)
 env:∀ (i:Nat) d,ρ[i]?=some (some d)->∃ v,σ[i]?=some (some v)/\RepX W M b H d v
 len:ρ.length=σ.length
 pin:∀ q∈pn,PinR W M b H q.1 q.2
theorem Sta.step {W:Wd}{pn:List (D×V)} {H H':Hp}{σ:St}{ρ:Ev}(s:Sta W pn M b H σ ρ)(k:Kp b H H')(o:okB W.B b H'):Sta W pn M b H' σ ρ where
 ok:=o
 bagM:=s.bagM
 dom:=fun c m=>by
  by_cases z:b=some c
  · exact W.B.dm c H' (o c z)
  · obtain ⟨u,e⟩:=s.dom c m
    exact ⟨u,k c u z e⟩
 m0:=s.m0
 kp:=fun c u n e=>by
  refine k c u (fun z=>?_) (s.kp c u n e)
  rcases s.new with q|⟨_,q⟩
  · exact n (q▸z)
  · rw [q c z] at e;cases e
 new:=s.new
 env:=fun i d e=>by
  obtain ⟨v,e1,r⟩:=s.env i d e
  exact ⟨v,e1,r.step s.bagM k⟩
 len:=s.len
 pin:=fun q hq=>(s.pin q hq).to (fun _ _ r=>Rep.keep (fun c o n e=>k c o (fun z=>n (s.bagM c z)) e) _ _ r) (fun _ _ r=>Reps.keep (fun c o n e=>k c o (fun z=>n (s.bagM c z)) e) _ _ r) fun xs a vs _ _ m n hh=>⟨m,n,k _ _ n hh⟩
theorem Hs.new {W:Wd} {H:Hp}(s:Hs W M b H){p:Addr}(h:H p=none):¬ M p:=fun m=>by
 obtain ⟨o,e⟩:=s.dom p m
 rw [h] at e;cases e
theorem Hs.okU {W:Wd} {H:Hp}(s:Hs W M b H){p:Addr}{o:HO}(h:H p=none):okB W.B b (upd H p o):=fun q e=>W.B.st q H _ (s.ok q e) fun u e'=>Same.upd h q u e'
abbrev DE:=Ev->(D->Prop)->Prop
abbrev DT:=Ev->(Bool->Prop)->Prop
abbrev DA:=Ev->(List D->Prop)->Prop
def dn (W:Wd)(d:DE):TE:=fun σ H Q=>∃ pn M b ρ P,Sta W pn M b H σ ρ/\d ρ P/\∀ x v H',P x->RepX W M b H' x v->Kp b H H'->okB W.B b H'->Q v H'
def dnT (W:Wd)(d:DT):TT:=fun σ H Q=>∃ pn M b ρ P,Sta W pn M b H σ ρ/\d ρ P/\∀ x H',P x->Kp b H H'->okB W.B b H'->Q x H'
def dnA (W:Wd)(d:DA):TA:=fun σ H Q=>∃ pn M b ρ P,Sta W pn M b H σ ρ/\d ρ P/\∀ xs vs H',P xs->RepXs W M b H' xs vs->Kp b H H'->okB W.B b H'->Q vs H'
theorem dn.elim {W:Wd}{d:DE}{σ:St}{H:Hp}{Q:VK}{R:Prop}(h:dn W d σ H Q)(f:∀ pn M b ρ P,Sta W pn M b H σ ρ->d ρ P->(∀ x v H',P x->RepX W M b H' x v->Kp b H H'->okB W.B b H'->Q v H')->R):R:=by
 obtain ⟨pn,M,b,ρ,P,st,h,k⟩:=h
 exact f pn M b ρ P st h k
theorem dnT.elim {W:Wd}{d:DT}{σ:St}{H:Hp}{Q:Bool->Hp->Prop}{R:Prop}(h:dnT W d σ H Q)(f:∀ pn M b ρ P,Sta W pn M b H σ ρ->d ρ P->(∀ x H',P x->Kp b H H'->okB W.B b H'->Q x H')->R):R:=by
 obtain ⟨pn,M,b,ρ,P,st,h,k⟩:=h
 exact f pn M b ρ P st h k
theorem dnA.elim {W:Wd}{d:DA}{σ:St}{H:Hp}{Q:List V->Hp->Prop}{R:Prop}(h:dnA W d σ H Q)(f:∀ pn M b ρ P,Sta W pn M b H σ ρ->d ρ P->(∀ xs vs H',P xs->RepXs W M b H' xs vs->Kp b H H'->okB W.B b H'->Q vs H')->R):R:=by
 obtain ⟨pn,M,b,ρ,P,st,h,k⟩:=h
 exact f pn M b ρ P st h k
section
variable {X:Cx}{W:Wd}{e a b c:Expr}{es:List Expr}{pos:Pos}{d da db dc:DE}{dA:DA}{t:TE}
theorem PE.mono {t':TE}(h:PE X e t)(m:∀ σ H Q,t' σ H Q->t σ H Q):PE X e t':=fun pins s σ H Q I q=>h pins s σ H Q I (m σ H Q q)
theorem PT.mono {t t':TT}(h:PT X e t)(m:∀ σ H Q,t' σ H Q->t σ H Q):PT X e t':=fun pins s σ H Q I q=>h pins s σ H Q I (m σ H Q q)
theorem PA.mono {t t':TA}(h:PA X es t)(m:∀ σ H Q,t' σ H Q->t σ H Q):PA X es t':=fun pos pins s σ H Q I q=>h pos pins s σ H Q I (m σ H Q q)
def XY (i:Nat):DE:=fun ρ P=>match ρ[i]? with|some (some d)=>P d|_=>False
theorem dv (i:Nat) {x:Str} {pos:Pos} (hN:X.N[i]?=some x:=by rfl) (hv:Vis X.env.scope x:=by first|exact Or.inl rfl|exact Or.inr (Or.inl rfl)|exact Or.inr (Or.inr rfl)) (hd:(x==("__debug__" : Str))=false:=by decide)
 (hcd:(x==("__classdict__" : Str))=false:=by decide):PE X (.Name x pos) (dn W (XY i)):=(OS hN hv hd hcd).mono fun σ H Q hh=>hh.elim fun pn M b ρ P st h k=>by
 unfold XY at h
 split at h
 case h_1 d e =>
  obtain ⟨v,e1,r⟩:=st.env i d e
  exact ⟨v,e1,k d v H h r (Kp.refl _ _) st.ok⟩
 case h_2=>exact h.elim
def dC (d:D):DE:=fun _ P=>P d
theorem XX {d:D}{v:V}(h:PE X e (tC v))(hr:∀ M H,Rep W.K M H d v):PE X e (dn W (dC d)):=h.mono fun σ H Q hh=>hh.elim fun pn M b ρ P st h k=>k d v H h (Rep.x (hr M H)) (Kp.refl _ _) st.ok
theorem J9i {i j pos}:PE X (.Constant (.int i) j pos) (dn W (dC (.int i))):=XX Z7 fun _ _=>rfl
theorem Q1v {i j pos}:PE X (.Constant (.bool i) j pos) (dn W (dC (.bl i))):=XX J5s fun _ _=>rfl
theorem J9f {j pos}:PE X (.Constant .none j pos) (dn W (dC .non)):=XX J8a fun _ _=>rfl
theorem J9b {i j pos}:PE X (.Constant (.str i) j pos) (dn W (dC (.str i))):=XX ZL fun _ _=>rfl
theorem J1a {x:Str}{n:Int}{pos:Pos}(hg:Gl X x)(hm:∃ t,X.mg x=some (.int n t))(hd:(x==("__debug__" : Str))=false:=by decide):PE X (.Name x pos) (dn W (dC (.int n))):=XX (ZO hg hm hd) fun _ _=>rfl
theorem J4t {x:Str}{T:String}{pos:Pos}(hg:Gl X x)(hm:X.mg x=none)(hv:bootBuiltins x=some (.type T))(hn:x≠"__name__":=by decide) (hd:(x==("__debug__" : Str))=false:=by decide):PE X (.Name x pos) (dn W (dC (.ty T))):=XX (J3p (v:=.ty T) hg hm hv rfl hn hd) fun _ _=>rfl
def OpD (W:Wd)(r:R2)(o:D->D->(D->Prop)->Prop):Prop:=∀ M b H x y v u P Q,Hs W M b H->RepX W M b H x v->RepX W M b H y u->o x y P->(∀ z w H',P z->RepX W M b H' z w->Kp b H H'->okB W.B b H'->Q w H')->r v u H Q
def dOp (o:D->D->(D->Prop)->Prop)(da db:DE):DE:=fun ρ P=>da ρ fun x=>db ρ fun y=>o x y P
theorem UR {r:R2}{o:D->D->(D->Prop)->Prop}(hd:OpD W r o):∀ σ H Q,dn W (dOp o da db) σ H Q->tOp r (dn W da) (dn W db) σ H Q:=by
 intro σ H Q hh
 refine hh.elim fun pn M b ρ P st h k=>?_
 refine ⟨pn,M,b,ρ,_,st,h,fun x v H1 hx rx k1 o1=>?_⟩
 refine ⟨pn,M,b,ρ,_,st.step k1 o1,hx,fun y u H2 hy ry k2 o2=>?_⟩
 exact hd M b H2 x y v u P Q ((st.step k1 o1).step k2 o2).toHs (rx.step st.bagM k2) ry hy fun z w H' hz rz k3 o3=>k z w H' hz rz ((k1.trans k2).trans k3) o3
theorem Q1s {op:Operator}{r:R2}{o:D->D->(D->Prop)->Prop}(ho:OpR X (binaryOp op) r)(hd:OpD W r o)(ha:PE X a (dn W da))(hb:PE X b (dn W db)):PE X (.BinOp a op b pos) (dn W (dOp o da db)):=(AQ ho ha hb).mono (UR hd)
theorem J9j {op:CmpOp}{r:R2}{o:D->D->(D->Prop)->Prop}(ho:OpR X (compareOp op) r)(hd:OpD W r o)(ha:PE X a (dn W da))(hb:PE X b (dn W db))(hm:behindInMarks op b=false):PE X (.Compare a [op] [b] pos) (dn W (dOp o da db)):=(VD ho ha hb hm).mono (UR hd)
theorem Q1t {r:R2}{o:D->D->(D->Prop)->Prop}(hr:IxR X r)(hd:OpD W r o)(ha:PE X a (dn W da))(hb:PE X b (dn W db))(hs:LK b):PE X (.Subscript a b pos) (dn W (dOp o da db)):=(GB hr ha hb hs).mono (UR hd)
def oI (C:Int->Int->Prop)(g:Int->Int->Int):D->D->(D->Prop)->Prop
 | .int i,.int j,P=>C i j/\P (.int (g i j))
 | _,_,_=>False
def oI0 (g:Int->Int->Int):D->D->(D->Prop)->Prop
 | .int i,.int j,P=>P (.int (g i j))
 | _,_,_=>False
def oB0 (g:Int->Int->Bool):D->D->(D->Prop)->Prop
 | .int i,.int j,P=>P (.bl (g i j))
 | _,_,_=>False
theorem J3t {C:Int->Int->Prop}{g:Int->Int->Int}:OpD W (rI C fun i j=>.int (g i j)) (oI C g):=by
 intro M b H x y v u P Q hs rx ry ho k
 cases x<;>first|exact ho.elim|skip
 cases y<;>first|exact ho.elim|skip
 cases (show _=_ from rx)
 cases (show _=_ from ry)
 exact ⟨_,_,rfl,rfl,ho.1,k _ _ H ho.2 (show _=_ from rfl) (Kp.refl _ _) hs.ok⟩
theorem EH {g:Int->Int->Int}:OpD W (rI0 fun i j=>.int (g i j)) (oI0 g):=by
 intro M b H x y v u P Q hs rx ry ho k
 cases x<;>first|exact ho.elim|skip
 cases y<;>first|exact ho.elim|skip
 cases (show _=_ from rx)
 cases (show _=_ from ry)
 exact ⟨_,_,rfl,rfl,k _ _ H ho (show _=_ from rfl) (Kp.refl _ _) hs.ok⟩
theorem BV {g:Int->Int->Bool}:OpD W (rI0 fun i j=>.bl (g i j)) (oB0 g):=by
 intro M b H x y v u P Q hs rx ry ho k
 cases x<;>first|exact ho.elim|skip
 cases y<;>first|exact ho.elim|skip
 cases (show _=_ from rx)
 cases (show _=_ from ry)
 exact ⟨_,_,rfl,rfl,k _ _ H ho (show _=_ from rfl) (Kp.refl _ _) hs.ok⟩
def Q1g (neg:Bool):D->D->(D->Prop)->Prop
 | .int i,.int j,P=>P (.bl (decide (i=j)!=neg))
 | .bl i,.bl j,P=>P (.bl (decide (i=j)!=neg))
 | .str i,.str j,P=>P (.bl (decide (i=j)!=neg))
 | .non,.non,P=>P (.bl (true != neg))
 | .non,.int _,P=>P (.bl (false != neg))
 | .int _,.non,P=>P (.bl (false != neg))
 | .str _,.int _,P=>P (.bl (false != neg))
 | .int _,.str _,P=>P (.bl (false != neg))
 | _,_,_=>False
theorem BJ:OpD W rEq (Q1g false):=by
 intro M b H x y v u P Q hs rx ry ho k
 cases x<;>cases y<;>first|exact ho.elim|skip
 all_goals (cases (show _=_ from rx);cases (show _=_ from ry);refine ⟨rfl,?_⟩;refine k _ _ H ho ?_ (Kp.refl _ _) hs.ok)
 all_goals (show V.bl _=V.bl _;simp)
theorem GH:OpD W rNe (Q1g true):=by
 intro M b H x y v u P Q hs rx ry ho k
 cases x<;>cases y<;>first|exact ho.elim|skip
 all_goals (cases (show _=_ from rx);cases (show _=_ from ry);refine ⟨rfl,?_⟩;refine k _ _ H ho ?_ (Kp.refl _ _) hs.ok)
 all_goals (show V.bl _=V.bl _;simp)
def oIx:D->D->(D->Prop)->Prop
 | .tup xs,.int i,P=>(atI xs i).elim False P
 | .lst xs,.int i,P=>(atI xs i).elim False P
 | .own xs,.int i,P=>(atI xs i).elim False P
 | _,_,_=>False
theorem V2 (K:Fg)(h:X.K=K):IxR X (fun x y H Q=>J3f K x y H Q\/J3g K x y H Q):=(PN K h).or (DL K h)
theorem Y6:OpD W (fun x y H Q=>J3f W.K x y H Q\/J3g W.K x y H Q) oIx:=by
 intro M b H x y v u P Q hs rx ry ho k
 cases x<;>first|exact ho.elim|skip
 all_goals (cases y<;>first|exact ho.elim|skip)
 all_goals cases (show _=_ from ry)
 case tup.int xs i =>
  obtain ⟨a,vs,rfl,hh,r⟩:=rx
  simp only [oIx] at ho
  cases e:atI xs i with
  | none=>rw [e] at ho;exact ho.elim
  | some d =>
    rw [e] at ho
    obtain ⟨w,e1,r1⟩:=r.at e
    exact .inl ⟨a,vs,i,w,rfl,rfl,hh.sq,e1,k d w H ho r1.x (Kp.refl _ _) hs.ok⟩
 case lst.int xs i =>
  obtain ⟨a,vs,rfl,hh,r⟩:=rx
  simp only [oIx] at ho
  cases e:atI xs i with
  | none=>rw [e] at ho;exact ho.elim
  | some d =>
    rw [e] at ho
    obtain ⟨w,e1,r1⟩:=r.at e
    exact .inr ⟨a,vs,i,w,rfl,rfl,SqL.of hh.2,e1,k d w H ho r1.x (Kp.refl _ _) hs.ok⟩
 case own.int xs i =>
  obtain ⟨a,vs,rfl,_,_,_,_,hh,r⟩:=rx
  simp only [oIx] at ho
  cases e:atI xs i with
  | none=>rw [e] at ho;exact ho.elim
  | some d =>
    rw [e] at ho
    obtain ⟨w,e1,r1⟩:=r.at e
    exact .inr ⟨a,vs,i,w,rfl,rfl,SqL.of hh,e1,k d w H ho r1.x (Kp.refl _ _) hs.ok⟩
def dUn (o:D->(D->Prop)->Prop)(da:DE):DE:=fun ρ P=>da ρ fun x=>o x P
def Q1f:D->(D->Prop)->Prop
 | .int i,P=>P (.int (-i))
 | _,_=>False
theorem J9g (ha:PE X a (dn W da)):PE X (.UnaryOp .USub a pos) (dn W (dUn Q1f da)):=(Q1a J7g ha).mono fun σ H Q hh=>hh.elim fun pn M b ρ P st h k=>by
 refine ⟨pn,M,b,ρ,_,st,h,fun x v H1 hx rx k1 o1=>?_⟩
 cases x<;>first|exact hx.elim|skip
 cases (show _=_ from rx)
 exact ⟨_,rfl,k _ _ H1 hx (show _=_ from rfl) k1 o1⟩
inductive IfP (c:Bool)(A B:Prop):Prop
 | t (e:c=true) (h:A):IfP c A B
 | f (e:c=false) (h:B):IfP c A B
theorem IfP.of {c:Bool}{A B:Prop}(h1:c=true->A)(h2:c=false->B):IfP c A B:=by
 cases c
 · exact .f rfl (h2 rfl)
 · exact .t rfl (h1 rfl)
theorem IfP.true_of {A B:Prop}(h:IfP true A B):A:=by
 cases h with
 | t _ h=>exact h
 | f e _=>cases e
theorem J2m {A B:Prop}:IfP true A B=A:=propext ⟨IfP.true_of,fun h=>.t rfl h⟩
def Q2g (da db:DE):DE:=fun ρ P=>da ρ fun x=>match x with|.bl k=>IfP k (db ρ P) (P (.bl false))|_=>False
def Q2c (da:DE):DE:=fun ρ P=>da ρ fun x=>match x with|.bl k=>P (.bl (!k))|_=>False
variable {rest:List Expr}
theorem J9d {op}(h:PE X a (dn W da)):PE X (.BoolOp op [a] pos) (dn W da):=J7y h
theorem J9k (ha:PE X a (dn W da))(hb:PE X (.BoolOp .And (b::rest) pos) (dn W db)):PE X (.BoolOp .And (a::b::rest) pos) (dn W (Q2g da db)):=(J8b ha hb).mono fun σ H Q hh=>hh.elim fun pn M b ρ P st h k=>by
 refine ⟨pn,M,b,ρ,_,st,h,fun x v H1 hx rx k1 o1=>?_⟩
 cases x<;>first|exact hx.elim|skip
 case bl c =>
  cases (show _=_ from rx)
  refine ⟨c,rfl,?_⟩
  cases hx with
  | f e hx=>subst e;rw [if_neg Bool.false_ne_true];exact k _ _ H1 hx (show _=_ from rfl) k1 o1
  | t e hx=>subst e;rw [if_pos rfl];exact ⟨pn,M,b,ρ,P,st.step k1 o1,hx,fun x v H' hp r k2 o2=>k x v H' hp r (k1.trans k2) o2⟩
theorem J9e (ha:PE X a (dn W da)):PE X (.UnaryOp .Not a pos) (dn W (Q2c da)):=(J7z ha).mono fun σ H Q hh=>hh.elim fun pn M b ρ P st h k=>by
 refine ⟨pn,M,b,ρ,_,st,h,fun x v H1 hx rx k1 o1=>?_⟩
 cases x<;>first|exact hx.elim|skip
 case bl c =>
  cases (show _=_ from rx)
  exact ⟨c,rfl,k _ _ H1 hx (show _=_ from rfl) k1 o1⟩
def VW (da:DE):DT:=fun ρ P=>da ρ fun x=>match x with|.bl k=>P k|_=>False
theorem J8u {op:CmpOp}{r:R2}{o:D->D->(D->Prop)->Prop}(ho:OpR X (compareOp op) r)(hd:OpD W r o)(ha:PE X a (dn W da))(hb:PE X b (dn W db))(hm:behindInMarks op b=false):PT X (.Compare a [op] [b] pos) (dnT W (VW (dOp o da db))):=(LB ho ha hb hm).mono fun σ H Q hh=>hh.elim fun pn M b ρ P st h k=>by
 refine UR hd σ H _ ⟨pn,M,b,ρ,_,st,h,fun x v H1 hx rx k1 o1=>?_⟩
 cases x<;>first|exact hx.elim|skip
 case bl c =>
  cases (show _=_ from rx)
  exact ⟨c,rfl,k _ H1 hx k1 o1⟩
def Q1w (da:DE):DT:=fun ρ P=>da ρ fun x=>match x with
 | .bl k=>P k
 | .int i=>P (i != 0)
 | .non=>P false
 | .tup xs=>P (!xs.isEmpty)
 | .lst xs=>P (!xs.isEmpty)
 | .own xs=>P (!xs.isEmpty)
 | _=>False
theorem Reps.empty {H:Hp}{ds:List D}{vs:List V}(h:Reps K M H ds vs):(!ds.isEmpty) = !vs.isEmpty:=by
 cases ds with
 | nil=>cases (show _=_ from h);rfl
 | cons d ds=>obtain ⟨v,r,rfl,_⟩:=h;rfl
theorem J0t (hK:X.K=W.K)(ha:PE X a (dn W da))(he:∀ whole,isTrue a X.env whole=(do let v <- whole;standAt a.pos;holding [v] (truthy v))):PT X a (dnT W (Q1w da)):=(WV W.K hK ha he).mono fun σ H Q hh=>hh.elim fun pn M b ρ P st h k=>by
 refine ⟨pn,M,b,ρ,_,st,h,fun x v H1 hx rx k1 o1=>?_⟩
 cases x<;>first|exact hx.elim|skip
 case bl c=>cases (show _=_ from rx);exact ⟨_,rfl,k _ H1 hx k1 o1⟩
 case int c=>cases (show _=_ from rx);exact ⟨_,rfl,k _ H1 hx k1 o1⟩
 case non=>cases (show _=_ from rx);exact ⟨_,rfl,k _ H1 hx k1 o1⟩
 case tup xs=>obtain ⟨a,vs,rfl,hh,r⟩:=rx;exact ⟨_,.inr (.inl ⟨vs,hh.sq,r.empty⟩),k _ H1 hx k1 o1⟩
 case lst xs=>obtain ⟨a,vs,rfl,hh,r⟩:=rx;exact ⟨_,.inl ⟨vs,SqL.of hh.2,r.empty⟩,k _ H1 hx k1 o1⟩
 case own xs=>obtain ⟨a,vs,rfl,_,_,_,_,hh,r⟩:=rx;exact ⟨_,.inl ⟨vs,SqL.of hh,r.empty⟩,k _ H1 hx k1 o1⟩
def J1d (t u:DT):DT:=fun ρ P=>t ρ fun c=>IfP c (u ρ P) (P false)
def J4v (t u:DT):DT:=fun ρ P=>t ρ fun c=>IfP c (P true) (u ρ P)
def J6c (t:DT):DT:=fun ρ P=>t ρ fun c=>P (!c)
variable {ta tb:DT}
theorem J7f:∀ σ H Q,dnT W (J1d ta tb) σ H Q->J7n (dnT W ta) (dnT W tb) σ H Q:=by
 intro σ H Q hh
 refine hh.elim fun pn M b ρ P st h k=>?_
 refine ⟨pn,M,b,ρ,_,st,h,fun x H1 hx k1 o1=>?_⟩
 cases hx with
 | t e hx=>rw [if_pos e];exact ⟨pn,M,b,ρ,P,st.step k1 o1,hx,fun x H' hp k2 o2=>k x H' hp (k1.trans k2) o2⟩
 | f e hx=>rw [if_neg (by rw [e];exact Bool.false_ne_true)];exact k _ H1 hx k1 o1
theorem Q0n:∀ σ H Q,dnT W (J4v ta tb) σ H Q->tOr (dnT W ta) (dnT W tb) σ H Q:=by
 intro σ H Q hh
 refine hh.elim fun pn M b ρ P st h k=>?_
 refine ⟨pn,M,b,ρ,_,st,h,fun x H1 hx k1 o1=>?_⟩
 cases hx with
 | t e hx=>rw [if_pos e];exact k _ H1 hx k1 o1
 | f e hx=>rw [if_neg (by rw [e];exact Bool.false_ne_true)];exact ⟨pn,M,b,ρ,P,st.step k1 o1,hx,fun x H' hp k2 o2=>k x H' hp (k1.trans k2) o2⟩
theorem PW.mono {t t':TT}(h:PW X e t)(m:∀ σ H Q,t' σ H Q->t σ H Q):PW X e t':=fun wh pins s σ H Q I q=>h wh pins s σ H Q I (m σ H Q q)
theorem J4h (ha:PT X a (dnT W ta)):PW X (.BoolOp .And [a] pos) (dnT W ta):=UY ha
theorem J8r (ha:PT X a (dnT W ta)):PW X (.BoolOp .Or [a] pos) (dnT W ta):=J7u ha
theorem J8s (ha:PT X a (dnT W ta))(hb:PW X (.BoolOp .And (b::rest) pos) (dnT W tb)):PW X (.BoolOp .And (a::b::rest) pos) (dnT W (J1d ta tb)):=(ZC ha hb).mono J7f
theorem J6a (ha:PT X a (dnT W ta))(hb:PW X (.BoolOp .Or (b::rest) pos) (dnT W tb)):PW X (.BoolOp .Or (a::b::rest) pos) (dnT W (J4v ta tb)):=(Q0z ha hb).mono Q0n
theorem J8t (ha:PT X a (dnT W ta)):PT X (.UnaryOp .Not a pos) (dnT W (J6c ta)):=(J7v ha).mono fun σ H Q hh=>hh.elim fun pn M b ρ P st h k=>⟨pn,M,b,ρ,_,st,h,fun x H1 hx k1 o1=>k _ H1 hx k1 o1⟩
def dIf (t:DT)(da db:DE):DE:=fun ρ P=>t ρ fun c=>IfP c (da ρ P) (db ρ P)
theorem Q1u (hc:PT X c (dnT W ta))(ha:PE X a (dn W da))(hb:PE X b (dn W db)):PE X (.IfExp c a b pos) (dn W (dIf ta da db)):=(ZN hc ha hb).mono fun σ H Q hh=>hh.elim fun pn M b ρ P st h k=>by
 refine ⟨pn,M,b,ρ,_,st,h,fun x H1 hx k1 o1=>?_⟩
 cases hx with
 | t e hx=>rw [if_pos e];exact ⟨pn,M,b,ρ,P,st.step k1 o1,hx,fun x v H' hp r k2 o2=>k x v H' hp r (k1.trans k2) o2⟩
 | f e hx=>rw [if_neg (by rw [e];exact Bool.false_ne_true)];exact ⟨pn,M,b,ρ,P,st.step k1 o1,hx,fun x v H' hp r k2 o2=>k x v H' hp r (k1.trans k2) o2⟩
def PY (o o':D->D->(D->Prop)->Prop)(da db dc:DE):DE:=fun ρ P=>da ρ fun x=>db ρ fun y=>o x y fun z=>match z with|.bl k=>IfP k (dc ρ fun w=>o' y w P) (P (.bl false))|_=>False
theorem J1b {op op':CmpOp}{r r':R2}{o o':D->D->(D->Prop)->Prop}(ho:OpR X (compareOp op) r)(ho':OpR X (compareOp op') r')(hd:OpD W r o)(hd':OpD W r' o')(ha:PE X a (dn W da))(hb:PE X b (dn W db))(hc:PE X c (dn W dc))
 (hm:lastMarks [op,op'] [b,c]=false:=by with_unfolding_all rfl):PE X (.Compare a [op,op'] [b,c] pos) (dn W (PY o o' da db dc)):=(ZQ ho ho' ha hb hc hm).mono fun σ H Q hh=>hh.elim fun pn M b ρ P st h k=>by
 refine ⟨pn,M,b,ρ,_,st,h,fun x v H1 hx rx k1 o1=>?_⟩
 refine ⟨pn,M,b,ρ,_,st.step k1 o1,hx,fun y u H2 hy ry k2 o2=>?_⟩
 refine hd M b H2 x y v u _ _ ((st.step k1 o1).step k2 o2).toHs (rx.step st.bagM k2) ry hy fun z w H' hz rz k3 o3=>?_
 cases z<;>first|exact hz.elim|skip
 case bl q =>
  cases (show _=_ from rz)
  refine ⟨q,rfl,?_⟩
  cases hz with
  | f e hz=>subst e;rw [if_neg Bool.false_ne_true];exact k _ _ H' hz (show _=_ from rfl) ((k1.trans k2).trans k3) o3
  | t e hz =>
    subst e
    rw [if_pos rfl]
    refine ⟨pn,M,b,ρ,_,((st.step k1 o1).step k2 o2).step k3 o3,hz,fun w u' H4 hw rw' k4 o4=>?_⟩
    exact hd' M b H4 y w u u' P Q ((((st.step k1 o1).step k2 o2).step k3 o3).step k4 o4).toHs ((ry.step st.bagM k3).step st.bagM k4) rw' hw fun z w H' hz rz k5 o5=>k z w H' hz rz ((((k1.trans k2).trans k3).trans k4).trans k5) o5
theorem J0u {op op':CmpOp}{r r':R2}{o o':D->D->(D->Prop)->Prop}(ho:OpR X (compareOp op) r)(ho':OpR X (compareOp op') r')(hd:OpD W r o)(hd':OpD W r' o')(ha:PE X a (dn W da))(hb:PE X b (dn W db))(hc:PE X c (dn W dc))
 (hm:lastMarks [op,op'] [b,c]=false:=by with_unfolding_all rfl):PT X (.Compare a [op,op'] [b,c] pos) (dnT W (VW (PY o o' da db dc))):=by
 refine (ZE ho ho' ha hb hc hm).mono fun σ H Q hh=>hh.elim fun pn M b ρ P st h k=>?_
 refine ⟨pn,M,b,ρ,_,st,h,fun x v H1 hx rx k1 o1=>?_⟩
 refine ⟨pn,M,b,ρ,_,st.step k1 o1,hx,fun y u H2 hy ry k2 o2=>?_⟩
 refine hd M b H2 x y v u _ _ ((st.step k1 o1).step k2 o2).toHs (rx.step st.bagM k2) ry hy fun z w H' hz rz k3 o3=>?_
 cases z<;>first|exact hz.elim|skip
 case bl q =>
  cases (show _=_ from rz)
  refine ⟨q,rfl,?_⟩
  cases hz with
  | f e hz=>subst e;rw [if_neg Bool.false_ne_true];exact ⟨_,rfl,k _ H' hz ((k1.trans k2).trans k3) o3⟩
  | t e hz =>
    subst e
    rw [if_pos rfl]
    refine ⟨pn,M,b,ρ,_,((st.step k1 o1).step k2 o2).step k3 o3,hz,fun w u' H4 hw rw' k4 o4=>?_⟩
    refine hd' M b H4 y w u u' _ _ ((((st.step k1 o1).step k2 o2).step k3 o3).step k4 o4).toHs ((ry.step st.bagM k3).step st.bagM k4) rw' hw fun z w H' hz rz k5 o5=>?_
    cases z<;>first|exact hz.elim|skip
    case bl q =>
     cases (show _=_ from rz)
     exact ⟨_,rfl,k _ H' hz ((((k1.trans k2).trans k3).trans k4).trans k5) o5⟩
def J2g:DA:=fun _ P=>P []
def OE (da:DE)(dr:DA):DA:=fun ρ P=>da ρ fun x=>dr ρ fun xs=>P (x::xs)
theorem J9l:PA X [] (dnA W J2g):=ES.mono fun σ H Q hh=>hh.elim fun pn M b ρ P st h k=>k [] [] H h rfl (Kp.refl _ _) st.ok
theorem J4u {dr:DA}(ha:PE X e (dn W da))(hr:PA X es (dnA W dr))(hs:starEach (e::es) X.env=(false,eval e X.env)::starEach es X.env:=by rfl):PA X (e::es) (dnA W (OE da dr)):=(CA ha hr hs).mono fun σ H Q hh=>hh.elim fun pn M b ρ P st h k=>by
 refine ⟨pn,M,b,ρ,_,st,h,fun x v H1 hx rx k1 o1=>?_⟩
 refine ⟨pn,M,b,ρ,_,st.step k1 o1,hx,fun xs vs H2 hy ry k2 o2=>?_⟩
 exact k _ _ H2 hy ⟨v,vs,rfl,rx.step st.bagM k2,ry⟩ (k1.trans k2) o2
def DJ (xs:List D):Bool:=xs.all plain&&decide (xs.length<=1000)
def J9m (dA:DA):DE:=fun ρ P=>dA ρ fun xs=>DJ xs=true/\P (.tup xs)
def Q2e (dA:DA):DE:=fun ρ P=>dA ρ fun xs=>DJ xs=true/\P (.lst xs)
theorem DJ.len {xs:List D}(h:DJ xs=true):xs.length<=sizeLine:=by
 unfold DJ at h
 simp only [Bool.and_eq_true,decide_eq_true_eq] at h
 exact Nat.le_trans h.2 BS
theorem DJ.pl {xs:List D}(h:DJ xs=true):xs.all plain=true:=by
 unfold DJ at h
 simp only [Bool.and_eq_true,decide_eq_true_eq] at h
 exact h.1
theorem IH {bg:Option Addr}{H:Hp}{xs:List D}{vs:List V}{p:Addr}(hs:Hs W M bg H)(r:Reps W.K M H xs vs)(h:H p=none):RepX W M bg (upd H p (.tup vs)) (.tup xs) (.ref p) :=
 ⟨p,vs,rfl,.inl ⟨hs.new h,AA⟩,Reps.keep (fun c o _ e=>Same.upd h c o e) _ _ r⟩
theorem EA {bg:Option Addr}{H:Hp}{xs:List D}{vs:List V}{p:Addr}(hs:Hs W M bg H)(r:Reps W.K M H xs vs)(h:H p=none):RepX W M bg (upd H p (.lst vs)) (.lst xs) (.ref p) :=
 ⟨p,vs,rfl,⟨hs.new h,AA⟩,Reps.keep (fun c o _ e=>Same.upd h c o e) _ _ r⟩
theorem J9a {x1}(h:PA X es (dnA W dA)):PE X (.Tuple es x1 pos) (dn W (J9m dA)):=(TJ h).mono fun σ H Q hh=>hh.elim fun pn M b ρ P st h k=>by
 refine ⟨pn,M,b,ρ,_,st,h,fun xs vs H1 hx rx k1 o1=>?_⟩
 have rr:=rx.reps _ _ (DJ.pl hx.1)
 refine ⟨by rw [rr.length];exact DJ.len hx.1,fun p hp=>k _ _ _ hx.2 (IH (st.step k1 o1).toHs rr hp) (k1.trans (Kp.upd hp)) ((st.step k1 o1).okU hp)⟩
theorem J9h (h:PA X es (dnA W dA)):PE X (.List es pos) (dn W (Q2e dA)):=(LY h).mono fun σ H Q hh=>hh.elim fun pn M b ρ P st h k=>by
 refine ⟨pn,M,b,ρ,_,st,h,fun xs vs H1 hx rx k1 o1=>?_⟩
 have rr:=rx.reps _ _ (DJ.pl hx.1)
 refine ⟨by rw [rr.length];exact DJ.len hx.1,fun p hp=>k _ _ _ hx.2 (EA (st.step k1 o1).toHs rr hp) (k1.trans (Kp.upd hp)) ((st.step k1 o1).okU hp)⟩
end
abbrev DSp:=List D->(D->Prop)->(Addr->Prop)->Prop
def Q0f (K:Fg)(M:Addr->Prop)(b:Option Addr)(H:Hp):D->V->Prop
 | .own _,_=>False
 | .bag,v=>∃ p,b=some p/\v=.ref p
 | d,v=>Rep K M H d v
def RepAs (K:Fg)(M:Addr->Prop)(b:Option Addr)(H:Hp):List D->List V->Prop
 | [],vs=>vs=[]
 | d::ds,vs=>∃ v r,vs=v::r/\Q0f K M b H d v/\RepAs K M b H ds r
def Q6 (K:Fg)(B:BagT)(S:DSp):Sp:=fun vs H Q E=>∃ (M:Addr->Prop) (b:Option Addr) (ds:List D) (P:D->Prop) (Ed:Addr->Prop),S ds P Ed/\RepAs K M b H ds vs/\okB B b H/\(∀ p,b=some p->M p)/\(∀ c,M c->∃ o,H c=some o) /\
 (∀ d v H',P d->Rep K M H' d v->Kp b H H'->okB B b H'->Q v H')/\∀ C H',Ed C->Kp b H H'->okB B b H'->E (.ref C) none H'
theorem RepXs.args {W:Wd} {H:Hp}:∀ (ds:List D) (vs:List V),RepXs W M b H ds vs->ds.all AH=true->RepAs W.K M b H ds vs
 | [],_,h,_=>h
 | d::ds,vs,h,p=>by
   obtain ⟨v,r,e,h1,h2⟩:=h
   simp only [List.all_cons,Bool.and_eq_true] at p
   refine ⟨v,r,e,?_,RepXs.args ds r h2 p.2⟩
   cases d<;>first|exact h1|cases p.1
theorem RepAs.length {H:Hp}:∀ {ds:List D} {vs:List V},RepAs K M b H ds vs->vs.length=ds.length
 | [],_,h=>by cases (show _=_ from h);rfl
 | d::ds,vs,h=>by
   obtain ⟨v,r,rfl,h1,h2⟩:=h
   simp [RepAs.length h2]
def KM (W:Wd)(E:XK)(Ed:Addr->Prop):Prop:=∀ C H',Ed C->Kp W.b0 W.H0 H'->okB W.B W.b0 H'->E (.ref C) none H'
theorem Sta.ok0 {W:Wd}{pn:List (D×V)} {H:Hp}{σ:St}{ρ:Ev}(s:Sta W pn M b H σ ρ):okB W.B W.b0 H:=by
 rcases s.new with q|⟨q,_⟩
 · rw [<- q];exact s.ok
 · intro p e;rw [q] at e;cases e
section
variable {X:Cx}{W:Wd}{e a b c:Expr}{es:List Expr}{pos p:Pos}{d:DE}{dA:DA}{x:Str}{k:Nat}{ps:List Str}{S:DSp}
def SB (S:DSp)(Ed:Addr->Prop)(dA:DA):DE:=fun ρ P=>dA ρ fun ds=>ds.all AH=true/\S ds P Ed
theorem US {E:XK}{Ed:Addr->Prop}(hE:KM W E Ed):∀ σ H Q,dn W (SB S Ed dA) σ H Q->UU (Q6 W.K W.B S) [] E (dnA W dA) σ H Q:=by
 intro σ H Q hh
 refine hh.elim fun pn M b ρ P st h k=>?_
 refine ⟨pn,M,b,ρ,_,st,h,fun xs vs H1 hx rx k1 o1=>?_⟩
 have st1:=st.step k1 o1
 refine ⟨M,b,xs,P,Ed,hx.2,?_,o1,st.bagM,st1.dom,fun d v H' hd rd k2 o2=>k d v H' hd rd.x (k1.trans k2) o2,fun C H' hC k2 o2=>?_⟩
 · rw [List.append_nil];exact rx.args _ _ hx.1
 · have st2:=st1.step k2 o2
   exact hE C H' hC st2.kp st2.ok0
theorem J8q:KM W E0 (fun _=>False):=fun _ _ h=>h.elim
theorem J9c (G:Callee X.prog X.w X.K X.mg X.base CX0 x k ps (Q6 W.K W.B S))(hr:Room k X.A)(hg:Gl X x)(ha:PA X (e::es) (dnA W dA))(hdb:(x==("__debug__" : Str))=false:=by decide) (he:starEach (e::es) X.env=(false,eval e X.env)::starEach es X.env:=by rfl) (hpl:(backTo pos (starEach es X.env)).any (·.1)=false:=by rfl) :
 PE X (.Call (.Name x p) (e::es) [] pos) (dn W (SB S (fun _=>False) dA)):=(LX G hr hg ha hdb he hpl).mono (US J8q)
theorem J4r {CX:CXT}{E:XK}{Ed:Addr->Prop}(hE:KM W E Ed)(hp:GS CX X E)(G:Callee X.prog X.w X.K X.mg X.base CX x k ps (Q6 W.K W.B S))(hr:Room k X.A)(hg:Gl X x)(ha:PA X (e::es) (dnA W dA))(hdb:(x==("__debug__" : Str))=false:=by decide) (he:starEach (e::es) X.env=(false,eval e X.env)::starEach es X.env:=by rfl) (hpl:(backTo pos (starEach es X.env)).any (·.1)=false:=by rfl) :
 PE X (.Call (.Name x p) (e::es) [] pos) (dn W (SB S Ed dA)):=(J3n hp G hr hg ha hdb he hpl).mono (US hE)
def DM (W:Wd)(r:List V->Hp->VK->Prop)(o:List D->(D->Prop)->Prop):Prop:=∀ M b H xs vs P Q,Hs W M b H->RepXs W M b H xs vs->o xs P->(∀ z w H',P z->RepX W M b H' z w->Kp b H H'->okB W.B b H'->Q w H')->r vs H Q
def dCB (o:List D->(D->Prop)->Prop)(dA:DA):DE:=fun ρ P=>dA ρ fun xs=>o xs P
variable {r:List V->Hp->VK->Prop}{o:List D->(D->Prop)->Prop}{id T:String}
theorem J5k (hd:DM W r o):∀ σ H Q,dn W (dCB o dA) σ H Q->tCB r (dnA W dA) σ H Q:=by
 intro σ H Q hh
 refine hh.elim fun pn M b ρ P st h k=>?_
 refine ⟨pn,M,b,ρ,_,st,h,fun xs vs H1 hx rx k1 o1=>?_⟩
 exact hd M b H1 xs vs P Q (st.step k1 o1).toHs rx hx fun z w H' hz rz k2 o2=>k z w H' hz rz (k1.trans k2) o2
theorem J1c (hc:AV X (.builtin id) r)(hd:DM W r o)(hg:Gl X x)(hm:X.mg x=none)(hv:bootBuiltins x=some (.builtin id))(ha:PA X (e::es) (dnA W dA))(hn:x≠"__name__":=by decide) (hdb:(x==("__debug__" : Str))=false:=by decide)
 (he:starEach (e::es) X.env=(false,eval e X.env)::starEach es X.env:=by rfl) (hpl:(backTo pos (starEach es X.env)).any (·.1)=false:=by rfl):PE X (.Call (.Name x p) (e::es) [] pos) (dn W (dCB o dA)):=(EG hc hg hm hv ha hn hdb he hpl).mono (J5k hd)
theorem XW (hc:AV X (.type T) r)(hd:DM W r o)(hg:Gl X x)(hm:X.mg x=none)(hv:bootBuiltins x=some (.type T))(ha:PA X (e::es) (dnA W dA))(hn:x≠"__name__":=by decide) (hdb:(x==("__debug__" : Str))=false:=by decide)
 (he:starEach (e::es) X.env=(false,eval e X.env)::starEach es X.env:=by rfl) (hpl:(backTo pos (starEach es X.env)).any (·.1)=false:=by rfl):PE X (.Call (.Name x p) (e::es) [] pos) (dn W (dCB o dA)):=(EV hc hg hm hv ha hn hdb he hpl).mono (J5k hd)
theorem rx1 {b:Option Addr}{H:Hp}{x:D}{vs:List V}(h:RepXs W M b H [x] vs):∃ v,vs=[v]/\RepX W M b H x v:=by
 obtain ⟨v,r,rfl,h1,h2⟩:=h
 cases (show _=_ from h2)
 exact ⟨v,rfl,h1⟩
theorem rx2 {b:Option Addr}{H:Hp}{x y:D}{vs:List V}(h:RepXs W M b H [x,y] vs):∃ v u,vs=[v,u]/\RepX W M b H x v/\RepX W M b H y u:=by
 obtain ⟨v,r,rfl,h1,h2⟩:=h
 obtain ⟨u,rfl,h3⟩:=rx1 h2
 exact ⟨v,u,rfl,h1,h3⟩
def DW:List D->Option (List Int)
 | []=>some []
 | .int i::r=>(DW r).map (i::·)
 | _=>none
def FG:List D->Option (List Bool)
 | []=>some []
 | .bl i::r=>(FG r).map (i::·)
 | _=>none
theorem DW.eq:∀ {ds:List D} {ns:List Int},DW ds=some ns->ds=ns.map D.int
 | [],ns,h=>by cases h;rfl
 | d::r,ns,h=>by
   cases d<;>first|cases h|skip
   case int i =>
    simp only [DW,Option.map_eq_some_iff] at h
    obtain ⟨m,e,rfl⟩:=h
    rw [DW.eq e];rfl
theorem FG.eq:∀ {ds:List D} {ns:List Bool},FG ds=some ns->ds=ns.map D.bl
 | [],ns,h=>by cases h;rfl
 | d::r,ns,h=>by
   cases d<;>first|cases h|skip
   case bl i =>
    simp only [FG,Option.map_eq_some_iff] at h
    obtain ⟨m,e,rfl⟩:=h
    rw [FG.eq e];rfl
theorem JV (ns:List Bool):FG (ns.map D.bl)=some ns:=by
 induction ns with
 | nil=>rfl
 | cons n ns ih=>simp [FG,ih]
theorem Reps.ints {H:Hp}:∀ {ns:List Int} {vs:List V},Reps K M H (ns.map D.int) vs->vs=ns.map V.int
 | [],_,h=>by cases (show _=_ from h);rfl
 | n::ns,_,h=>by
   obtain ⟨v,r,rfl,h1,h2⟩:=h
   cases (show _=_ from h1)
   rw [Reps.ints h2];rfl
theorem Reps.bls {H:Hp}:∀ {ns:List Bool} {vs:List V},Reps K M H (ns.map D.bl) vs->vs=ns.map V.bl
 | [],_,h=>by cases (show _=_ from h);rfl
 | n::ns,_,h=>by
   obtain ⟨v,r,rfl,h1,h2⟩:=h
   cases (show _=_ from h1)
   rw [Reps.bls h2];rfl
def asL:D->Option (List D)
 | .lst xs=>some xs
 | .own xs=>some xs
 | _=>none
def asS:D->Option (List D)
 | .lst xs=>some xs
 | .own xs=>some xs
 | .tup xs=>some xs
 | _=>none
theorem asL.rep {b:Option Addr}{H:Hp}{x:D}{v:V}{xs:List D}(h:RepX W M b H x v)(e:asL x=some xs):∃ a vs,v=.ref a/\H a=some (.lst vs)/\Reps W.K M H xs vs:=by
 cases x<;>first|cases e|skip
 case lst=>obtain ⟨a,vs,rfl,hh,r⟩:=h;exact ⟨a,vs,rfl,hh.2,r⟩
 case own=>obtain ⟨a,vs,rfl,_,_,_,_,hh,r⟩:=h;exact ⟨a,vs,rfl,hh,r⟩
theorem asS.rep {b:Option Addr}{H:Hp}{x:D}{v:V}{xs:List D}(h:RepX W M b H x v)(e:asS x=some xs):∃ a vs,v=.ref a/\(SqL W.K H a vs\/SqT W.K H a vs)/\Reps W.K M H xs vs:=by
 cases x<;>first|cases e|skip
 case lst=>obtain ⟨a,vs,rfl,hh,r⟩:=h;exact ⟨a,vs,rfl,.inl (SqL.of hh.2),r⟩
 case own=>obtain ⟨a,vs,rfl,_,_,_,_,hh,r⟩:=h;exact ⟨a,vs,rfl,.inl (SqL.of hh),r⟩
 case tup=>obtain ⟨a,vs,rfl,hh,r⟩:=h;exact ⟨a,vs,rfl,.inr (hh.sq),r⟩
def Q2w:List D->(D->Prop)->Prop
 | [.lst xs],P=>P (.int xs.length)
 | [.own xs],P=>P (.int xs.length)
 | [.tup xs],P=>P (.int xs.length)
 | [.scr ns],P=>P (.int ns.length)
 | _,_=>False
theorem AC:DM W (fun xs H Q=>∃ p ys,xs=[.ref p]/\(SqL W.K H p ys\/SqT W.K H p ys)/\Q (.int ys.length) H) Q2w:=by
 intro M b H xs vs P Q hs rx ho k
 match xs,ho with
 | [.lst xs],ho =>
   obtain ⟨v,rfl,r⟩:=rx1 rx
   obtain ⟨a,us,rfl,hh,r'⟩:=r
   exact ⟨a,us,rfl,.inl (SqL.of hh.2),k _ _ H ho (by show _=_;rw [r'.length]) (Kp.refl _ _) hs.ok⟩
 | [.own xs],ho =>
   obtain ⟨v,rfl,r⟩:=rx1 rx
   obtain ⟨a,us,rfl,_,_,_,_,hh,r'⟩:=r
   exact ⟨a,us,rfl,.inl (SqL.of hh),k _ _ H ho (by show _=_;rw [r'.length]) (Kp.refl _ _) hs.ok⟩
 | [.tup xs],ho =>
   obtain ⟨v,rfl,r⟩:=rx1 rx
   obtain ⟨a,us,rfl,hh,r'⟩:=r
   exact ⟨a,us,rfl,.inr (hh.sq),k _ _ H ho (by show _=_;rw [r'.length]) (Kp.refl _ _) hs.ok⟩
 | [.scr ns],ho =>
   obtain ⟨v,rfl,r⟩:=rx1 rx
   obtain ⟨a,rfl,hh⟩:=r
   refine ⟨a,ns.map V.int,rfl,.inl (hh.imp (·.2) id),k _ _ H ho (by show _=_;rw [List.length_map]) (Kp.refl _ _) hs.ok⟩
def ZU:List D->(D->Prop)->Prop
 | [.lst xs],P=>P (.tup xs)
 | [.own xs],P=>P (.tup xs)
 | [.tup xs],P=>P (.tup xs)
 | _,_=>False
theorem IP:DM W (fun xs H Q=>∃ p ys,xs=[.ref p]/\((SqL W.K H p ys/\∀ l,H l=none->Q (.ref l) (upd H l (.tup ys)))\/(SqT W.K H p ys/\Q (.ref p) H))) ZU:=by
 intro M b H xs vs P Q hs rx ho k
 match xs,ho with
 | [.lst xs],ho =>
   obtain ⟨v,rfl,r⟩:=rx1 rx
   obtain ⟨a,us,rfl,hh,r'⟩:=r
   exact ⟨a,us,rfl,.inl ⟨SqL.of hh.2,fun l hl=>k _ _ _ ho (IH hs r' hl) (Kp.upd hl) (hs.okU hl)⟩⟩
 | [.own xs],ho =>
   obtain ⟨v,rfl,r⟩:=rx1 rx
   obtain ⟨a,us,rfl,_,_,_,_,hh,r'⟩:=r
   exact ⟨a,us,rfl,.inl ⟨SqL.of hh,fun l hl=>k _ _ _ ho (IH hs r' hl) (Kp.upd hl) (hs.okU hl)⟩⟩
 | [.tup xs],ho =>
   obtain ⟨v,rfl,r⟩:=rx1 rx
   obtain ⟨a,us,rfl,hh,r'⟩:=r
   exact ⟨a,us,rfl,.inr ⟨hh.sq,k _ _ H ho ⟨a,us,rfl,hh,r'⟩ (Kp.refl _ _) hs.ok⟩⟩
def Q2y:List D->(D->Prop)->Prop
 | [.int i],P=>P (.int (if i<0 then -i else i))
 | _,_=>False
theorem J9u:DM W (fun xs H Q=>∃ i,xs=[.int i]/\Q (.int (if i<0 then -i else i)) H) Q2y:=by
 intro M b H xs vs P Q hs rx ho k
 match xs,ho with
 | [.int i],ho =>
   obtain ⟨v,rfl,r⟩:=rx1 rx
   cases (show _=_ from r)
   exact ⟨i,rfl,k _ _ H ho (show _=_ from rfl) (Kp.refl _ _) hs.ok⟩
def o2I (g:Int->Int->Int):List D->(D->Prop)->Prop
 | [.int i,.int j],P=>P (.int (g i j))
 | _,_=>False
theorem J6l {g:Int->Int->Int}:DM W (fun xs H Q=>∃ i j,xs=[.int i,.int j]/\Q (.int (g i j)) H) (o2I g):=by
 intro M b H xs vs P Q hs rx ho k
 match xs,ho with
 | [.int i,.int j],ho =>
   obtain ⟨v,u,rfl,r,r'⟩:=rx2 rx
   cases (show _=_ from r)
   cases (show _=_ from r')
   exact ⟨i,j,rfl,k _ _ H ho (show _=_ from rfl) (Kp.refl _ _) hs.ok⟩
def Q1i (g:List Bool->Bool):List D->(D->Prop)->Prop
 | [x],P=>(asL x).elim False fun xs=>(FG xs).elim False fun ns=>P (.bl (g ns))
 | _,_=>False
theorem CS {g:List Bool->Bool}:DM W (fun xs H Q=>∃ (p:Addr) (bs:List Bool),xs=[.ref p]/\SqL W.K H p (bs.map V.bl)/\Q (.bl (g bs)) H) (Q1i g):=by
 intro M b H xs vs P Q hs rx ho k
 match xs,ho with
 | [x],ho =>
   obtain ⟨v,rfl,r⟩:=rx1 rx
   simp only [Q1i] at ho
   cases ex:asL x with
   | none=>rw [ex] at ho;exact ho.elim
   | some xs =>
     rw [ex] at ho
     simp only [Option.elim] at ho
     cases en:FG xs with
     | none=>rw [en] at ho;exact ho.elim
     | some ns =>
       rw [en] at ho
       cases FG.eq en
       obtain ⟨a,us,rfl,hh,r'⟩:=asL.rep r ex
       cases r'.bls
       exact ⟨a,ns,rfl,SqL.of hh,k _ _ H ho (show _=_ from rfl) (Kp.refl _ _) hs.ok⟩
theorem Q8 (K:Fg)(h:X.K=K):AV X (.builtin "isinstance") (fun xs H Q=>∃ y c t b,xs=[y,.ty c]/\(TyOf K H y t\/∃ a vs,y=.ref a/\KTp K a vs/\t=.type "tuple")/\PySem.W.kitOne K t (.type c)=some b/\Q (.bl b) H):=by
 subst h
 intro pins s σ H xs us Q I rs q
 obtain ⟨y,c,t,b,rfl,ty,e,q⟩:=q
 rcases ty with ty|⟨a,vs,rfl,⟨o,its,n,hk,hc,hs,hz,r⟩,rfl⟩
 · exact SO pins s σ H _ us Q I rs ⟨y,c,t,b,rfl,ty,e,q⟩
 · obtain ⟨u1,u2,rfl,r1,r2⟩:=LL rs
   cases (show u2=Value.type c from r2)
   cases (show u1=Value.ref a from r1)
   refine PySem.W.kia_one PySem.W.kitx_tuple I.kIn ⟨o,I.kIn a o hk,hc⟩ e (fun z=>nomatch z) fun tk=>?_
   exact ⟨.bl b,H,I.tok _,rfl,q⟩
def YQ:D->Option String
 | .non=>some "NoneType"
 | .bl _=>some "bool"
 | .int _=>some "int"
 | .str _=>some "str"
 | .lst _=>some "list"
 | .own _=>some "list"
 | .tup _=>some "tuple"
 | .frg _ (.lst _)=>some "list"
 | _=>none
def Q3d (K:Fg)(t c:String)(b:Bool):Prop:=PySem.W.kitOne K (.type t) (.type c)=some b
def J3v (K:Fg):List D->(D->Prop)->Prop
 | [x,.ty c],P=>match YQ x with|some t=>∃ b,Q3d K t c b/\P (.bl b)|none=>False
 | _,_=>False
theorem Y8:DM W (fun xs H Q=>∃ y c t b,xs=[y,.ty c]/\(TyOf W.K H y t\/∃ a vs,y=.ref a/\KTp W.K a vs/\t=.type "tuple")/\PySem.W.kitOne W.K t (.type c)=some b/\Q (.bl b) H) (J3v W.K):=by
 intro M b H xs vs P Q hs rx ho k
 match xs,ho with
 | [x,.ty c],ho =>
   obtain ⟨v,u,rfl,r,r'⟩:=rx2 rx
   cases (show _=_ from r')
   simp only [J3v] at ho
   split at ho
   case h_2=>exact ho.elim
   case h_1 t et =>
    obtain ⟨q,hq,hp⟩:=ho
    refine ⟨v,c,.type t,q,rfl,?_,hq,k _ _ H hp (show _=_ from rfl) (Kp.refl _ _) hs.ok⟩
    cases x<;>first|cases et|skip
    case non=>cases (show _=_ from r);exact .inl (.non)
    case bl=>cases (show _=_ from r);exact .inl (.bl _)
    case int=>cases (show _=_ from r);exact .inl (.int _)
    case str=>cases (show _=_ from r);exact .inl (.str _)
    case lst=>obtain ⟨a,us,rfl,hh,r'⟩:=r;exact .inl (.lst hh.2)
    case own=>obtain ⟨a,us,rfl,_,_,_,_,hh,r'⟩:=r;exact .inl (.lst hh)
    case frg f d =>
     cases d<;>first|cases et|skip
     case lst=>obtain ⟨a,us,rfl,hh,r'⟩:=r.2.2;exact .inl (.lst hh.2)
    case tup =>
     obtain ⟨a,us,rfl,hh,r'⟩:=r
     exact hh.elim (fun z=>.inl (.tup z.2)) fun z=>.inr ⟨a,us,rfl,z,rfl⟩
end
theorem Reps.plain {H:Hp}:∀ {ds:List D} {vs:List V},Reps K M H ds vs->ds.all plain=true
 | [],_,_=>rfl
 | d::ds,_,h=>by
   obtain ⟨v,r,rfl,h1,h2⟩:=h
   rw [List.all_cons,Reps.plain h2,Bool.and_true]
   cases d<;>first|rfl|exact h1.elim
theorem Reps.xs {W:Wd} {H:Hp}:∀ {ds:List D} {vs:List V},Reps W.K M H ds vs->RepXs W M b H ds vs
 | [],_,h=>h
 | d::ds,_,h=>by
   obtain ⟨v,r,rfl,h1,h2⟩:=h
   exact ⟨v,r,rfl,h1.x,Reps.xs h2⟩
def JY (W:Wd)(J:It)(need:List (D×V))(items:List D):Prop:=∀ M b H,Hs W M b H->(∀ q∈need,RepX W M b H q.1 q.2) ->
 (∀ (i:Nat) d,items[i]?=some d->J.go i H/\∀ x H3,J.yld i H x H3->Same H H3/\RepX W M b H3 d x)/\∀ i,items.length<=i->J.stop i H
def dnI (W:Wd)(fz:Bool)(di:DA):TI:=fun σ H R=>∃ pn M b ρ P,Sta W pn M b H σ ρ/\di ρ P/\∀ items J need H',P items->items.all plain=true->JY W J need items->(∀ q∈need,RepX W M b H' q.1 q.2/\(fz=true->plain q.1=true))->Kp b H H'->okB W.B b H'->R J H'
theorem dnI.elim {W:Wd}{fz:Bool}{d:DA}{σ:St}{H:Hp}{R:It->Hp->Prop}{Z:Prop}(h:dnI W fz d σ H R)(f:∀ pn M b ρ P,Sta W pn M b H σ ρ->d ρ P->(∀ items J need H',P items->items.all plain=true->JY W J need items->(∀ q∈need,RepX W M b H' q.1 q.2/\(fz=true->plain q.1=true))->Kp b H H'->okB W.B b H'->R J H')->Z):Z:=by
 obtain ⟨pn,M,b,ρ,P,st,h,k⟩:=h
 exact f pn M b ρ P st h k
section
variable {X:Cx}{W:Wd}{tg l e a b:Expr}{pos p:Pos}{d dl:DE}{dA:DA}{fz:Bool}
theorem PI.mono {t t':TI}(h:PI X tg l t)(m:∀ σ H R,t' σ H R->t σ H R):PI X tg l t':=fun pins s σ H R I q=>h pins s σ H R I (m σ H R q)
theorem J7w {tl:TE}(K:Fg)(h:X.K=K)(hl:PE X l tl):PI X tg l (fun σ H R=>tl σ H fun x H1=>(∃ a,x=.ref a/\(∃ xs,SqL K H1 a xs)/\R (Itl K a) H1)\/(∃ a,x=.ref a/\(∃ xs,SqT K H1 a xs)/\R (Itt K a) H1)):=by
 subst h
 intro pins s σ H R I h
 refine thn (hl pins s σ H _ I h) fun v s1 ⟨x,H1,I1,r1,q1⟩=>?_
 rcases q1 with ⟨a,e,⟨xs,hq⟩,q⟩|⟨a,e,⟨xs,hq⟩,q⟩
 · subst e
   cases r1
   obtain ⟨its,rv,p,hz⟩:=I1.list hq
   refine wpAny_pyIter_list p.isList ?_
   refine ⟨s1.heap.objs.size,[s1.heap.objs.size],_,_,H1,rfl,I1.kept (t':=s1.toks) fun b o e=>Heap.get?_push_of_some _ e,WP a _,⟨_,Heap.get?_push_size _ rfl,rfl,rfl⟩,fun b hb=>?_,q⟩
   have e:b=s1.heap.objs.size:=by simpa using hb
   subst e
   exact I1.fpOk (Nat.le_refl _) (I1.hok.fresh (Nat.le_refl _))
 · subst e
   cases r1
   obtain ⟨its,rv,p,hz⟩:=I1.tuple hq
   refine wpAny_pyIter_tuple (show s1.heap.IsTuple a its.toArray from p) ?_
   refine ⟨s1.heap.objs.size,[s1.heap.objs.size],_,_,H1,rfl,I1.kept (t':=s1.toks) fun b o e=>Heap.get?_push_of_some _ e,SU a _,⟨_,Heap.get?_push_size _ rfl,rfl,rfl⟩,fun b hb=>?_,q⟩
   have e:b=s1.heap.objs.size:=by simpa using hb
   subst e
   exact I1.fpOk (Nat.le_refl _) (I1.hok.fresh (Nat.le_refl _))
def Q1n (fz:Bool)(dl:DE):DA:=fun ρ P=>dl ρ fun x=>match x with
 | .lst xs=>P xs
 | .tup xs=>P xs
 | .own xs=>fz=false/\P xs
 | _=>False
theorem J0l {x:D}{xs:List D}{a:Addr}(hx:asL x=some xs):JY W (Itl W.K a) [(x,.ref a)] xs:=by
 intro M b H hs hn
 obtain ⟨a',vs,e,hh,r⟩:=asL.rep (hn _ (List.mem_singleton.mpr rfl)) hx
 cases e
 refine ⟨fun i d e=>?_,fun i hi=>⟨vs,SqL.of hh,by rw [r.length];exact hi⟩⟩
 obtain ⟨v,e1,r1⟩:=r.get e
 refine ⟨⟨vs,v,SqL.of hh,e1⟩,fun y H3 ⟨eH,hy⟩=>?_⟩
 subst eH
 have:=hy vs (SqL.of hh)
 rw [e1] at this;cases this
 exact ⟨Same.refl _,r1.x⟩
theorem J8m {xs:List D}{a:Addr}:JY W (Itt W.K a) [(.tup xs,.ref a)] xs:=by
 intro M b H hs hn
 obtain ⟨a',vs,e,hh,r⟩:=hn _ (List.mem_singleton.mpr rfl)
 cases e
 refine ⟨fun i d e=>?_,fun i hi=>⟨vs,hh.sq,by rw [r.length];exact hi⟩⟩
 obtain ⟨v,e1,r1⟩:=r.get e
 refine ⟨⟨vs,v,hh.sq,e1⟩,fun y H3 ⟨eH,hy⟩=>?_⟩
 subst eH
 have:=hy vs (hh.sq)
 rw [e1] at this;cases this
 exact ⟨Same.refl _,r1.x⟩
theorem ZW {b:Option Addr}{H:Hp}{x:D}{v:V}(r:RepX W M b H x v)(h:fz=true->plain x=true):∀ q∈[(x,v)],RepX W M b H q.1 q.2/\(fz=true->plain q.1=true):=fun q hq=>by
 have e:=List.mem_singleton.mp hq
 subst e
 exact ⟨r,h⟩
theorem J8z (hK:X.K=W.K)(hl:PE X l (dn W dl)):PI X tg l (dnI W fz (Q1n fz dl)):=(J7w W.K hK hl).mono fun σ H R hh=>hh.elim fun pn M b ρ P st h k=>by
 refine ⟨pn,M,b,ρ,_,st,h,fun x v H1 hx rx k1 o1=>?_⟩
 cases x<;>first|exact hx.elim|skip
 case lst xs =>
  obtain ⟨a,vs,rfl,hh,r⟩:=(show RepX W M b H1 (.lst xs) v from rx)
  exact .inl ⟨a,rfl,⟨vs,SqL.of hh.2⟩,k xs _ _ H1 hx r.plain (J0l (x:=.lst xs) rfl) (ZW rx fun _=>rfl) k1 o1⟩
 case tup xs =>
  obtain ⟨a,vs,rfl,hh,r⟩:=(show RepX W M b H1 (.tup xs) v from rx)
  exact .inr ⟨a,rfl,⟨vs,hh.sq⟩,k xs _ _ H1 hx r.plain J8m (ZW rx fun _=>rfl) k1 o1⟩
 case own xs =>
  obtain ⟨a,vs,rfl,m1,m2,m3,m4,hh,r⟩:=(show RepX W M b H1 (.own xs) v from rx)
  exact .inl ⟨a,rfl,⟨vs,SqL.of hh⟩,k xs _ _ H1 hx.2 r.plain (J0l (x:=.own xs) rfl) (ZW rx fun z=>by rw [hx.1] at z;cases z) k1 o1⟩
def CF (lo:Int)(n:Nat):List D:=(List.range n).map fun (i:Nat)=>.int (lo+i)
theorem IF (lo:Int)(n:Nat):(CF lo n).all plain=true:=by
 simp [CF,plain]
theorem RQ {lo:Int}{n:Nat}:JY W (Itr lo n) [] (CF lo n):=by
 intro M b H hs _
 refine ⟨fun i d e=>?_,fun i hi=>by show n<=i;simpa [CF] using hi⟩
 have hi:i<n:=by
  have:=(List.getElem?_eq_some_iff.mp e).1
  simpa [CF] using this
 refine ⟨hi,fun x H3 ⟨eH,ex⟩=>?_⟩
 subst eH ex
 refine ⟨Same.refl _,?_⟩
 simp [CF,hi] at e
 subst e
 exact (show _=_ from rfl)
def LG (dA:DA):DA:=fun ρ P=>dA ρ fun xs=>match xs with
 | [.int j]=>(-(2 ^ 62)<=j/\j<2 ^ 62)/\P (CF 0 j.toNat)
 | _=>False
theorem XV (hg:Gl X "range") (hm:X.mg "range" = none) (ha:PA X [a] (dnA W dA)) (hs:starEach [a] X.env=[(false,eval a X.env)]:=by rfl):PI X tg (.Call (.Name "range" p) [a] [] pos) (dnI W fz (LG dA)):=(NQ hg hm ha hs).mono fun σ H R hh=>hh.elim fun pn M b ρ P st h k=>by
 refine ⟨pn,M,b,ρ,_,st,h,fun xs vs H1 hx rx k1 o1=>?_⟩
 match xs,hx with
 | [.int j],hx =>
   obtain ⟨v,rfl,r⟩:=rx1 rx
   cases (show _=_ from r)
   exact ⟨j,rfl,hx.1.1,hx.1.2,k _ _ _ H1 hx.2 (IF _ _) RQ (fun q hq=>by cases hq) k1 o1⟩
end
def GD (W:Wd)(g:TG)(gd:D->Ev->(Ev->Prop)->Prop):Prop:=∀ pn M b H σ ρ x v Q P,Sta W pn M b H σ ρ->RepX W M b H x v->plain x=true->gd x ρ P->(∀ ρ' σ',P ρ'->Sta W pn M b H σ' ρ'->(∀ (i:Nat) d,mine d=true->ρ'[i]?=some (some d)->ρ[i]?=some (some d)/\σ'[i]?=σ[i]?)->Q σ' H)->g v σ H Q
theorem Sta.set {W:Wd}{pn:List (D×V)} {H:Hp}{σ:St}{ρ:Ev}{x:D}{v:V}(s:Sta W pn M b H σ ρ)(j:Nat)(r:RepX W M b H x v):Sta W pn M b H (σ.set j (some v)) (ρ.set j (some x)) where
 toHs:=s.toHs
 kp:=s.kp
 new:=s.new
 len:=by simp [s.len]
 pin:=s.pin
 env:=fun i d e=>by
  by_cases z:j=i
  · subst z
    rw [List.getElem?_set] at e
    simp at e
    obtain ⟨hl,rfl⟩:=e
    exact ⟨v,by rw [List.getElem?_set];simp [<- s.len,hl],r⟩
  · rw [List.getElem?_set_ne z] at e
    obtain ⟨w,e1,r1⟩:=s.env i d e
    exact ⟨w,by rw [List.getElem?_set_ne z];exact e1,r1⟩
theorem OT {ρ:Ev}{σ:St}{j:Nat}{x:D}{v:V}(p:plain x=true):∀ (i:Nat) d,mine d=true->(ρ.set j (some x))[i]?=some (some d)->ρ[i]?=some (some d)/\(σ.set j (some v))[i]?=σ[i]?:=fun i d hm e=>by
 by_cases z:j=i
 · subst z
   rw [List.getElem?_set] at e
   simp at e
   obtain ⟨hl,rfl⟩:=e
   cases x<;>first|(cases hm;done)|(cases p;done)
 · rw [List.getElem?_set_ne z] at e
   exact ⟨e,by rw [List.getElem?_set_ne z]⟩
def gdN (j:Nat):D->Ev->(Ev->Prop)->Prop:=fun x ρ P=>P (ρ.set j (some x))
theorem V5 {W:Wd}(j:Nat):GD W (RT j) (gdN j):=fun pn M b H σ ρ x v Q P st r p h k=>k _ _ h (st.set j r) (OT p)
def LP:List Nat->List D->Ev->Ev
 | j::js,x::xs,ρ=>LP js xs (ρ.set j (some x))
 | _,_,ρ=>ρ
def GL:List Nat->TGs
 | []=>J8n
 | j::js=>VN (RT j) (GL js)
def Q1p (K:Fg)(n:Nat)(t:TGs):TG:=fun v σ H Q=>J4e K n t v σ H Q\/Q1q K n t v σ H Q
def gdU (js:List Nat):D->Ev->(Ev->Prop)->Prop:=fun x ρ P=>match x with
 | .tup xs=>xs.length=js.length/\P (LP js xs ρ)
 | .lst xs=>xs.length=js.length/\P (LP js xs ρ)
 | _=>False
theorem ML {W:Wd}{pn:List (D×V)} {H:Hp}{Q:St->Hp->Prop}{P:Ev->Prop}:∀ (js:List Nat) (xs:List D) (vs:List V) (σ:St) (ρ:Ev),Sta W pn M b H σ ρ->Reps W.K M H xs vs->xs.length=js.length->P (LP js xs ρ)->(∀ ρ' σ',P ρ'->Sta W pn M b H σ' ρ'->(∀ (i:Nat) d,mine d=true->ρ'[i]?=some (some d)->ρ[i]?=some (some d)/\σ'[i]?=σ[i]?)->Q σ' H)->GL js vs σ H Q
 | [],[],vs,σ,ρ,st,r,hl,h,k=>⟨r,k _ _ h st fun _ _ _ e=>⟨e,rfl⟩⟩
 | j::js,x::xs,vs,σ,ρ,st,r,hl,h,k=>by
   obtain ⟨v,us,rfl,r1,r2⟩:=r
   refine ⟨v,us,rfl,?_⟩
   have p:plain x=true:=by cases x<;>first|rfl|exact r1.elim
   refine ML js xs us _ (ρ.set j (some x)) (st.set j r1.x) r2 (by simpa using hl) h fun ρ' σ' hp st' ho=>k ρ' σ' hp st' fun i xs hm e=>?_
   obtain ⟨z1,z2⟩:=ho i xs hm e
   obtain ⟨z3,z4⟩:=OT (v:=v) (σ:=σ) p i xs hm z1
   exact ⟨z3,z2.trans z4⟩
theorem DX {W:Wd}(js:List Nat):GD W (Q1p W.K js.length (GL js)) (gdU js):=fun pn M b H σ ρ x v Q P st r p h k=>by
 cases x<;>first|exact h.elim|skip
 case tup xs =>
  obtain ⟨a,vs,rfl,hh,r⟩:=r
  exact .inl ⟨a,vs,rfl,hh.sq,by rw [r.length];exact h.1,ML js xs vs σ ρ st r h.1 h.2 k⟩
 case lst xs =>
  obtain ⟨a,vs,rfl,hh,r⟩:=r
  exact .inr ⟨a,vs,rfl,SqL.of hh.2,by rw [r.length];exact h.1,ML js xs vs σ ρ st r h.1 h.2 k⟩
theorem PG.or {X:Cx}{tg:Expr}{t u:TG}(h:PG X tg t)(h':PG X tg u):PG X tg (fun v σ H Q=>t v σ H Q\/u v σ H Q):=by
 intro pins s σ H v u' Q I r q
 rcases q with q|q
 · exact h pins s σ H v u' Q I r q
 · exact h' pins s σ H v u' Q I r q
theorem JN {js:List Nat}{n:Nat}{map:List (Option Nat)}(hj:∀ j∈js,map[j]?=some none):GU (Q1p K n (GL js)) map:=by
 have key:∀ (js:List Nat),(∀ j∈js,map[j]?=some none)->∀ vs σ H Q,GL js vs σ H Q->GL js vs σ H fun σ' H'=>(σ'.length=σ.length/\∀ j i:Nat,map[j]?=some (some i)->σ'[j]?=σ[j]?)/\Q σ' H':=by
  intro js
  induction js with
  | nil=>intro _ vs σ H Q h;exact ⟨h.1,⟨rfl,fun _ _ _=>rfl⟩,h.2⟩
  | cons j js ih =>
    intro hj vs σ H Q h
    obtain ⟨v,r,e,h⟩:=h
    refine ⟨v,r,e,?_⟩
    have q:=ih (fun j' m=>hj j' (.tail _ m)) r _ H _ h
    have mono:∀ (js:List Nat) vs σ H (Q Q':St->Hp->Prop),(∀ s h,Q s h->Q' s h)->GL js vs σ H Q->GL js vs σ H Q':=by
     intro js
     induction js with
     | nil=>intro vs σ H Q Q' m h;exact ⟨h.1,m _ _ h.2⟩
     | cons j js ih=>intro vs σ H Q Q' m ⟨v,r,e,h⟩;exact ⟨v,r,e,ih _ _ _ _ _ m h⟩
    refine mono js r _ H _ _ (fun s h ⟨⟨l,z⟩,w⟩=>⟨⟨by rw [l];simp,fun j' i hm=>?_⟩,w⟩) q
    rw [z j' i hm]
    have n1:j≠j':=fun z=>by
     have:=hj j (.head _)
     rw [z,hm] at this;cases this
    rw [List.getElem?_set_ne n1]
 intro v σ H Q h
 rcases h with ⟨a,xs,e,s,l,h⟩|⟨a,xs,e,s,l,h⟩
 · exact .inl ⟨a,xs,e,s,l,key js hj _ _ _ _ h⟩
 · exact .inr ⟨a,xs,e,s,l,key js hj _ _ _ _ h⟩
def IQ (ρ:Ev)(map:List (Option Nat)):Ev:=map.map fun o=>o.bind fun i=>(ρ[i]?).join
def PX (gd:D->Ev->(Ev->Prop)->Prop)(dt:DT)(de:DE)(ρc:Ev):List D->List D->(List D->Prop)->Prop
 | [],acc,P=>P acc
 | x::xs,acc,P=>gd x ρc fun ρ1=>dt ρ1 fun c=>IfP c (de ρ1 fun y=>plain y=true/\PX gd dt de ρc xs (acc++[y]) P) (PX gd dt de ρc xs acc P)
inductive compI (gd:D->Ev->(Ev->Prop)->Prop)(dt:DT)(de:DE)(ρc:Ev)(items:List D)(P:List D->Prop):Prop
 | mk (I:Nat->List D->Prop) (h0:I 0 []) (hs:∀ (i:Nat) x acc,items[i]?=some x->I i acc->gd x ρc fun ρ1=>dt ρ1 fun c=>IfP c (de ρ1 fun y=>plain y=true/\I (i+1) (acc++[y])) (I (i+1) acc)) (hd:∀ acc,I items.length acc->P acc):compI gd dt de ρc items P
theorem J1m {gd:D->Ev->(Ev->Prop)->Prop}{dt:DT}{de:DE}{ρc:Ev}{items:List D}{P:List D->Prop}(h:PX gd dt de ρc items [] P):compI gd dt de ρc items P:=by
 refine ⟨fun i acc=>PX gd dt de ρc (items.drop i) acc P,h,fun i x acc e q=>?_,fun acc q=>?_⟩
 · obtain ⟨hlt,rfl⟩:=List.getElem?_eq_some_iff.mp e
   try dsimp only at q
   rw [List.drop_eq_getElem_cons hlt] at q
   exact q
 · (try dsimp only at q);rw [List.drop_length] at q;exact q
def J6k (map:List (Option Nat))(gd:D->Ev->(Ev->Prop)->Prop)(di:DA)(dt:DT)(de:DE):DE:=fun ρ P=>di ρ fun items=>items.length<=1000/\compI gd dt de (IQ ρ map) items fun acc=>P (.lst acc)
theorem Sta.capt {W:Wd}{pn:List (D×V)} {H:Hp}{σ:St}{ρ:Ev}(s:Sta W pn M b H σ ρ)(map:List (Option Nat)):Sta W pn M b H (capt σ map) (IQ ρ map) where
 toHs:=s.toHs
 kp:=s.kp
 new:=s.new
 len:=by simp [L2.capt,IQ]
 pin:=s.pin
 env:=fun j d e=>by
  unfold IQ at e
  rw [List.getElem?_map] at e
  simp only [Option.map_eq_some_iff] at e
  obtain ⟨o,e1,e2⟩:=e
  simp only [Option.bind_eq_some_iff] at e2
  obtain ⟨i,rfl,e3⟩:=e2
  have e4:ρ[i]?=some (some d):=by
   cases q:ρ[i]? with
   | none=>rw [q] at e3;cases e3
   | some z=>rw [q] at e3;exact congrArg some e3
  obtain ⟨v,e5,r⟩:=s.env i d e4
  exact ⟨v,by unfold L2.capt;rw [List.getElem?_map,e1];simp [e5],r⟩
theorem MN {W:Wd}{pn:List (D×V)}{M:Addr->Prop}{b:Option Addr}{H:Hp}{σ:St}{ρ:Ev}{J:It}{need:List (D×V)}{items:List D}{g:TG}{gd:D->Ev->(Ev->Prop)->Prop}{dt:DT}{de:DE}{P:List D->Prop}{Fin:List V->Hp->Prop}
 (hG:GD W g gd) (st:Sta W pn M b H σ ρ) (hp:items.all plain=true) (hI:JY W J need items) (hn:∀ q∈need,RepX W M b H q.1 q.2) (hl:items.length<=1000) (h:compI gd dt de ρ items P)
 (fin:∀ ds acc H',P ds->Reps W.K M H' ds acc->acc.length<=sizeLine->Kp b H H'->okB W.B b H'->Fin acc H'):∃ Wf:Nat->Nat->List V->Hp->Prop,(∃ m,Wf 0 m [] H)/\KI J g (dnT W dt) (dn W de) σ Fin Wf:=by
 obtain ⟨I,i0,istep,idone⟩:=h
 refine ⟨fun i m acc H2=>m=items.length - i/\i<=items.length/\acc.length<=i/\Kp b H H2/\okB W.B b H2/\∃ ds,Reps W.K M H2 ds acc/\I i ds,⟨items.length,by simp,Nat.zero_le _,Nat.le_refl _,Kp.refl _ _,st.ok,[],rfl,i0⟩,?_⟩
 rintro i m acc H2 ⟨rfl,hi,ha,k2,o2,ds,r,q⟩
 have st2:=st.step k2 o2
 obtain ⟨hgo,hstop⟩:=hI M b H2 st2.toHs fun q hq=>(hn q hq).step st.bagM k2
 by_cases hlt:i<items.length
 · have ei:items[i]?=some items[i]:=List.getElem?_eq_getElem hlt
   replace q:=istep i _ ds ei q
   refine .inr ⟨(hgo i _ ei).1,by have:=BS;omega,fun acc' H'=>acc'.length<=i+1/\Kp b H H'/\okB W.B b H'/\∃ ds,Reps W.K M H' ds acc'/\I (i+1) ds,fun acc' H' n=>⟨items.length - (i+1),by omega,rfl,hlt,n⟩,fun x H3 y=>?_⟩
   obtain ⟨S3,rx⟩:=(hgo i _ ei).2 x H3 y
   have o3:okB W.B b H3:=fun p e=>W.B.st p H2 H3 (o2 p e) fun o e'=>S3 p o e'
   have k3:Kp b H2 H3:=Kp.same S3
   have st3:=st2.step k3 o3
   refine hG pn M b H3 σ ρ items[i] x _ _ st3 rx (List.all_eq_true.mp hp _ (List.getElem_mem hlt)) q fun ρ1 σ1 h1 st4 _=>?_
   refine ⟨pn,M,b,ρ1,_,st4,h1,fun c H5 h5 k5 o5=>?_⟩
   cases h5 with
   | t e h5 =>
     rw [if_pos e]
     refine ⟨pn,M,b,ρ1,_,st4.step k5 o5,h5,fun y v H6 h6 ry k6 o6=>?_⟩
     have kk:=((k3.trans k5).trans k6)
     refine ⟨by simp;omega,k2.trans kk,o6,ds++[y],Reps.append (Reps.keep (fun c o n e=>kk c o (fun z=>n (st.bagM c z)) e) _ _ r) ⟨v,[],rfl,ry.rep h6.1,rfl⟩,h6.2⟩
   | f e h5 =>
     rw [if_neg (by rw [e];exact Bool.false_ne_true)]
     have kk:=k3.trans k5
     exact ⟨by omega,k2.trans kk,o5,ds,Reps.keep (fun c o n e=>kk c o (fun z=>n (st.bagM c z)) e) _ _ r,h5⟩
 · have e:i=items.length:=by omega
   subst e
   exact .inl ⟨hstop _ (Nat.le_refl _),by have:=BS;omega,fin ds acc H2 (idone _ q) r (by have:=BS;omega) k2 o2⟩
section
variable {X:Cx}{W:Wd}{elt iter tg:Expr}{ifs:List Expr}{scope:Scope}{pos:Pos}{N':List Str}{map:List (Option Nat)}{g:TG}{gd:D->Ev->(Ev->Prop)->Prop}{di:DA}{dt:DT}{de:DE}
theorem J4s (hG:GD W g gd)(B:Blk X N' scope map tg elt ifs g (dnT W dt) (dn W de))(hi:PI X tg iter (dnI W false di))(hs:∀ x,foldedSetIterable iter X.env x=pure x:=by intro _;rfl):PE X (.ListComp elt [⟨tg,iter,ifs,0⟩] scope pos) (dn W (J6k map gd di dt de)):=(VC B hi hs).mono fun σ H Q hh=>hh.elim fun pn M b ρ P st h k=>by
 refine ⟨pn,M,b,ρ,_,st,h,fun items J need H1 hx hp hI hn k1 o1=>?_⟩
 have st1:=st.step k1 o1
 refine MN hG (st1.capt map) hp hI (fun q hq=>(hn q hq).1) hx.1 hx.2 fun ds acc H' hP r hl k2 o2 D hD=>?_
 exact k _ _ _ hP (EA (st1.step k2 o2).toHs r hD) ((k1.trans k2).trans (Kp.upd hD)) ((st1.step k2 o2).okU hD)
def SA:DT:=fun _ P=>P true
theorem J4q:PIf X [] (dnT W SA):=fun pins s σ H Q I hh=>hh.elim fun pn M b ρ P st h k=>VB pins s σ H Q I (k true H h (Kp.refl _ _) st.ok)
theorem J4p {c:Expr}(hc:PT X c (dnT W dt)):PIf X [c] (dnT W dt):=J3m hc
end
structure StS (W:Wd)(pn:List (D×V))(M:Addr->Prop)(b:Option Addr)(H:Hp)(σ:St)(ρ:Ev):Prop extends Sta W pn M b H σ ρ where
 dj:∀ (i j:Nat) d e v u c,ρ[i]?=some (some d)->ρ[j]?=some (some e)->σ[i]?=some (some v)->σ[j]?=some (some u)->EY d v c->EY e u c->i=j
 lj:∀ ys a,(D.own ys,V.ref a)∈pn->∀ (i:Nat) d v,ρ[i]?=some (some d)->σ[i]?=some (some v)->¬ EY d v a
theorem StS.own {W:Wd}{pn:List (D×V)} {H:Hp}{σ:St}{ρ:Ev}(s:StS W pn M b H σ ρ):∀ (i j:Nat) xs ys a,ρ[i]?=some (some (.own xs))->ρ[j]?=some (some (.own ys))->σ[i]?=some (some (.ref a))->σ[j]?=some (some (.ref a))->i=j:=fun i j xs ys a e1 e2 e3 e4=>s.dj i j _ _ _ _ a e1 e2 e3 e4 rfl rfl
theorem StS.lk {W:Wd}{pn:List (D×V)} {H:Hp}{σ:St}{ρ:Ev}(s:StS W pn M b H σ ρ):∀ ys a,(D.own ys,V.ref a)∈pn->∀ (i:Nat) xs,ρ[i]?=some (some (.own xs))->σ[i]?≠some (some (.ref a)):=fun ys a hq i xs e y=>s.lj ys a hq i _ _ e y rfl
theorem StS.step {W:Wd}{pn:List (D×V)} {H H':Hp}{σ:St}{ρ:Ev}(s:StS W pn M b H σ ρ)(k:Kp b H H')(o:okB W.B b H'):StS W pn M b H' σ ρ:=⟨s.toSta.step k o,s.dj,s.lj⟩
theorem StS.of2 {W:Wd}{pn pn':List (D×V)}{M M':Addr->Prop}{b b':Option Addr}{H H':Hp}{σ σ':St}{ρ ρ':Ev}(s:StS W pn M b H σ ρ)(t:Sta W pn' M' b' H' σ' ρ')(hp:∀ ys a,(D.own ys,V.ref a)∈pn'->(D.own ys,V.ref a)∈pn)(h:∀ (i:Nat) d v c,ρ'[i]?=some (some d)->σ'[i]?=some (some v)->EY d v c->∃ d0,ρ[i]?=some (some d0)/\σ[i]?=some (some v)/\EY d0 v c):StS W pn' M' b' H' σ' ρ' :=
 ⟨t,fun i j d e v u c e1 e2 e3 e4 m1 m2=>by
  obtain ⟨d0,z1,z2,z3⟩:=h i d v c e1 e3 m1
  obtain ⟨d1,y1,y2,y3⟩:=h j e u c e2 e4 m2
  exact s.dj i j d0 d1 v u c z1 y1 z2 y2 z3 y3,fun ys a hq i d v e1 e2 m=>by
  obtain ⟨d0,z1,z2,z3⟩:=h i d v a e1 e2 m
  exact s.lj ys a (hp ys a hq) i d0 v z1 z2 z3⟩
theorem StS.of {W:Wd}{pn:List (D×V)}{M M':Addr->Prop}{b b':Option Addr}{H H':Hp}{σ σ':St}{ρ ρ':Ev}(s:StS W pn M b H σ ρ)(t:Sta W pn M' b' H' σ' ρ')(h:∀ (i:Nat) d,mine d=true->ρ'[i]?=some (some d)->ρ[i]?=some (some d)/\σ'[i]?=σ[i]?):StS W pn M' b' H' σ' ρ' :=
 s.of2 t (fun _ _ q=>q) fun i d v c e1 e2 m=>by
  obtain ⟨z1,z2⟩:=h i d m.m e1
  exact ⟨d,z1,z2▸e2,m⟩
theorem StS.add {W:Wd}{pn:List (D×V)}{M M':Addr->Prop}{b b':Option Addr}{H H':Hp}{σ:St}{ρ:Ev}(s:StS W pn M b H σ ρ)(i:Nat){d:D}{v:V}(t:Sta W pn M' b' H' (σ.set i (some v)) (ρ.set i (some d)))(h:∀ c,EY d v c->¬ M c):StS W pn M' b' H' (σ.set i (some v)) (ρ.set i (some d)):=by
 have slot:∀ (j:Nat) e u,(ρ.set i (some d))[j]?=some (some e)->(σ.set i (some v))[j]?=some (some u)->(j=i/\e=d/\u=v)\/(j≠i/\ρ[j]?=some (some e)/\σ[j]?=some (some u)):=fun j e u e1 e2=>by
  by_cases z:i=j
  · subst z
    rw [List.getElem?_set] at e1 e2
    simp at e1 e2
    exact .inl ⟨rfl,e1.2.symm,e2.2.symm⟩
  · rw [List.getElem?_set_ne z] at e1 e2
    exact .inr ⟨fun y=>z y.symm,e1,e2⟩
 have old:∀ (j:Nat) e u c,ρ[j]?=some (some e)->σ[j]?=some (some u)->EY e u c->M c:=fun j e u c e1 e2 m=>by
  obtain ⟨w,e3,r⟩:=s.env j e e1
  rw [e2] at e3;cases e3
  exact (r.mine m).1
 refine ⟨t,fun j k e f u w c e1 e2 e3 e4 m1 m2=>?_,fun ys a hq j e u e1 e2 m=>?_⟩
 · rcases slot j e u e1 e3 with ⟨z1,z2,z3⟩|⟨z1,z2,z3⟩<;>rcases slot k f w e2 e4 with ⟨y1,y2,y3⟩|⟨y1,y2,y3⟩
   · rw [z1,y1]
   · subst z2 z3;exact absurd (old k f w c y2 y3 m2) (h c m1)
   · subst y2 y3;exact absurd (old j e u c z2 z3 m1) (h c m2)
   · exact s.dj j k e f u w c z2 y2 z3 y3 m1 m2
 · rcases slot j e u e1 e2 with ⟨z1,z2,z3⟩|⟨z1,z2,z3⟩
   · subst z2 z3
     obtain ⟨a2,us2,ev,n1,_⟩:=(s.pin _ hq)
     cases ev
     exact absurd n1 (h a m)
   · exact s.lj ys a hq j e u z2 z3 m
structure DEnds where
 nx:Ev->Prop
 rt:D->Prop
 bk:Ev->Prop:=fun _=>False
 ct:Ev->Prop:=fun _=>False
 ro:List D->Prop:=fun _=>False
abbrev DS:=DEnds->Ev->Prop
structure Link (W:Wd)(pn:List (D×V))(E:Ends)(F:DEnds):Prop where
 nx:∀ M b ρ σ H,StS W pn M b H σ ρ->F.nx ρ->E.nx σ H
 rt:∀ d v H,F.rt d->Rep W.K W.M0 H d v->Kp W.b0 W.H0 H->okB W.B W.b0 H->E.rt v H
 bk:∀ M b ρ σ H,StS W pn M b H σ ρ->F.bk ρ->E.bk σ H
 ct:∀ M b ρ σ H,StS W pn M b H σ ρ->F.ct ρ->E.ct σ H
 ro:∀ xs a vs H,F.ro xs->W.H0 a=none->¬ W.M0 a->H a=some (.lst vs)->Reps W.K (fun c=>W.M0 c\/c=a) H xs vs->Kp W.b0 W.H0 H->okB W.B W.b0 H->E.rt (.ref a) H
def sn (W:Wd)(d:DS):TS:=fun E σ H=>∃ pn M b ρ F,StS W pn M b H σ ρ/\Link W pn E F/\d F ρ
theorem sn.elim {W:Wd}{d:DS}{E:Ends}{σ:St}{H:Hp}{Z:Prop}(h:sn W d E σ H)(f:∀ pn M b ρ F,StS W pn M b H σ ρ->Link W pn E F->d F ρ->Z):Z:=by
 obtain ⟨pn,M,b,ρ,F,s,l,h⟩:=h
 exact f pn M b ρ F s l h
section
variable {X:Cx}{W:Wd}{e a b c tg iter l:Expr}{es:List Expr}{pos p:Pos}{d db de:DE}{dA di:DA}{dt:DT}{st:Stmt}{rest sts:List Stmt}{d1 d2:DS}{t:TS}
theorem PS.mono {t':TS}(h:PS X st t)(m:∀ E σ H,t' E σ H->t E σ H):PS X st t':=fun pins s σ H D I q=>h pins s σ H D I (m D σ H q)
theorem PSs.mono {t':TS}(h:PSs X sts t)(m:∀ E σ H,t' E σ H->t E σ H):PSs X sts t':=fun pins s σ H D I q=>h pins s σ H D I (m D σ H q)
def J6i:DS:=fun F ρ=>F.nx ρ
def Q1y (d1 d2:DS):DS:=fun F ρ=>d1 { F with nx:=d2 F } ρ
theorem J4j:PSs X [] (sn W J6i):=LC.mono fun E σ H hh=>hh.elim fun pn M b ρ F s l h=>l.nx _ _ _ _ _ s h
theorem J4i (h:PS X st (sn W d1)):PSs X [st] (sn W d1):=FN h
theorem J0v (h1:PS X st (sn W d1))(h2:PSs X rest (sn W d2)):PSs X (st::rest) (sn W (Q1y d1 d2)):=(AW h1 h2).mono fun E σ H hh=>hh.elim fun pn M b ρ F s l h=>⟨pn,M,b,ρ,{ F with nx:=d2 F },s,⟨fun M b ρ σ H s' h'=>⟨pn,M,b,ρ,F,s',l,h'⟩,l.rt,l.bk,l.ct,l.ro⟩,h⟩
def Q2a (de:DE):DS:=fun F ρ=>de ρ fun x=>match x with|.own xs=>F.rt (.lst xs)|.bag=>False|.frg _ _=>False|x=>F.rt x
theorem UW {b:Option Addr}{H:Hp}{x:D}{v:V}(hs:Hs W M b H)(r:Rep W.K M H x v):Rep W.K W.M0 H x v:=Rep.avoid (fun c m=>.inl (hs.m0 c m)) _ _ r
theorem J8w (he:PE X e (dn W de)):PS X (.Return (some e) pos) (sn W (Q2a de)):=(HR he).mono fun E σ H hh=>hh.elim fun pn M b ρ F s l h=>by
 refine ⟨pn,M,b,ρ,_,s.toSta,h,fun x v H' hx rx k o=>?_⟩
 have s':=s.toSta.step k o
 cases x
 case own xs =>
  obtain ⟨a,vs,rfl,m,n,n0,m0,hh,r⟩:=rx
  exact l.rt _ _ H' hx ⟨a,vs,rfl,⟨m0,hh⟩,Reps.avoid (fun c m=>.inl (s'.m0 c m)) _ _ r⟩ s'.kp s'.ok0
 case bag=>exact hx.elim
 case frg=>exact hx.elim
 all_goals exact l.rt _ _ H' hx (UW s'.toHs (RepX.rep rx rfl)) s'.kp s'.ok0
def J6j (de:DE):DS:=fun F ρ=>de ρ fun _=>F.nx ρ
theorem J4m (he:PE X e (dn W de))(hs:swapsWith e none pos.line X.env=pure false:=by rfl):PS X (.Expr e pos) (sn W (J6j de)):=(FP he hs).mono fun E σ H hh=>hh.elim fun pn M b ρ F s l h=>⟨pn,M,b,ρ,_,s.toSta,h,fun x v H' hx rx k o=>l.nx _ _ _ _ _ (s.step k o) hx⟩
def Q2f (dt:DT)(d1 d2:DS):DS:=fun F ρ=>dt ρ fun c=>IfP c (d1 F ρ) (d2 F ρ)
theorem Q1r {s1 s2:List Stmt}(hc:PT X c (dnT W dt))(ha:PSs X s1 (sn W d1))(hb:PSs X s2 (sn W d2)):PS X (.If c s1 s2 pos) (sn W (Q2f dt d1 d2)):=(UZ hc ha hb).mono fun E σ H hh=>hh.elim fun pn M b ρ F s l h=>by
 refine ⟨pn,M,b,ρ,_,s.toSta,h,fun x H' hx k o=>?_⟩
 cases hx with
 | t e hx=>rw [if_pos e];exact ⟨pn,M,b,ρ,F,s.step k o,l,hx⟩
 | f e hx=>rw [if_neg (by rw [e];exact Bool.false_ne_true)];exact ⟨pn,M,b,ρ,F,s.step k o,l,hx⟩
def J1g (de:DE)(gd:D->Ev->(Ev->Prop)->Prop):DS:=fun F ρ=>de ρ fun x=>plain x=true/\gd x ρ F.nx
theorem YO {g:TG}{gd:D->Ev->(Ev->Prop)->Prop}(hG:GD W g gd):∀ E σ H,sn W (J1g de gd) E σ H->WQ (dn W de) g E σ H:=fun E σ H hh=>hh.elim fun pn M b ρ F s l h=>by
 refine ⟨pn,M,b,ρ,_,s.toSta,h,fun x v H' hx rx k o=>?_⟩
 exact hG pn M b H' σ ρ x v E.nx F.nx (s.toSta.step k o) rx hx.1 hx.2 fun ρ' σ' hp st' ho=>l.nx _ _ _ _ _ (s.of st' ho) hp
theorem J8v {i:Nat} {x:Str} {pos':Pos} (hN:X.N.Nodup) (hi:X.N[i]?=some x) (hx:Loc X.env.scope x) (he:PE X e (dn W de)) (hs:swapsWith e (some (.Name x pos')) pos.line X.env=pure false:=by rfl) (hf:X.fn x=true\/X.env.scope.names.lookup x=some .local:=by first|exact .inl rfl|exact .inr rfl|assumption) :
 PS X (.Assign [.Name x pos'] e pos) (sn W (J1g de (gdN i))):=(BR hN hi hx he hs hf).mono (YO (V5 i))
theorem J8y {g:TG}{gd:D->Ev->(Ev->Prop)->Prop}(hG:GD W g gd)(he:PE X e (dn W de))(hg:PG X tg g)(hs:swapsWithSole [tg] e pos.line X.env=pure false:=by rfl)(hw:swappedStores [tg] e X.env=pure none:=by rfl)
 (h1:(assignEach [tg] X.env).map (·.2)=[assign tg X.env]:=by rfl):PS X (.Assign [tg] e pos) (sn W (J1g de gd)):=(IY he hg hs hw h1).mono (YO hG)
theorem StS.newOwn {pn:List (D×V)} {b:Option Addr}{H:Hp}{σ:St}{ρ:Ev}{xs:List D}{vs:List V}{p:Addr}(s:StS W pn M b H σ ρ)(i:Nat)(r:Reps W.K M H xs vs)(h:H p=none) :
 StS W pn (fun c=>M c\/c=p) b (upd H p (.lst vs)) (σ.set i (some (.ref p))) (ρ.set i (some (.own xs))):=by
 have hM:∀ c,(M c\/c=p)->M c\/H c=none:=fun c hc=>hc.imp id (fun z=>by rw [z];exact h)
 have kk:∀ c o,H c=some o->upd H p (.lst vs) c=some o:=fun c o e=>Same.upd h c o e
 have rep:∀ d v,Rep W.K M H d v->Rep W.K (fun c=>M c\/c=p) (upd H p (.lst vs)) d v:=fun d v r=>Rep.keep (fun c o _ e=>kk c o e) _ _ (Rep.avoid hM _ _ r)
 have reps:∀ d v,Reps W.K M H d v->Reps W.K (fun c=>M c\/c=p) (upd H p (.lst vs)) d v:=fun d v r=>Reps.keep (fun c o _ e=>kk c o e) _ _ (Reps.avoid hM _ _ r)
 have hbp:b≠some p:=fun z=>by
  obtain ⟨o,e⟩:=W.B.dm p H (s.ok p z)
  rw [h] at e;cases e
 have h0:W.H0 p=none:=by
  cases q:W.H0 p with
  | none=>rfl
  | some o =>
    by_cases z:W.b0=some p
    · rcases s.new with y|⟨y,_⟩
      · exact absurd (y.trans z) hbp
      · rw [y] at z;cases z
    · have:=s.kp p o z q
      rw [h] at this;cases this
 have hm0:¬ W.M0 p:=fun z=>s.toHs.new h (s.m0 p z)
 refine s.add i ⟨⟨s.toHs.okU h,fun q e=>.inl (s.bagM q e),fun c hc=>?_,fun c m=>.inl (s.m0 c m)⟩,fun c o n e=>kk c o (s.kp c o n e),s.new,fun j d e=>?_,by simp [s.len],fun q hq=>(s.pin q hq).to rep reps fun xs a vs _ _ m n hh=>⟨.inl m,n,kk _ _ hh⟩⟩ fun c m=>by
  cases (show V.ref p=V.ref c from m)
  exact s.toHs.new h
 · rcases hc with hc|hc
   · obtain ⟨o,e⟩:=s.dom c hc;exact ⟨o,kk c o e⟩
   · rw [hc];exact ⟨_,AA⟩
 · by_cases z:i=j
   · subst z
     rw [List.getElem?_set] at e
     simp at e
     obtain ⟨hl,rfl⟩:=e
     exact ⟨.ref p,by rw [List.getElem?_set];simp [<- s.len,hl],p,vs,rfl,.inr rfl,hbp,h0,hm0,AA,reps _ _ r⟩
   · rw [List.getElem?_set_ne z] at e
     obtain ⟨w,e1,r1⟩:=s.env j d e
     refine ⟨w,by rw [List.getElem?_set_ne z];exact e1,?_⟩
     cases d
     case own ys =>
      obtain ⟨a,us,rfl,m1,m2,m3,m4,hh,r'⟩:=r1
      exact ⟨a,us,rfl,.inl m1,m2,m3,m4,kk _ _ hh,reps _ _ r'⟩
     case bag=>exact r1
     case frg f _=>exact RepX.move r1 (fun c _ m n=>⟨.inl m,n⟩) (fun c o _ e=>kk c o e) hM
     all_goals exact rep _ _ r1
theorem StS.setOwn {pn:List (D×V)} {b:Option Addr}{H:Hp}{σ:St}{ρ:Ev}{xs ys:List D}{vs:List V}{a:Addr}(s:StS W pn M b H σ ρ)(i:Nat)(e:ρ[i]?=some (some (.own xs)))(ea:σ[i]?=some (some (.ref a)))(r:Reps W.K M H ys vs) :
 StS W pn M b (upd H a (.lst vs)) σ (ρ.set i (some (.own ys))):=by
 obtain ⟨v,e1,a',us,ev,m1,m2,m3,m4,hh,r'⟩:=s.env i _ e
 rw [ea] at e1;cases e1;cases ev
 have kk:∀ c o,¬ M c->H c=some o->upd H a (.lst vs) c=some o:=fun c o n q=>by rw [V1 (show c≠a from fun z=>n (by rw [z];exact m1))];exact q
 have kb:∀ c o,c≠a->H c=some o->upd H a (.lst vs) c=some o:=fun c o n q=>by rw [V1 n];exact q
 refine s.of2 ⟨⟨fun q z=>W.B.st q H _ (s.ok q z) fun o h=>kb q o (fun w=>m2 (w▸z)) h,s.bagM,fun c hc=>?_,s.m0⟩,fun c o n q=>kb c o (fun z=>by rw [z,m3] at q;cases q) (s.kp c o n q),s.new,fun j d e'=>?_,by simp [s.len],fun q hq=>(s.pin q hq).to (fun _ _ r=>Rep.keep kk _ _ r) (fun _ _ r=>Reps.keep kk _ _ r) fun zs a2 us ed ev m n hh2=>⟨m,n,kb _ _ (fun y=>s.lk zs a2 (by rw [<- ed,<- ev];exact hq) i xs e (by rw [y];exact ea)) hh2⟩⟩ (fun _ _ q=>q) fun j d v c e' e2 m=>?_
 · by_cases z:c=a
   · rw [z];exact ⟨_,AA⟩
   · obtain ⟨o,q⟩:=s.dom c hc;exact ⟨o,kb c o z q⟩
 · by_cases z:i=j
   · subst z
     rw [List.getElem?_set] at e'
     simp at e'
     obtain ⟨hl,rfl⟩:=e'
     exact ⟨.ref a,ea,a,vs,rfl,m1,m2,m3,m4,AA,Reps.keep kk _ _ r⟩
   · rw [List.getElem?_set_ne z] at e'
     obtain ⟨w,e1,r1⟩:=s.env j d e'
     refine ⟨w,e1,?_⟩
     cases d
     case own zs =>
      obtain ⟨a2,us2,rfl,n1,n2,n3,n4,hh2,r2⟩:=r1
      have na:a2≠a:=fun y=>z (s.own i j xs zs a e e' ea (y▸e1))
      exact ⟨a2,us2,rfl,n1,n2,n3,n4,kb _ _ na hh2,Reps.keep kk _ _ r2⟩
     case bag=>exact r1
     case frg f _ =>
      have na:a∉f.ads:=fun y=>z (s.dj i j _ _ _ _ a e e' ea e1 rfl y)
      exact RepX.move r1 (fun c _ m n=>⟨m,n⟩) (fun c o q h=>kb c o (fun y=>q.elim (fun n=>n (by rw [y];exact m1)) (fun n=>na (by rw [<- y];exact n))) h) fun c m=>.inl m
     all_goals exact Rep.keep kk _ _ r1
 · by_cases z:i=j
   · subst z
     rw [List.getElem?_set] at e'
     simp at e'
     obtain ⟨_,rfl⟩:=e'
     exact ⟨_,e,e2,m⟩
   · rw [List.getElem?_set_ne z] at e'
     exact ⟨d,e',e2,m⟩
def J6h (i:Nat)(dA:DA):DS:=fun F ρ=>dA ρ fun xs=>DJ xs=true/\F.nx (ρ.set i (some (.own xs)))
theorem J4l {i:Nat} {x:Str} {pos' lpos:Pos} (hN:X.N.Nodup) (hi:X.N[i]?=some x) (hx:Loc X.env.scope x) (ha:PA X es (dnA W dA)) (hs:swapsWith (.List es lpos) (some (.Name x pos')) pos.line X.env=pure false:=by rfl) (hf:X.fn x=true\/X.env.scope.names.lookup x=some .local:=by first|exact .inl rfl|exact .inr rfl|assumption) :
 PS X (.Assign [.Name x pos'] (.List es lpos) pos) (sn W (J6h i dA)):=(BR hN hi hx (LY ha) hs hf).mono fun E σ H hh=>hh.elim fun pn M b ρ F s l h=>by
 refine ⟨pn,M,b,ρ,_,s.toSta,h,fun xs vs H' hx rx k o=>?_⟩
 have rr:=rx.reps _ _ (DJ.pl hx.1)
 exact ⟨by rw [rr.length];exact DJ.len hx.1,fun q hq=>l.nx _ _ _ _ _ ((s.step k o).newOwn i rr hq) hx.2⟩
def J6e (own:Bool)(i:Nat)(map:List (Option Nat))(gd:D->Ev->(Ev->Prop)->Prop)(di:DA)(dt:DT)(de:DE):DS:=fun F ρ=>di ρ fun items=>items.length<=1000/\compI gd dt de (IQ ρ map) items fun acc=>F.nx (ρ.set i (some (if own then .own acc else .lst acc)))
theorem J4k {elt iter tg:Expr}{ifs:List Expr}{scope:Scope}{N':List Str}{map:List (Option Nat)}{g:TG}{gd:D->Ev->(Ev->Prop)->Prop}(own:Bool){i:Nat}{y:Str}{py spos:Pos}(hN:X.N.Nodup)(hiN:X.N[i]?=some y)(hy:Loc X.env.scope y)(hG:GD W g gd)(B:Blk X N' scope map tg elt ifs g (dnT W dt) (dn W de))(hi:PI X tg iter (dnI W false di))
 (hsw:swapsWith (.ListComp elt [⟨tg,iter,ifs,0⟩] scope pos) (some (.Name y py)) spos.line X.env=pure true:=by rfl) (hfn:X.fn y=true\/X.env.scope.names.lookup y=some .local:=by first|exact .inl rfl|exact .inr rfl)
 (hs:∀ x,foldedSetIterable iter X.env x=pure x:=by intro _;rfl):PS X (.Assign [.Name y py] (.ListComp elt [⟨tg,iter,ifs,0⟩] scope pos) spos) (sn W (J6e own i map gd di dt de)):=(SY hN hiN hy B hi hsw hfn hs).mono fun E σ H hh=>hh.elim fun pn M b ρ F s l h=>by
 refine ⟨pn,M,b,ρ,_,s.toSta,h,fun items J need H1 hx hp hI hn k1 o1=>?_⟩
 have s1:=s.step k1 o1
 refine MN hG (s1.toSta.capt map) hp hI (fun q hq=>(hn q hq).1) hx.1 hx.2 fun ds acc H' hP r hl k2 o2 q hq=>?_
 have s2:=s1.step k2 o2
 cases own
 · have s3:=(s2.step (Kp.upd (o:=.lst acc) hq) (s2.toHs.okU hq))
   exact l.nx _ _ _ _ _ (s3.of (s3.toSta.set i (EA s2.toHs r hq)) (OT rfl)) hP
 · exact l.nx _ _ _ _ _ (s2.newOwn i r hq) hP
def J1h (i:Nat)(dA:DA):DS:=fun F ρ=>match ρ[i]? with
 | some (some (.own ys))=>dA ρ fun xs=>(match xs with | [y]=>(plain y&&decide (ys.length<1000))=true/\F.nx (ρ.set i (some (.own (ys++[y]))))|_=>False)
 | _=>False
theorem BA {pn:List (D×V)} {b:Option Addr}{H:Hp}{σ:St}{ρ:Ev}{i:Nat}{ys:List D}(s:Sta W pn M b H σ ρ)(e:ρ[i]?=some (some (.own ys))):∃ a vs,σ[i]?=some (some (.ref a))/\b≠some a/\H a=some (.lst vs)/\Reps W.K M H ys vs:=by
 obtain ⟨v,e1,a,us,rfl,m1,m2,m3,m4,hh,r⟩:=s.env i _ e
 exact ⟨a,us,e1,m2,hh,r⟩
theorem J7e {i:Nat}:∀ E σ H,sn W (J1h i dA) E σ H->QV (tBM W.K "list" GX (FI i) (dnA W dA)) E σ H:=fun E σ H hh=>hh.elim fun pn M b ρ F s l h=>by
 unfold J1h at h
 split at h
 case h_2=>exact h.elim
 case h_1 ys e =>
  obtain ⟨a,vs,ea,nb,hh,r⟩:=BA s.toSta e
  refine ⟨.ref a,ea,.inl ⟨rfl,vs,SqL.of hh⟩,pn,M,b,ρ,_,s.toSta,h,fun xs us H' hx rx k o=>?_⟩
  match xs,hx with
  | [y],hx =>
    obtain ⟨u,rfl,ru⟩:=rx1 rx
    obtain ⟨p1,p2⟩:=(Bool.and_eq_true _ _).mp hx.1
    have p2:=of_decide_eq_true p2
    have s':=s.step k o
    obtain ⟨a',vs',ea',nb',hh',r'⟩:=BA s'.toSta e
    rw [ea] at ea';cases ea'
    refine ⟨a,vs',u,rfl,rfl,hh',by rw [r'.length];have:=BS;omega,l.nx _ _ _ _ _ (s'.setOwn i e ea (Reps.append r' (show Reps W.K M H' [y] [u] from ⟨u,[],rfl,ru.rep p1,rfl⟩))) hx.2⟩
theorem XT {i:Nat}{x:Str}{e:Expr}{npos apos cpos:Pos}(hK:X.K=W.K)(hN:X.N[i]?=some x)(hv:Vis X.env.scope x)(ha:PA X [e] (dnA W dA))
 (h:PE X (.Call (.Attribute (.Name x npos) "append" apos) [e] [] cpos) (tBM X.K "list" GX (FI i) (dnA W dA))) (hs:swapsWith (.Call (.Attribute (.Name x npos) "append" apos) [e] [] cpos) none pos.line X.env=pure false:=by rfl) :
 PS X (.Expr (.Call (.Attribute (.Name x npos) "append" apos) [e] [] cpos) pos) (sn W (J1h i dA)):=(FP (by rw [hK] at h;exact h) hs).mono J7e
inductive forI (gd:D->Ev->(Ev->Prop)->Prop)(db:DS)(F:DEnds)(items:List D)(ρ:Ev):Prop
 | mk (I:Nat->Ev->Prop) (h0:I 0 ρ) (hs:∀ (i:Nat) x ρ,items[i]?=some x->I i ρ->gd x ρ fun ρ1=>db { F with nx:=I (i+1),ct:=I (i+1),bk:=F.nx } ρ1) (hd:∀ ρ,I items.length ρ->F.nx ρ):forI gd db F items ρ
def J9o (gd:D->Ev->(Ev->Prop)->Prop)(di:DA)(db:DS):DS:=fun F ρ=>di ρ fun items=>forI gd db F items ρ
theorem Sta.pins {pn pn':List (D×V)} {b:Option Addr}{H:Hp}{σ:St}{ρ:Ev}(s:Sta W pn M b H σ ρ)(h:∀ q∈pn',PinR W M b H q.1 q.2):Sta W pn' M b H σ ρ:=⟨s.toHs,s.kp,s.new,s.env,s.len,h⟩
theorem J7b {g:TG}{gd:D->Ev->(Ev->Prop)->Prop}{db:DS}(hG:GD W g gd):∀ E σ H,sn W (J9o gd di db) E σ H->J7l (dnI W true di) g (sn W db) E σ H:=fun E σ H hh=>hh.elim fun pn M b ρ F s l h=>by
 refine ⟨pn,M,b,ρ,_,s.toSta,h,fun items J need H1 hx hp hI hn k1 o1=>?_⟩
 have s1:=s.step k1 o1
 have pins:∀ q∈need++pn,PinR W M b H1 q.1 q.2:=fun q hq=>(List.mem_append.mp hq).elim (fun z=>(hn q z).1.pin ((hn q z).2 rfl)) fun z=>s1.pin q z
 obtain ⟨I,i0,istep,idone⟩:=hx
 refine ⟨fun i m σ H=>m=items.length - i/\i<=items.length/\∃ M b ρ,StS W (need++pn) M b H σ ρ/\I i ρ,⟨items.length,by simp,Nat.zero_le _,M,b,ρ,⟨s1.toSta.pins pins,s1.dj,fun ys a hq=>(List.mem_append.mp hq).elim (fun z=>by have:=(hn _ z).2 rfl;cases this) fun z=>s1.lj ys a z⟩,i0⟩,?_⟩
 rintro i m σ2 H2 ⟨rfl,hi,M2,b2,ρ2,s2,q⟩
 have unp:∀ {M b ρ σ H},StS W (need++pn) M b H σ ρ->StS W pn M b H σ ρ:=fun s=>⟨s.toSta.pins fun q hq=>s.pin q (List.mem_append_right _ hq),s.dj,fun ys a hq=>s.lj ys a (List.mem_append_right _ hq)⟩
 obtain ⟨hgo,hstop⟩:=hI M2 b2 H2 s2.toHs fun q hq=>(s2.pin q (List.mem_append_left _ hq)).x
 by_cases hlt:i<items.length
 · have ei:items[i]?=some items[i]:=List.getElem?_eq_getElem hlt
   replace q:=istep i _ ρ2 ei q
   refine .inr ⟨(hgo i _ ei).1,fun σ' H'=>∃ M b ρ,StS W (need++pn) M b H' σ' ρ/\I (i+1) ρ,fun σ' H' n=>⟨items.length - (i+1),by omega,rfl,hlt,n⟩,fun x H3 y=>?_⟩
   obtain ⟨S3,rx⟩:=(hgo i _ ei).2 x H3 y
   have o3:okB W.B b2 H3:=fun p e=>W.B.st p H2 H3 (s2.ok p e) fun o e'=>S3 p o e'
   have s3:=s2.step (Kp.same S3) o3
   refine hG (need++pn) M2 b2 H3 σ2 ρ2 items[i] x _ _ s3.toSta rx (List.all_eq_true.mp hp _ (List.getElem_mem hlt)) q fun ρ1 σ1 h1 st4 ho=>?_
   exact ⟨need++pn,M2,b2,ρ1,{ F with nx:=I (i+1),ct:=I (i+1),bk:=F.nx },s3.of st4 ho,⟨fun M b ρ σ H s' h'=>⟨M,b,ρ,s',h'⟩,l.rt,fun M b ρ σ H s' h'=>l.nx _ _ _ _ _ (unp s') h',fun M b ρ σ H s' h'=>⟨M,b,ρ,s',h'⟩,l.ro⟩,h1⟩
 · have e:i=items.length:=by omega
   subst e
   exact .inl ⟨hstop _ (Nat.le_refl _),l.nx _ _ _ _ _ (unp s2) (idone _ q)⟩
theorem J8x {g:TG}{gd:D->Ev->(Ev->Prop)->Prop}{db:DS}{body:List Stmt}(hG:GD W g gd)(hp:PassesOwn (model X.prog X.w) X.A X.env X.xe)(hc:X.calm=true)(hi:PI X tg iter (dnI W true di))(hg:PG X tg g)(hb:PSs X body (sn W db))
 (hs:∀ x,foldedSetIterable iter X.env x=pure x:=by intro _;rfl):PS X (.For tg iter body [] pos) (sn W (J9o gd di db)):=(ZJ hp hc hi hg hb hs).mono (J7b hG)
theorem Sta.avoid {pn:List (D×V)}{M M':Addr->Prop}{b:Option Addr}{H:Hp}{σ:St}{ρ:Ev}(s:Sta W pn M b H σ ρ)(h:∀ c,M' c->M c)(hb:∀ p,b=some p->M' p)(h0:∀ c,W.M0 c->M' c)(ho:∀ (i:Nat) d v c,ρ[i]?=some (some d)->σ[i]?=some (some v)->EY d v c->M' c)(hpo:∀ xs a,(D.own xs,V.ref a)∈pn->M' a):Sta W pn M' b H σ ρ where
 ok:=s.ok
 bagM:=hb
 dom:=fun c m=>s.dom c (h c m)
 m0:=h0
 kp:=s.kp
 new:=s.new
 len:=s.len
 pin:=fun q hq=>(s.pin q hq).to (fun _ _ r=>Rep.avoid (fun c m=>.inl (h c m)) _ _ r) (fun _ _ r=>Reps.avoid (fun c m=>.inl (h c m)) _ _ r) fun xs a vs ed ev m n hh=>⟨hpo xs a (by rw [<- ed,<- ev];exact hq),n,hh⟩
 env:=fun i d e=>by
  obtain ⟨v,e1,r⟩:=s.env i d e
  refine ⟨v,e1,?_⟩
  cases d
  case own xs =>
   obtain ⟨a,us,rfl,m1,m2,m3,m4,hh,r'⟩:=r
   exact ⟨a,us,rfl,ho i _ _ a e e1 rfl,m2,m3,m4,hh,Reps.avoid (fun c m=>.inl (h c m)) _ _ r'⟩
  case bag=>exact r
  case frg f _=>exact RepX.move r (fun c m _ n=>⟨ho i _ _ c e e1 m,n⟩) (fun c o _ e=>e) fun c m=>.inl (h c m)
  all_goals exact Rep.avoid (fun c m=>.inl (h c m)) _ _ r
def J1e (Ed:Addr->Prop)(C:Addr):DS:=fun _ _=>Ed C
theorem J0w {E:XK}{Ed:Addr->Prop}{C:Addr}(hE:KM W E Ed)(h:PS X st (fun _ _ H1=>E (.ref C) none H1)):PS X st (sn W (J1e Ed C)):=h.mono fun E' σ H hh=>hh.elim fun pn M b ρ F s l h=>hE C H h s.kp s.ok0
def J1f:DS:=fun _ _=>False
theorem J0x:PS X st (sn W J1f):=ZI.mono fun E σ H hh=>hh.elim fun pn M b ρ F s l h=>h.elim
end
def BQ (N:List Str)(ds:List D):Ev:=ds.map some++List.replicate (N.length - ds.length) none
theorem RepAs.get {H:Hp}:∀ {ds:List D} {vs:List V} {i:Nat} {d:D},RepAs K M b H ds vs->ds[i]?=some d->∃ v,vs[i]?=some v/\Q0f K M b H d v
 | [],_,_,_,h,e=>by simp at e
 | d::ds,vs,0,_,h,e=>by
   obtain ⟨v,r,rfl,h1,h2⟩:=h
   simp at e;subst e
   exact ⟨v,rfl,h1⟩
 | d::ds,vs,i+1,d',h,e=>by
   obtain ⟨v,r,rfl,h1,h2⟩:=h
   obtain ⟨u,e1,e2⟩:=RepAs.get (i:=i) h2 (by simpa using e)
   exact ⟨u,by simpa using e1,e2⟩
theorem LM {N:List Str}{ds:List D}{i:Nat}{d:D}(h:(BQ N ds)[i]?=some (some d)):ds[i]?=some d:=by
 unfold BQ at h
 by_cases hi:i<ds.length
 · rw [List.getElem?_append_left (by simpa using hi),List.getElem?_map] at h
   simpa using h
 · rw [List.getElem?_append_right (by simpa using hi)] at h
   have:=List.mem_of_getElem? h
   simp at this
theorem J0s {B:BagT} {N:List Str}{ds:List D}{vs:List V}{H:Hp}(hr:RepAs K M b H ds vs)(ho:okB B b H)(hb:∀ p,b=some p->M p)(hd:∀ c,M c->∃ o,H c=some o):StS ⟨K,B,H,M,b⟩ [] M b H (EC N vs) (BQ N ds):=by
 refine ⟨⟨⟨ho,hb,hd,fun _ m=>m⟩,Kp.refl _ _,.inl rfl,fun i d e=>?_,by simp [EC,BQ,hr.length],fun _ hq=>by cases hq⟩,fun i j d e v u c e0 _ _ _ m _=>?_,fun _ _ hq=>by cases hq⟩
 · obtain ⟨v,e1,r⟩:=hr.get (LM e)
   refine ⟨v,?_,?_⟩
   · unfold EC
     rw [List.getElem?_append_left (by simpa using (List.getElem?_eq_some_iff.mp e1).1),List.getElem?_map,e1];rfl
   · cases d<;>first|exact r|exact r.elim
 · obtain ⟨v',e1,r⟩:=hr.get (LM e0)
   cases d<;>first|exact m.elim|exact r.elim
theorem Q1l {B:BagT} {H:Hp}{Q:VK}{P:D->Prop}(hq:∀ d v H',P d->Rep K M H' d v->Kp b H H'->okB B b H'->Q v H'):Link ⟨K,B,H,M,b⟩ [] { nx:=fun _ H'=>Q .non H',rt:=Q } { nx:=fun _=>P .non,rt:=P } :=
 ⟨fun M b ρ σ H s h=>hq _ _ _ h rfl s.kp s.ok0,fun d v H h r k o=>hq d v H h r k o,fun _ _ _ _ _ _ h=>h.elim,fun _ _ _ _ _ _ h=>h.elim,fun _ _ _ _ h=>h.elim⟩
theorem run {B:BagT} {N:List Str}{ds:List D}{vs:List V}{H:Hp}{Q:VK}{P:D->Prop}{d:DS}(hr:RepAs K M b H ds vs)(ho:okB B b H)(hb:∀ p,b=some p->M p)(hd:∀ c,M c->∃ o,H c=some o)(hq:∀ d v H',P d->Rep K M H' d v->Kp b H H'->okB B b H'->Q v H')
 (h:d { nx:=fun _=>P .non,rt:=P } (BQ N ds)):sn ⟨K,B,H,M,b⟩ d { nx:=fun _ H'=>Q .non H',rt:=Q } (EC N vs) H :=
 ⟨[],M,b,BQ N ds,_,J0s hr ho hb hd,Q1l hq,h⟩
theorem Q6.len {B:BagT}{S:DSp}{n:Nat}(h:∀ ds P Ed,S ds P Ed->ds.length=n):∀ vs H Q E,Q6 K B S vs H Q E->vs.length=n:=fun vs H Q E ⟨M,b,ds,P,Ed,hS,hr,_⟩=>by rw [hr.length];exact h _ _ _ hS
section
variable {X:Cx}{W:Wd}{e a b:Expr}{pos p:Pos}{d db dl de:DE}{st:Stmt}{sts:List Stmt}{t:TS}
abbrev DO:=Ev->(Option Int->Prop)->Prop
def dnO (W:Wd)(d:DO):TO:=fun σ H Q=>∃ pn M b ρ P,Sta W pn M b H σ ρ/\d ρ P/\∀ x H',P x->Kp b H H'->okB W.B b H'->Q x H'
theorem dnO.elim {W:Wd}{d:DO}{σ:St}{H:Hp}{Q:Option Int->Hp->Prop}{R:Prop}(h:dnO W d σ H Q)(f:∀ pn M b ρ P,Sta W pn M b H σ ρ->d ρ P->(∀ x H',P x->Kp b H H'->okB W.B b H'->Q x H')->R):R:=by
 obtain ⟨pn,M,b,ρ,P,st,h,k⟩:=h
 exact f pn M b ρ P st h k
def oNo:DO:=fun _ P=>P none
def oPt (de:DE):DO:=fun ρ P=>de ρ fun x=>match x with|.int i=>P (some i)|_=>False
theorem J4o:PO X none (dnO W oNo):=fun pins s σ H Q I hh=>hh.elim fun pn M b ρ P st h k=>J3l pins s σ H Q I (k _ H h (Kp.refl _ _) st.ok)
theorem J4n (h:PE X e (dn W de)):PO X (some e) (dnO W (oPt de)):=fun pins s σ H Q I hh=>hh.elim fun pn M b ρ P st q k=>J3k h pins s σ H Q I (by
 refine ⟨pn,M,b,ρ,_,st,q,fun x v H1 hx rx k1 o1=>?_⟩
 cases x<;>first|exact hx.elim|skip
 cases (show _=_ from rx)
 exact ⟨_,rfl,k _ H1 hx k1 o1⟩)
def HV (xs:List D)(lo hi:Option Int):List D:=(xs.drop (HT.sIx xs.length 0 lo)).take (HT.sIx xs.length xs.length hi - HT.sIx xs.length 0 lo)
theorem Reps.cut {H:Hp}{ds:List D}{vs:List V}(h:Reps K M H ds vs)(lo hi:Option Int):Reps K M H (HV ds lo hi) (SC vs lo hi):=by
 unfold HV SC
 rw [h.length]
 exact Reps.take _ (Reps.drop _ h)
def oSl (x:D)(lo hi:Option Int)(P:D->Prop):Prop:=match x with
 | .tup xs=>¬ (HT.sIx xs.length 0 lo=0/\HT.sIx xs.length xs.length hi=xs.length)/\P (.tup (HV xs lo hi))
 | .lst xs=>P (.lst (HV xs lo hi))
 | .own xs=>P (.lst (HV xs lo hi))
 | _=>False
def dSl (de:DE)(dl dh:DO):DE:=fun ρ P=>de ρ fun x=>dl ρ fun lo=>dh ρ fun hi=>oSl x lo hi P
theorem J3b (K:Fg)(h:X.K=K):SlR X (ZA K):=by subst h;exact J7p
theorem LO (K:Fg)(h:X.K=K):SlR X (fun x lo hi H Q=>ZA K x lo hi H Q\/ZB K x lo hi H Q):=(J3b K h).or (WR K h)
theorem J0z {lo hi:Option Expr}{dl dh:DO}{p2:Pos}(hr:SlR X (fun x lo hi H Q=>ZA W.K x lo hi H Q\/ZB W.K x lo hi H Q))(he:PE X e (dn W de))(hl:PO X lo (dnO W dl))(hu:PO X hi (dnO W dh)):PE X (.Subscript e (.Slice lo hi none p2) pos) (dn W (dSl de dl dh)):=(ZM hr he hl hu).mono fun σ H Q hh=>hh.elim fun pn M b ρ P st h k=>by
 refine ⟨pn,M,b,ρ,_,st,h,fun x v H1 hx rx k1 o1=>?_⟩
 refine ⟨pn,M,b,ρ,_,st.step k1 o1,hx,fun lo H2 hy k2 o2=>?_⟩
 refine ⟨pn,M,b,ρ,_,(st.step k1 o1).step k2 o2,hy,fun hi H3 hz k3 o3=>?_⟩
 have s3:=((st.step k1 o1).step k2 o2).step k3 o3
 have rx:=(rx.step st.bagM k2).step st.bagM k3
 have kk:=(k1.trans k2).trans k3
 cases x<;>first|exact hz.elim|skip
 case tup xs =>
  obtain ⟨a,vs,rfl,hh,r⟩:=rx
  refine .inl ⟨a,vs,rfl,hh.sq,by rw [r.length];exact hz.1,fun p hp=>k _ _ _ hz.2 (IH s3.toHs (r.cut lo hi) hp) (kk.trans (Kp.upd hp)) (s3.okU hp)⟩
 case lst xs =>
  obtain ⟨a,vs,rfl,hh,r⟩:=rx
  refine .inr ⟨a,vs,rfl,SqL.of hh.2,fun p hp=>k _ _ _ hz (EA s3.toHs (r.cut lo hi) hp) (kk.trans (Kp.upd hp)) (s3.okU hp)⟩
 case own xs =>
  obtain ⟨a,vs,rfl,_,_,_,_,hh,r⟩:=rx
  refine .inr ⟨a,vs,rfl,SqL.of hh,fun p hp=>k _ _ _ hz (EA s3.toHs (r.cut lo hi) hp) (kk.trans (Kp.upd hp)) (s3.okU hp)⟩
def Q1h:D->D->(D->Prop)->Prop:=fun x y P=>match asL x,asL y with
 | some xs,some ys=>xs.length+ys.length<=1000/\P (.lst (xs++ys))
 | _,_=>False
theorem PF:OpD W Q0y Q1h:=by
 intro M b H x y v u P Q hs rx ry ho k
 unfold Q1h at ho
 split at ho
 case h_2=>exact ho.elim
 case h_1 xs ys e1 e2 =>
  obtain ⟨a1,vs,rfl,h1,r1⟩:=asL.rep rx e1
  obtain ⟨a2,us,rfl,h2,r2⟩:=asL.rep ry e2
  exact ⟨a1,a2,vs,us,rfl,rfl,h1,h2,by rw [r1.length,r2.length];exact Nat.le_trans ho.1 BS,fun p hp=>k _ _ _ ho.2 (EA hs (Reps.append r1 r2) hp) (Kp.upd hp) (hs.okU hp)⟩
theorem Reps.ne {H:Hp}{ds:List D}{vs:List V}(h:Reps K M H ds vs)(n:ds≠[]):vs≠[]:=fun z=>by
 have:=h.length
 rw [z] at this
 exact n (List.length_eq_zero_iff.mp this.symm)
def AT (ρ:Ev):Ev:=ρ.map fun o=>match o with|some .bag=>none|o=>o
theorem AX {ρ:Ev}{i:Nat}{d:D}(h:(AT ρ)[i]?=some (some d)):ρ[i]?=some (some d)/\d≠.bag:=by
 unfold AT at h
 rw [List.getElem?_map] at h
 cases q:ρ[i]? with
 | none=>rw [q] at h;cases h
 | some o =>
   rw [q] at h
   cases o with
   | none=>cases h
   | some d'=>cases d'<;>simp at h<;>subst h<;>exact ⟨rfl,by intro z;cases z⟩
theorem PSs.withE {A:Prop}(h:A->PSs X sts t):PSs X sts (fun E σ H=>A/\t E σ H):=fun pins s σ H D I q=>h q.1 pins s σ H D I q.2
def Q3e (db:DS)(Ed:Addr->Prop)(hd:Addr->DEnds->Prop):DS:=fun F ρ=>db F ρ/\∀ C,Ed C->hd C F
end
end L2
namespace K
open PySem L2
theorem _root_.L2.Room.m {k n:Nat}{A:Around}(h:Room n A)(e:k<=n:=by decide):Room k A:=h.mono e
def dot (r s:List Int):Int:=(List.zipWith (· * ·) r s).sum
end K
namespace L2
open PySem PySem.Spec PyProof.Rows
theorem J3u {xs:List D}{i:Int}{P:D->Prop}(h0:0<=i)(h1:i<xs.length)(h:∀ d∈xs,P d):oIx (.lst xs) (.int i) P:=by
 obtain ⟨j,rfl⟩:∃ j:Nat,i=j:=⟨i.toNat,by omega⟩
 have hj:j<xs.length:=by omega
 have e:atI xs (j:Int)=some xs[j]:=CC (List.getElem?_eq_getElem hj)
 simp only [oIx,e]
 exact h _ (List.getElem_mem hj)
theorem ixm {xs:List D}{i:Int}{P:D->Prop}(h0:0<=i)(h1:i<xs.length)(h:∀ d∈xs,P d):(atI xs i).elim False P:=J3u (P:=P) h0 h1 h
theorem AZ {lo:Int}{n i:Nat}{d:D}(h:(CF lo n)[i]?=some d):d=.int (lo+i)/\i<n:=by
 have hi:i<n:=by
  have:=(List.getElem?_eq_some_iff.mp h).1
  simpa [CF] using this
 simp [CF,hi] at h
 exact ⟨h.symm,hi⟩
theorem rangeD_len (lo:Int)(n:Nat):(CF lo n).length=n:=by simp [CF]
abbrev t3 (x y z:Int):D:=.tup [.int x,.int y,.int z]
abbrev t2 (x y:Int):D:=.tup [.int x,.int y]
theorem J1n {gd:D->Ev->(Ev->Prop)->Prop}{de:DE}{ρc:Ev}{items:List D}{P:List D->Prop}(Pv:Nat->D->Prop)
 (hs:∀ (i:Nat) x (Q:D->Prop),items[i]?=some x->(∀ y,Pv i y->Q y)->gd x ρc fun ρ1=>de ρ1 Q) (hp:∀ i y,Pv i y->plain y=true)
 (hd:∀ acc:List D,acc.length=items.length->(∀ i y,acc[i]?=some y->Pv i y)->P acc):compI gd SA de ρc items P:=by
 refine ⟨fun i acc=>acc.length=i/\∀ j y,acc[j]?=some y->Pv j y,⟨rfl,fun j y e=>by simp at e⟩,fun i x acc e ⟨hl,ha⟩=>?_,fun acc ⟨hl,ha⟩=>hd acc hl ha⟩
 have:=hs i x (fun y=>plain y=true/\((acc++[y]).length=i+1/\∀ j z,(acc++[y])[j]?=some z->Pv j z)) e fun y hy=>⟨hp i y hy,by simp [hl],fun j z ez=>?_⟩
 · simpa only [SA,J2m] using this
 · by_cases hj:j<acc.length
   · rw [List.getElem?_append_left hj] at ez
     exact ha j z ez
   · rw [List.getElem?_append_right (by omega)] at ez
     have:j - acc.length=0:=by
      cases q:j - acc.length with
      | zero=>rfl
      | succ m=>rw [q] at ez;simp at ez
     rw [this] at ez
     simp at ez
     subst ez
     have:j=i:=by omega
     subst this
     exact hy
theorem AN {gd:D->Ev->(Ev->Prop)->Prop}{de:DE}{ρc:Ev}{items:List D}{P:List D->Prop}(f:D->D)
 (hs:∀ x (Q:D->Prop),x∈items->Q (f x)->gd x ρc fun ρ1=>de ρ1 Q) (hp:∀ x∈items,plain (f x)=true) (hd:P (items.map f)):compI gd SA de ρc items P:=by
 refine J1n (fun i y=>∃ x,items[i]?=some x/\y=f x) (fun i x Q e h=>hs x Q (List.mem_of_getElem? e) (h _ ⟨x,e,rfl⟩)) (fun i y ⟨x,e,h⟩=>by rw [h];exact hp x (List.mem_of_getElem? e)) fun acc hl ha=>?_
 have:acc=items.map f:=by
  apply List.ext_getElem?
  intro i
  rw [List.getElem?_map]
  cases q:acc[i]? with
  | none =>
    have:items.length<=i:=by rw [<- hl];exact List.getElem?_eq_none_iff.mp q
    rw [List.getElem?_eq_none_iff.mpr this];rfl
  | some y =>
    obtain ⟨x,e,rfl⟩:=ha i y q
    rw [e];rfl
 rw [this];exact hd
theorem okB.same {B:BagT} {H H':Hp}(o:okB B b H)(S:Same H H'):okB B b H':=fun p e=>B.st p H H' (o p e) fun u h=>S p u h
structure JE (X:Cx)(W:Wd)(e:Expr)(d:DE):Prop where
 h:PE X e (dn W d)
structure JT (X:Cx)(W:Wd)(e:Expr)(d:DT):Prop where
 h:PT X e (dnT W d)
structure JW (X:Cx)(W:Wd)(e:Expr)(d:DT):Prop where
 h:PW X e (dnT W d)
structure JA (X:Cx)(W:Wd)(es:List Expr)(d:DA):Prop where
 h:PA X es (dnA W d)
structure JO (X:Cx)(W:Wd)(e:Option Expr)(d:DO):Prop where
 h:PO X e (dnO W d)
structure JIf (X:Cx)(W:Wd)(es:List Expr)(d:DT):Prop where
 h:PIf X es (dnT W d)
structure JI (X:Cx)(W:Wd)(fz:Bool)(tg l:Expr)(d:DA):Prop where
 h:PI X tg l (dnI W fz d)
structure JS (X:Cx)(W:Wd)(st:Stmt)(d:DS):Prop where
 h:PS X st (sn W d)
structure JSs (X:Cx)(W:Wd)(st:List Stmt)(d:DS):Prop where
 h:PSs X st (sn W d)
section
variable {X:Cx}{W:Wd}{e a b c:Expr}{es:List Expr}{pos:Pos}{da db dc:DE}{dA:DA}{t:TE}
theorem jdv (i:Nat) {x:Str} {pos:Pos} (hN:X.N[i]?=some x:=by rfl) (hv:Vis X.env.scope x:=by first|exact Or.inl rfl|exact Or.inr (Or.inl rfl)|exact Or.inr (Or.inr rfl)) (hd:(x==("__debug__" : Str))=false:=by decide)
 (hcd:(x==("__classdict__" : Str))=false:=by decide):JE X W (.Name x pos) (XY i):=⟨dv i hN hv hd hcd⟩
theorem J3 {i j pos}:JE X W (.Constant (.int i) j pos) (dC (.int i)):=⟨J9i ⟩
theorem AK {i j pos}:JE X W (.Constant (.bool i) j pos) (dC (.bl i)):=⟨Q1v ⟩
theorem VJ {j pos}:JE X W (.Constant .none j pos) (dC .non):=⟨J9f ⟩
theorem EB {i j pos}:JE X W (.Constant (.str i) j pos) (dC (.str i)):=⟨J9b ⟩
theorem JL {x:Str}{n:Int}{pos:Pos}(hg:Gl X x)(hm:∃ t,X.mg x=some (.int n t))(hd:(x==("__debug__" : Str))=false:=by decide):JE X W (.Name x pos) (dC (.int n)):=⟨J1a hg hm hd⟩
theorem Z2 {x:Str}{T:String}{pos:Pos}(hg:Gl X x)(hm:X.mg x=none)(hv:bootBuiltins x=some (.type T))(hn:x≠"__name__":=by decide) (hd:(x==("__debug__" : Str))=false:=by decide):JE X W (.Name x pos) (dC (.ty T)):=⟨J4t hg hm hv hn hd⟩
theorem BG {op:Operator}{r:R2}{o:D->D->(D->Prop)->Prop}(ho:OpR X (binaryOp op) r)(hd:OpD W r o)(ha:JE X W a da)(hb:JE X W b db):JE X W (.BinOp a op b pos) (dOp o da db):=⟨Q1s ho hd ha.h hb.h⟩
theorem AJ {op:CmpOp}{r:R2}{o:D->D->(D->Prop)->Prop}(ho:OpR X (compareOp op) r)(hd:OpD W r o)(ha:JE X W a da)(hb:JE X W b db)(hm:behindInMarks op b=false):JE X W (.Compare a [op] [b] pos) (dOp o da db):=⟨J9j ho hd ha.h hb.h hm⟩
theorem Y0 {r:R2}{o:D->D->(D->Prop)->Prop}(hr:IxR X r)(hd:OpD W r o)(ha:JE X W a da)(hb:JE X W b db)(hs:LK b):JE X W (.Subscript a b pos) (dOp o da db):=⟨Q1t hr hd ha.h hb.h hs⟩
theorem LF (ha:JE X W a da):JE X W (.UnaryOp .USub a pos) (dUn Q1f da):=⟨J9g ha.h⟩
variable {rest:List Expr}
theorem CQ {op}(h:JE X W a da):JE X W (.BoolOp op [a] pos) da:=⟨J9d h.h⟩
theorem AL (ha:JE X W a da)(hb:JE X W (.BoolOp .And (b::rest) pos) db):JE X W (.BoolOp .And (a::b::rest) pos) (Q2g da db):=⟨J9k ha.h hb.h⟩
theorem VI (ha:JE X W a da):JE X W (.UnaryOp .Not a pos) (Q2c da):=⟨J9e ha.h⟩
theorem Y5 {op:CmpOp}{r:R2}{o:D->D->(D->Prop)->Prop}(ho:OpR X (compareOp op) r)(hd:OpD W r o)(ha:JE X W a da)(hb:JE X W b db)(hm:behindInMarks op b=false):JT X W (.Compare a [op] [b] pos) (VW (dOp o da db)):=⟨J8u ho hd ha.h hb.h hm⟩
theorem Q7 (hK:X.K=W.K)(ha:JE X W a da)(he:∀ whole,isTrue a X.env whole=(do let v <- whole;standAt a.pos;holding [v] (truthy v))):JT X W a (Q1w da):=⟨J0t hK ha.h he⟩
variable {ta tb:DT}
theorem MI (ha:JT X W a ta):JW X W (.BoolOp .And [a] pos) ta:=⟨J4h ha.h⟩
theorem CB (ha:JT X W a ta):JW X W (.BoolOp .Or [a] pos) ta:=⟨J8r ha.h⟩
theorem JK (ha:JT X W a ta)(hb:JW X W (.BoolOp .Or (b::rest) pos) tb):JW X W (.BoolOp .Or (a::b::rest) pos) (J4v ta tb):=⟨J6a ha.h hb.h⟩
theorem Y4 (ha:JT X W a ta):JT X W (.UnaryOp .Not a pos) (J6c ta):=⟨J8t ha.h⟩
theorem TY (hc:JT X W c ta)(ha:JE X W a da)(hb:JE X W b db):JE X W (.IfExp c a b pos) (dIf ta da db):=⟨Q1u hc.h ha.h hb.h⟩
theorem HA {op op':CmpOp}{r r':R2}{o o':D->D->(D->Prop)->Prop}(ho:OpR X (compareOp op) r)(ho':OpR X (compareOp op') r')(hd:OpD W r o)(hd':OpD W r' o')(ha:JE X W a da)(hb:JE X W b db)(hc:JE X W c dc)
 (hm:lastMarks [op,op'] [b,c]=false:=by with_unfolding_all rfl):JE X W (.Compare a [op,op'] [b,c] pos) (PY o o' da db dc):=⟨J1b ho ho' hd hd' ha.h hb.h hc.h hm⟩
theorem XJ {op op':CmpOp}{r r':R2}{o o':D->D->(D->Prop)->Prop}(ho:OpR X (compareOp op) r)(ho':OpR X (compareOp op') r')(hd:OpD W r o)(hd':OpD W r' o')(ha:JE X W a da)(hb:JE X W b db)(hc:JE X W c dc)
 (hm:lastMarks [op,op'] [b,c]=false:=by with_unfolding_all rfl):JT X W (.Compare a [op,op'] [b,c] pos) (VW (PY o o' da db dc)):=⟨J0u ho ho' hd hd' ha.h hb.h hc.h hm⟩
theorem J1:JA X W [] J2g:=⟨J9l ⟩
theorem J0 {dr:DA}(ha:JE X W e da)(hr:JA X W es dr)(hs:starEach (e::es) X.env=(false,eval e X.env)::starEach es X.env:=by rfl):JA X W (e::es) (OE da dr):=⟨J4u ha.h hr.h hs⟩
theorem J9 {x1}(h:JA X W es dA):JE X W (.Tuple es x1 pos) (J9m dA):=⟨J9a h.h⟩
theorem Y7 (h:JA X W es dA):JE X W (.List es pos) (Q2e dA):=⟨J9h h.h⟩
end
section
variable {X:Cx}{W:Wd}{e:Expr}{es:List Expr}{pos p:Pos}{dA:DA}{x:Str}{k:Nat}{ps:List Str}{S:DSp}
theorem Y1 (G:Callee X.prog X.w X.K X.mg X.base CX0 x k ps (Q6 W.K W.B S))(hr:Room k X.A)(hg:Gl X x)(ha:JA X W (e::es) dA)(hdb:(x==("__debug__" : Str))=false:=by decide) (he:starEach (e::es) X.env=(false,eval e X.env)::starEach es X.env:=by rfl) (hpl:(backTo pos (starEach es X.env)).any (·.1)=false:=by rfl) :
 JE X W (.Call (.Name x p) (e::es) [] pos) (SB S (fun _=>False) dA):=⟨J9c G hr hg ha.h hdb he hpl⟩
theorem J0i {CX:CXT}{E:XK}{Ed:Addr->Prop}(hE:KM W E Ed)(hp:GS CX X E)(G:Callee X.prog X.w X.K X.mg X.base CX x k ps (Q6 W.K W.B S))(hr:Room k X.A)(hg:Gl X x)(ha:JA X W (e::es) dA)(hdb:(x==("__debug__" : Str))=false:=by decide) (he:starEach (e::es) X.env=(false,eval e X.env)::starEach es X.env:=by rfl) (hpl:(backTo pos (starEach es X.env)).any (·.1)=false:=by rfl) :
 JE X W (.Call (.Name x p) (e::es) [] pos) (SB S Ed dA):=⟨J4r hE hp G hr hg ha.h hdb he hpl⟩
variable {r:List V->Hp->VK->Prop}{o:List D->(D->Prop)->Prop}{id T:String}
theorem J4 (hc:AV X (.builtin id) r)(hd:DM W r o)(hg:Gl X x)(hm:X.mg x=none)(hv:bootBuiltins x=some (.builtin id))(ha:JA X W (e::es) dA)(hn:x≠"__name__":=by decide) (hdb:(x==("__debug__" : Str))=false:=by decide)
 (he:starEach (e::es) X.env=(false,eval e X.env)::starEach es X.env:=by rfl) (hpl:(backTo pos (starEach es X.env)).any (·.1)=false:=by rfl):JE X W (.Call (.Name x p) (e::es) [] pos) (dCB o dA):=⟨J1c hc hd hg hm hv ha.h hn hdb he hpl⟩
theorem MJ (hc:AV X (.type T) r)(hd:DM W r o)(hg:Gl X x)(hm:X.mg x=none)(hv:bootBuiltins x=some (.type T))(ha:JA X W (e::es) dA)(hn:x≠"__name__":=by decide) (hdb:(x==("__debug__" : Str))=false:=by decide)
 (he:starEach (e::es) X.env=(false,eval e X.env)::starEach es X.env:=by rfl) (hpl:(backTo pos (starEach es X.env)).any (·.1)=false:=by rfl):JE X W (.Call (.Name x p) (e::es) [] pos) (dCB o dA):=⟨XW hc hd hg hm hv ha.h hn hdb he hpl⟩
end
section
variable {X:Cx}{W:Wd}{tg l a:Expr}{pos p:Pos}{dl:DE}{dA:DA}{fz:Bool}
theorem Z4 (hK:X.K=W.K)(hl:JE X W l dl):JI X W fz tg l (Q1n fz dl):=⟨J8z hK hl.h⟩
theorem AU (hg:Gl X "range") (hm:X.mg "range" = none) (ha:JA X W [a] dA) (hs:starEach [a] X.env=[(false,eval a X.env)]:=by rfl):JI X W fz tg (.Call (.Name "range" p) [a] [] pos) (LG dA):=⟨XV hg hm ha.h hs⟩
end
section
variable {X:Cx}{W:Wd}{elt iter tg:Expr}{ifs:List Expr}{scope:Scope}{pos:Pos}{N':List Str}{map:List (Option Nat)}{g:TG}{gd:D->Ev->(Ev->Prop)->Prop}{di:DA}{dt:DT}{de:DE}
theorem AB (hG:GD W g gd)(B:Blk X N' scope map tg elt ifs g (dnT W dt) (dn W de))(hi:JI X W false tg iter di)(hs:∀ x,foldedSetIterable iter X.env x=pure x:=by intro _;rfl):JE X W (.ListComp elt [⟨tg,iter,ifs,0⟩] scope pos) (J6k map gd di dt de):=⟨J4s hG B hi.h hs⟩
theorem Z1:JIf X W [] SA:=⟨J4q ⟩
theorem J0h {c:Expr}(hc:JT X W c dt):JIf X W [c] dt:=⟨J4p hc.h⟩
end
section
variable {X:Cx}{W:Wd}{e c tg iter:Expr}{es:List Expr}{pos:Pos}{db de:DE}{dA di:DA}{dt:DT}{st:Stmt}{rest:List Stmt}{d1 d2:DS}
theorem Z0:JSs X W [] J6i:=⟨J4j ⟩
theorem Q3 (h:JS X W st d1):JSs X W [st] d1:=⟨J4i h.h⟩
theorem Q2 (h1:JS X W st d1)(h2:JSs X W rest d2):JSs X W (st::rest) (Q1y d1 d2):=⟨J0v h1.h h2.h⟩
theorem V8 (he:JE X W e de):JS X W (.Return (some e) pos) (Q2a de):=⟨J8w he.h⟩
theorem J0f (he:JE X W e de)(hs:swapsWith e none pos.line X.env=pure false:=by rfl):JS X W (.Expr e pos) (J6j de):=⟨J4m he.h hs⟩
theorem AR {s1 s2:List Stmt}(hc:JT X W c dt)(ha:JSs X W s1 d1)(hb:JSs X W s2 d2):JS X W (.If c s1 s2 pos) (Q2f dt d1 d2):=⟨Q1r hc.h ha.h hb.h⟩
theorem FR {i:Nat} {x:Str} {pos':Pos} (hN:X.N.Nodup) (hi:X.N[i]?=some x) (hx:Loc X.env.scope x) (he:JE X W e de) (hs:swapsWith e (some (.Name x pos')) pos.line X.env=pure false:=by rfl) (hf:X.fn x=true\/X.env.scope.names.lookup x=some .local:=by first|exact .inl rfl|exact .inr rfl|assumption) :
 JS X W (.Assign [.Name x pos'] e pos) (J1g de (gdN i)):=⟨J8v hN hi hx he.h hs hf⟩
theorem GZ {g:TG}{gd:D->Ev->(Ev->Prop)->Prop}(hG:GD W g gd)(he:JE X W e de)(hg:PG X tg g)(hs:swapsWithSole [tg] e pos.line X.env=pure false:=by rfl)(hw:swappedStores [tg] e X.env=pure none:=by rfl)
 (h1:(assignEach [tg] X.env).map (·.2)=[assign tg X.env]:=by rfl):JS X W (.Assign [tg] e pos) (J1g de gd):=⟨J8y hG he.h hg hs hw h1⟩
theorem RP {i:Nat} {x:Str} {pos' lpos:Pos} (hN:X.N.Nodup) (hi:X.N[i]?=some x) (hx:Loc X.env.scope x) (ha:JA X W es dA) (hs:swapsWith (.List es lpos) (some (.Name x pos')) pos.line X.env=pure false:=by rfl) (hf:X.fn x=true\/X.env.scope.names.lookup x=some .local:=by first|exact .inl rfl|exact .inr rfl|assumption) :
 JS X W (.Assign [.Name x pos'] (.List es lpos) pos) (J6h i dA):=⟨J4l hN hi hx ha.h hs hf⟩
theorem J0b {elt iter tg:Expr}{ifs:List Expr}{scope:Scope}{N':List Str}{map:List (Option Nat)}{g:TG}{gd:D->Ev->(Ev->Prop)->Prop}(own:Bool){i:Nat}{y:Str}{py spos:Pos}(hN:X.N.Nodup)(hiN:X.N[i]?=some y)(hy:Loc X.env.scope y)(hG:GD W g gd)(B:Blk X N' scope map tg elt ifs g (dnT W dt) (dn W de))(hi:JI X W false tg iter di)
 (hsw:swapsWith (.ListComp elt [⟨tg,iter,ifs,0⟩] scope pos) (some (.Name y py)) spos.line X.env=pure true:=by rfl) (hfn:X.fn y=true\/X.env.scope.names.lookup y=some .local:=by first|exact .inl rfl|exact .inr rfl)
 (hs:∀ x,foldedSetIterable iter X.env x=pure x:=by intro _;rfl):JS X W (.Assign [.Name y py] (.ListComp elt [⟨tg,iter,ifs,0⟩] scope pos) spos) (J6e own i map gd di dt de):=⟨J4k own hN hiN hy hG B hi.h hsw hfn hs⟩
theorem TW {i:Nat}{x:Str}{e:Expr}{npos apos cpos:Pos}(hK:X.K=W.K)(hN:X.N[i]?=some x)(hv:Vis X.env.scope x)(ha:JA X W [e] dA)
 (h:PE X (.Call (.Attribute (.Name x npos) "append" apos) [e] [] cpos) (tBM X.K "list" GX (FI i) (dnA W dA))) (hs:swapsWith (.Call (.Attribute (.Name x npos) "append" apos) [e] [] cpos) none pos.line X.env=pure false:=by rfl) :
 JS X W (.Expr (.Call (.Attribute (.Name x npos) "append" apos) [e] [] cpos) pos) (J1h i dA):=⟨XT hK hN hv ha.h h hs⟩
theorem VH {g:TG}{gd:D->Ev->(Ev->Prop)->Prop}{db:DS}{body:List Stmt}(hG:GD W g gd)(hp:PassesOwn (model X.prog X.w) X.A X.env X.xe)(hc:X.calm=true)(hi:JI X W true tg iter di)(hg:PG X tg g)(hb:JSs X W body db)
 (hs:∀ x,foldedSetIterable iter X.env x=pure x:=by intro _;rfl):JS X W (.For tg iter body [] pos) (J9o gd di db):=⟨J8x hG hp hc hi.h hg hb.h hs⟩
theorem EZ {E:XK}{Ed:Addr->Prop}{C:Addr}(hE:KM W E Ed)(h:PS X st (fun _ _ H1=>E (.ref C) none H1)):JS X W st (J1e Ed C):=⟨J0w hE h⟩
theorem NU:JS X W st J1f:=⟨J0x ⟩
end
section
variable {X:Cx}{W:Wd}{e:Expr}{pos:Pos}{dl de:DE}
theorem GK:JO X W none oNo:=⟨J4o ⟩
theorem GJ (h:JE X W e de):JO X W (some e) (oPt de):=⟨J4n h.h⟩
theorem FA {lo hi:Option Expr}{dl dh:DO}{p2:Pos}(hr:SlR X (fun x lo hi H Q=>ZA W.K x lo hi H Q\/ZB W.K x lo hi H Q))(he:JE X W e de)(hl:JO X W lo dl)(hu:JO X W hi dh):JE X W (.Subscript e (.Slice lo hi none p2) pos) (dSl de dl dh):=⟨J0z hr he.h hl.h hu.h⟩
end
section
variable {X:Cx}{W:Wd}{a b:Expr}{rest:List Expr}{pos:Pos}{ta tb:DT}
theorem PM (ha:JT X W a ta)(hb:JW X W (.BoolOp .And (b::rest) pos) tb):JT X W (.BoolOp .And (a::b::rest) pos) (J1d ta tb):=⟨(J8s ha.h hb.h).pt⟩
theorem DV (ha:JT X W a ta)(hb:JW X W (.BoolOp .Or (b::rest) pos) tb):JT X W (.BoolOp .Or (a::b::rest) pos) (J4v ta tb):=⟨(J6a ha.h hb.h).pt⟩
end
theorem RU {es:List Expr}{pos:Pos}{env:Env}:∀ x,foldedSetIterable (.List es pos) env x=pure x:=fun _=>rfl
theorem FH {X:Cx} {W:Wd} {N':List Str} {scope:Scope} {map:List (Option Nat)} {tg elt:Expr} {ifs:List Expr} {g:TG} {dt:DT} {de:DE} (calm:X.calm=true) (kind:scope.kind=.function) (loc:∀ x∈scope.names,x.2=.local->scope.names.lookup x.1=some .local) (free:(scope.names.all fun p=>!(p.2==NameKind.free)||(X.env.kindOf p.1==some .cell||X.env.kindOf p.1==some .free))=true) (cap:CapOk X scope map N') (keep:GU g map)
 (run:∀ cells C fp s H,PG (Q0 X N' scope cells C fp s H) tg g/\JIf (Q0 X N' scope cells C fp s H) W ifs dt/\JE (Q0 X N' scope cells C fp s H) W elt de):Blk X N' scope map tg elt ifs g (dnT W dt) (dn W de) :=
 ⟨calm,kind,loc,free,cap,keep,fun cells C fp s H _=>⟨(run cells C fp s H).1,(run cells C fp s H).2.1.h,(run cells C fp s H).2.2.h⟩⟩
theorem Fun.okD {P:Program}{w:World} {mg:Str->Option Value}{base:Heap}{x qual:Str}{st:Stmt}{f:Addr} {N ps:List Str}{k:Nat}{B:BagT}{Sd:DSp}(F:Fun K x qual st f fd)(S:FnScope N ps (J5 st))(len:∀ ds PP Ed,Sd ds PP Ed->ds.length=ps.length)
 (hbody:∀ (cdv:Value) (A:Around) (outer:List Env) (s:Shared) (H:Hp) (E:XK) (M:Addr->Prop) (bg:Option Addr) (ds:List D) (PP:D->Prop) (Ed:Addr->Prop),Room k (A.deeper (envOfC qual (J5 st) s.heap.objs.size f cdv))->Sd ds PP Ed ->
  ∃ d,JSs (CI CX0 P w K mg base N qual (J5 st) f cdv A outer s H E).nox ⟨K,B,H,M,bg⟩ (BP st) d/\d { nx:=fun _=>PP .non,rt:=PP } (BQ N ds)):FnOk P w K mg base CX0 (k+1) f fd ps (Q6 K B Sd) :=
 F.ok S (Q6.len len) fun cdv A outer s H vs Q E hr h=>by
  obtain ⟨M,bg,ds,PP,Ed,hS,hR,ho,hb,hd,hq,hx⟩:=h
  obtain ⟨d,J,q⟩:=hbody cdv A outer s H E M bg ds PP Ed hr hS
  exact ⟨_,J.h,run hR ho hb hd hq q⟩
theorem Fun.okDX {P:Program}{w:World} {mg:Str->Option Value}{base:Heap}{CX:CXT}{x qual:Str}{st:Stmt}{f:Addr} {N ps:List Str}{k:Nat}{B:BagT}{Sd:DSp}(F:Fun K x qual st f fd)(S:FnScope N ps (J5 st))(len:∀ ds PP Ed,Sd ds PP Ed->ds.length=ps.length)
 (hbody:∀ (cdv:Value) (A:Around) (outer:List Env) (s:Shared) (H:Hp) (E:XK) (M:Addr->Prop) (bg:Option Addr) (ds:List D) (PP:D->Prop) (Ed:Addr->Prop),Room k (A.deeper (envOfC qual (J5 st) s.heap.objs.size f cdv))->KM ⟨K,B,H,M,bg⟩ E Ed->Sd ds PP Ed ->
  ∃ d,JSs (CI CX P w K mg base N qual (J5 st) f cdv A outer s H E) ⟨K,B,H,M,bg⟩ (BP st) d/\d { nx:=fun _=>PP .non,rt:=PP } (BQ N ds)):FnOk P w K mg base CX (k+1) f fd ps (Q6 K B Sd) :=
 F.okX S (Q6.len len) fun cdv A outer s H vs Q E hr h=>by
  obtain ⟨M,bg,ds,PP,Ed,hS,hR,ho,hb,hd,hq,hx⟩:=h
  obtain ⟨d,J,q⟩:=hbody cdv A outer s H E M bg ds PP Ed hr (fun C H' e k o=>hx C H' e k o) hS
  exact ⟨_,J.h,run hR ho hb hd hq q⟩
mutual
def Y9:D->Option PyData
 | .non=>some .none
 | .bl b=>some (.bool b)
 | .int i=>some (.int i)
 | .str x=>if PyData.strOk x then some (.str x) else none
 | .tup xs=>(BE xs).map .tuple
 | .lst xs=>(BE xs).map .list
 | .own xs=>(BE xs).map .list
 | .ty _=>none
 | .adr _=>none
 | .bag=>none
 | .frg _ d=>Y9 d
 | .scr _=>none
 | .dct _ _ _=>none
def BE:List D->Option (List PyData)
 | []=>some []
 | d::ds=>(Y9 d).bind fun p=>(BE ds).map (p::·)
end
mutual
theorem Y9.lay:∀ (d:D) (p:PyData),Y9 d=some p->p.canLay0=true
 | .non,p,h=>by cases h;rfl
 | .bl b,p,h=>by cases h;rfl
 | .int i,p,h=>by cases h;rfl
 | .str x,p,h=>by
   unfold Y9 at h
   split at h
   · cases h;unfold PyData.canLay0;assumption
   · cases h
 | .tup xs,p,h=>by
   unfold Y9 at h
   obtain ⟨ps,e,rfl⟩:=Option.map_eq_some_iff.mp h
   unfold PyData.canLay0
   exact BE.lay xs ps e
 | .lst xs,p,h=>by
   unfold Y9 at h
   obtain ⟨ps,e,rfl⟩:=Option.map_eq_some_iff.mp h
   unfold PyData.canLay0
   exact BE.lay xs ps e
 | .own xs,p,h=>by
   unfold Y9 at h
   obtain ⟨ps,e,rfl⟩:=Option.map_eq_some_iff.mp h
   unfold PyData.canLay0
   exact BE.lay xs ps e
 | .ty _,p,h=>by unfold Y9 at h;cases h
 | .adr _,p,h=>by unfold Y9 at h;cases h
 | .bag,p,h=>by unfold Y9 at h;cases h
 | .frg _ d,p,h=>by unfold Y9 at h;exact Y9.lay d p h
 | .scr _,p,h=>by unfold Y9 at h;cases h
 | .dct _ _ _,p,h=>by unfold Y9 at h;cases h
theorem BE.lay:∀ (ds:List D) (ps:List PyData),BE ds=some ps->PyData.canLayAll0 ps=true
 | [],ps,h=>by cases h;rfl
 | d::ds,ps,h=>by
   unfold BE at h
   obtain ⟨p,e1,h⟩:=Option.bind_eq_some_iff.mp h
   obtain ⟨qs,e2,rfl⟩:=Option.map_eq_some_iff.mp h
   unfold PyData.canLayAll0
   rw [Y9.lay d p e1,BE.lay ds qs e2];rfl
end
section
variable {X:Cx}{pins:List (Addr×Obj)}{σ:St}{H:Hp}{s:Shared}{M:Addr->Prop}
mutual
theorem GW (I:Inv X pins σ H s):∀ (d:D) (v:V) (u:Value) (p:PyData),Rep X.K M H d v->RelV v u->Y9 d=some p->∃ as,Reads s.heap u p as
 | .non,v,u,p,r,q,h=>by cases h;cases (show _=_ from r);cases (show u=Value.none from q);exact ⟨_,.none⟩
 | .bl b,v,u,p,r,q,h=>by cases h;cases (show _=_ from r);cases (show u=Value.bool b from q);exact ⟨_,.bool _⟩
 | .int i,v,u,p,r,q,h=>by
   cases h;cases (show _=_ from r)
   obtain ⟨t,rfl⟩:=(show ∃ t,u=Value.int i t from q)
   exact ⟨_,.int _ _⟩
 | .str x,v,u,p,r,q,h=>by
   unfold Y9 at h
   split at h
   · cases h;cases (show _=_ from r)
     obtain ⟨t,rfl⟩:=(show ∃ t,u=Value.str x t from q)
     exact ⟨_,.str _ _⟩
   · cases h
 | .tup xs,v,u,p,r,q,h=>by
   unfold Y9 at h
   obtain ⟨ps,e,rfl⟩:=Option.map_eq_some_iff.mp h
   obtain ⟨a,vs,rfl,z,rs⟩:=r
   cases (show u=Value.ref a from q)
   obtain ⟨its,r1,⟨o,h1,h2,n,h3⟩,_⟩:=I.tuple z.sq
   obtain ⟨as,ra⟩:=EE I xs vs its ps rs r1 e
   exact ⟨as,.tuple h1 h2 h3 (by simpa using ra)⟩
 | .lst xs,v,u,p,r,q,h=>by
   unfold Y9 at h
   obtain ⟨ps,e,rfl⟩:=Option.map_eq_some_iff.mp h
   obtain ⟨a,vs,rfl,z,rs⟩:=r
   cases (show u=Value.ref a from q)
   obtain ⟨its,r1,⟨o,n,h1,h2,_,h3⟩,_⟩:=I.list (SqL.of z.2)
   obtain ⟨as,ra⟩:=EE I xs vs its ps rs r1 e
   exact ⟨a::as,.list h1 h2 h3 (by simpa using ra)⟩
 | .own xs,v,u,p,r,q,h=>r.elim
 | .ty _,_,_,p,_,_,h=>by unfold Y9 at h;cases h
 | .adr _,_,_,p,_,_,h=>by unfold Y9 at h;cases h
 | .bag,_,_,p,_,_,h=>by unfold Y9 at h;cases h
 | .frg _ _,_,_,p,r,_,h=>r.elim
 | .scr _,_,_,p,_,_,h=>by unfold Y9 at h;cases h
 | .dct _ _ _,_,_,p,_,_,h=>by unfold Y9 at h;cases h
theorem EE (I:Inv X pins σ H s):∀ (ds:List D) (vs:List V) (us:List Value) (ps:List PyData),Reps X.K M H ds vs->Vals vs us->BE ds=some ps->∃ as,ReadsAll s.heap us ps as
 | [],vs,us,ps,r,q,h=>by
   cases h
   cases (show vs=[] from r)
   cases q
   exact ⟨[],.nil⟩
 | d::ds,vs,us,ps,r,q,h=>by
   unfold BE at h
   obtain ⟨p,e1,h⟩:=Option.bind_eq_some_iff.mp h
   obtain ⟨qs,e2,rfl⟩:=Option.map_eq_some_iff.mp h
   obtain ⟨v,rv,rfl,r1,r2⟩:=r
   cases q with
   | cons q1 q2 =>
     obtain ⟨as,a1⟩:=GW I d v _ p r1 q1 e1
     obtain ⟨bs,a2⟩:=EE I ds rv _ qs r2 q2 e2
     exact ⟨as++bs,.cons a1 a2⟩
end
end
def J2l (K:Fg)(M:Addr->Prop)(H:Hp):D->V->Prop
 | .own xs,v=>∃ a vs,v=.ref a/\H a=some (.lst vs)/\Reps K M H xs vs
 | .frg _ d,v=>∃ M',Rep K M' H d v
 | d,v=>Rep K M H d v
theorem RepX.g {W:Wd} {H:Hp}{d:D}{v:V}{p:PyData}(h:RepX W M b H d v)(e:Y9 d=some p):J2l W.K M H d v:=by
 cases d
 case own xs=>obtain ⟨a,vs,rfl,_,_,_,_,hh,r⟩:=h;exact ⟨a,vs,rfl,hh,r⟩
 case bag=>unfold Y9 at e;cases e
 case frg f d=>exact ⟨_,h.2.2⟩
 all_goals exact h
theorem EF {X:Cx}{pins:List (Addr×Obj)}{σ:St}{H:Hp}{s:Shared} (I:Inv X pins σ H s){d:D}{v:V}{u:Value}{p:PyData}(r:J2l X.K M H d v)(q:RelV v u)(h:Y9 d=some p):∃ as,Reads s.heap u p as:=by
 cases d
 case own xs =>
  obtain ⟨a,vs,rfl,hh,r⟩:=r
  unfold Y9 at h
  obtain ⟨ps,e,rfl⟩:=Option.map_eq_some_iff.mp h
  cases (show u=Value.ref a from q)
  obtain ⟨its,r1,⟨o,n,h1,h2,_,h3⟩,_⟩:=I.list (SqL.of hh)
  obtain ⟨as,ra⟩:=EE I xs vs its ps r r1 e
  exact ⟨a::as,.list h1 h2 h3 (by simpa using ra)⟩
 case frg f d =>
  obtain ⟨M',r⟩:=r
  exact GW (M:=M') I d _ _ _ r q (by unfold Y9 at h;exact h)
 all_goals exact GW I _ _ _ _ r q h
def J7t (K:Fg)(neg:Bool):R2:=fun x y H Q=>∃ M dx dy p q,J2l K M H dx x/\J2l K M H dy y/\Y9 dx=some p/\Y9 dy=some q/\min p.depth q.depth<=60/\Q (.bl (PyData.eqv p q != neg)) H
theorem GF {X:Cx}(K:Fg)(hK:X.K=K)(hu:X.A.units+64<cLine):OpR X (compareOp .Eq) (J7t K false):=by
 subst hK
 intro pins s σ H x y v u Q I rx ry h
 obtain ⟨M,dx,dy,p,q,r1,r2,e1,e2,hd,hq⟩:=h
 obtain ⟨as,a1⟩:=EF I r1 rx e1
 obtain ⟨bs,a2⟩:=EF I r2 ry e2
 refine SeqAt.compareEq_reads a1 a2 (Y9.lay _ _ e1) (Y9.lay _ _ e2) (by omega) ?_
 exact ⟨.bl _,H,I,rfl,by simpa using hq⟩
theorem OV {X:Cx}(K:Fg)(hK:X.K=K)(hu:X.A.units+64<cLine):OpR X (compareOp .NotEq) (J7t K true):=by
 subst hK
 intro pins s σ H x y v u Q I rx ry h
 obtain ⟨M,dx,dy,p,q,r1,r2,e1,e2,hd,hq⟩:=h
 obtain ⟨as,a1⟩:=EF I r1 rx e1
 obtain ⟨bs,a2⟩:=EF I r2 ry e2
 refine SeqAt.compareNe_reads a1 a2 (Y9.lay _ _ e1) (Y9.lay _ _ e2) (by omega) ?_
 exact ⟨.bl _,H,I,rfl,by simpa using hq⟩
inductive EqG (neg:Bool)(x y:D)(P:D->Prop):Prop
 | mk (p q:PyData) (e1:Y9 x=some p) (e2:Y9 y=some q) (hd:min p.depth q.depth<=60) (h:P (.bl (PyData.eqv p q != neg))):EqG neg x y P
def Q2x (neg:Bool):D->D->(D->Prop)->Prop:=fun x y P=>EqG neg x y P
theorem DR {W:Wd}{neg:Bool}:OpD W (J7t W.K neg) (Q2x neg):=by
 intro M b H x y v u P Q hs rx ry ho k
 obtain ⟨p,q,e1,e2,hd,hp⟩:=ho
 exact ⟨M,x,y,p,q,rx.g e1,ry.g e2,e1,e2,hd,k _ _ H hp (show _=_ from rfl) (Kp.refl _ _) hs.ok⟩
mutual
def V6:Nat->D->Bool
 | _,.non=>true
 | _,.bl _=>true
 | _,.int _=>true
 | _,.str x=>PyData.strOk x
 | n+1,.tup xs=>AM n xs
 | n+1,.lst xs=>AM n xs
 | n+1,.own xs=>AM n xs
 | n,.frg _ d=>V6 n d
 | _,_=>false
def AM:Nat->List D->Bool
 | _,[]=>true
 | n,d::ds=>V6 n d&&AM n ds
end
mutual
theorem HE:∀ (n:Nat) (d:D),V6 n d=true->∃ p,Y9 d=some p/\p.depth<=n/\PyData.eqv p p=true
 | n,.non,h=>⟨_,rfl,Nat.zero_le _,rfl⟩
 | n,.bl b,h=>⟨_,rfl,Nat.zero_le _,by simp [PyData.eqv]⟩
 | n,.int i,h=>⟨_,rfl,Nat.zero_le _,by simp [PyData.eqv]⟩
 | n,.str x,h=>by
   have h:PyData.strOk x=true:=by cases n<;>simpa [V6] using h
   exact ⟨.str x,by unfold Y9;rw [if_pos h],Nat.zero_le _,by simp [PyData.eqv]⟩
 | 0,.tup xs,h=>by simp [V6] at h
 | 0,.lst xs,h=>by simp [V6] at h
 | 0,.own xs,h=>by simp [V6] at h
 | n+1,.tup xs,h=>by
   obtain ⟨ps,e,hd,hq⟩:=GM n xs (by simpa [V6] using h)
   exact ⟨.tuple ps,by unfold Y9;rw [e];rfl,by unfold PyData.depth;omega,by unfold PyData.eqv;exact hq⟩
 | n+1,.lst xs,h=>by
   obtain ⟨ps,e,hd,hq⟩:=GM n xs (by simpa [V6] using h)
   exact ⟨.list ps,by unfold Y9;rw [e];rfl,by unfold PyData.depth;omega,by unfold PyData.eqv;exact hq⟩
 | n+1,.own xs,h=>by
   obtain ⟨ps,e,hd,hq⟩:=GM n xs (by simpa [V6] using h)
   exact ⟨.list ps,by unfold Y9;rw [e];rfl,by unfold PyData.depth;omega,by unfold PyData.eqv;exact hq⟩
 | n,.ty _,h=>by cases n<;>simp [V6] at h
 | n,.adr _,h=>by cases n<;>simp [V6] at h
 | n,.bag,h=>by cases n<;>simp [V6] at h
 | n,.frg _ d,h=>by
   obtain ⟨p,e,h1,h2⟩:=HE n d (by cases n<;>simpa [V6] using h)
   exact ⟨p,by unfold Y9;exact e,h1,h2⟩
 | n,.scr _,h=>by cases n<;>simp [V6] at h
 | n,.dct _ _ _,h=>by cases n<;>simp [V6] at h
theorem GM:∀ (n:Nat) (ds:List D),AM n ds=true->∃ ps,BE ds=some ps/\PyData.depthAll ps<=n/\PyData.eqvAll ps ps=true
 | n,[],h=>⟨[],rfl,Nat.zero_le _,rfl⟩
 | n,d::ds,h=>by
   unfold AM at h
   obtain ⟨h1,h2⟩:=(Bool.and_eq_true _ _).mp h
   obtain ⟨p,e1,d1,q1⟩:=HE n d h1
   obtain ⟨ps,e2,d2,q2⟩:=GM n ds h2
   exact ⟨p::ps,by unfold BE;rw [e1,e2];rfl,by unfold PyData.depthAll;omega,by unfold PyData.eqvAll;rw [q1,q2];rfl⟩
end
theorem HC {n:Nat}:∀ {ds:List D},(∀ d∈ds,V6 n d=true)->AM n ds=true
 | [],_=>by unfold AM;rfl
 | d::ds,h=>by
   unfold AM
   rw [h d (List.mem_cons_self ..),HC fun e he=>h e (List.mem_cons_of_mem _ he)];rfl
section
variable {X:Cx}{W:Wd}{e a b l:Expr}{pos p:Pos}{d:DE}{dA:DA}{x:Str}{k:Nat}{ps:List Str}
def bor:D->D
 | .own xs=>.lst xs
 | .frg _ d=>d
 | d=>d
def Q2b (i:Nat)(dA:DA):DS:=fun F ρ=>dA ρ fun xs=>match xs with
 | [x]=>(asS x).elim False fun ys=>F.nx (ρ.set i (some (.own ys)))
 | _=>False
theorem J0e {i:Nat}{y:Str}{pos' lpos npos:Pos}(hN:X.N.Nodup)(hi:X.N[i]?=some y)(hx:Loc X.env.scope y)(ha:JA X W [a] dA)
 (h:PE X (.Call (.Name "list" npos) [a] [] lpos) (tCB (fun xs H Q=>∃ p ys,xs=[.ref p]/\(SqL W.K H p ys\/SqT W.K H p ys)/\∀ l,H l=none->Q (.ref l) (upd H l (.lst ys))) (dnA W dA)))
 (hs:swapsWith (.Call (.Name "list" npos) [a] [] lpos) (some (.Name y pos')) pos.line X.env=pure false:=by rfl) (hf:X.fn y=true\/X.env.scope.names.lookup y=some .local:=by first|exact .inl rfl|exact .inr rfl|assumption) :
 JS X W (.Assign [.Name y pos'] (.Call (.Name "list" npos) [a] [] lpos) pos) (Q2b i dA):=⟨(BR hN hi hx h hs hf).mono fun E σ H hh=>hh.elim fun pn M b ρ F s l h=>by
 refine ⟨pn,M,b,ρ,_,s.toSta,h,fun xs vs H' hx rx k o=>?_⟩
 match xs,hx with
 | [x],hx =>
   obtain ⟨v,rfl,r⟩:=rx1 rx
   cases e1:asS x with
   | none=>simp only [e1] at hx;exact hx.elim
   | some ys =>
     simp only [e1] at hx
     obtain ⟨a,us,rfl,hh,r'⟩:=asS.rep r e1
     exact ⟨a,us,rfl,hh,fun q hq=>l.nx _ _ _ _ _ ((s.step k o).newOwn i r' hq) hx⟩⟩
theorem VQ {xs:List D}{neg:Bool}{P:D->Prop}(n:Nat)(h:AM n xs=true)(hp:P (.bl (xs.isEmpty != neg))):EqG neg (.own xs) (.lst []) P:=by
 obtain ⟨ps,e,hd,hq⟩:=GM n xs h
 refine ⟨.list ps,.list [],by unfold Y9;rw [e];rfl,rfl,Nat.le_trans (Nat.min_le_right _ _) (by decide),?_⟩
 have:PyData.eqv (.list ps) (.list [])=xs.isEmpty:=by
  cases xs with
  | nil=>cases e;rfl
  | cons x xs =>
    unfold BE at e
    obtain ⟨p,e1,e⟩:=Option.bind_eq_some_iff.mp e
    obtain ⟨qs,e2,rfl⟩:=Option.map_eq_some_iff.mp e
    rfl
 rw [this]
 exact hp
end
abbrev DSO:=List D->(List D->Prop)->(Addr->Prop)->Prop
def CP (K:Fg)(B:BagT)(S:DSO):Sp:=fun vs H Q E=>∃ (M:Addr->Prop) (b:Option Addr) (ds:List D) (P:List D->Prop) (Ed:Addr->Prop),S ds P Ed/\RepAs K M b H ds vs/\okB B b H/\(∀ p,b=some p->M p)/\(∀ c,M c->∃ o,H c=some o) /\
 (∀ xs a us H',P xs->H a=none->H' a=some (.lst us)->Reps K (fun c=>M c\/c=a) H' xs us->Kp b H H'->okB B b H'->Q (.ref a) H')/\∀ C H',Ed C->Kp b H H'->okB B b H'->E (.ref C) none H'
theorem CP.len {B:BagT}{S:DSO}{n:Nat}(h:∀ ds P Ed,S ds P Ed->ds.length=n):∀ vs H Q E,CP K B S vs H Q E->vs.length=n:=fun vs H Q E ⟨M,b,ds,P,Ed,hS,hr,_⟩=>by rw [hr.length];exact h _ _ _ hS
theorem Q2u {B:BagT} {N:List Str}{ds:List D}{vs:List V}{H:Hp}{Q:VK}{P:List D->Prop}{d:DS}(hr:RepAs K M b H ds vs)(ho:okB B b H)(hb:∀ p,b=some p->M p)(hd:∀ c,M c->∃ o,H c=some o)(hq:∀ xs a us H',P xs->H a=none->H' a=some (.lst us)->Reps K (fun c=>M c\/c=a) H' xs us->Kp b H H'->okB B b H'->Q (.ref a) H')
 (h:d { nx:=fun _=>False,rt:=fun _=>False,ro:=P } (BQ N ds)):sn ⟨K,B,H,M,b⟩ d { nx:=fun _ H'=>Q .non H',rt:=Q } (EC N vs) H :=
 ⟨[],M,b,BQ N ds,{ nx:=fun _=>False,rt:=fun _=>False,ro:=P },J0s hr ho hb hd,⟨fun _ _ _ _ _ _ h=>h.elim,fun _ _ _ h=>h.elim,fun _ _ _ _ _ _ h=>h.elim,fun _ _ _ _ _ _ h=>h.elim,fun xs a us H' hp h0 _ hh r k o=>hq xs a us H' hp h0 hh r k o⟩,h⟩
theorem Fun.okDO {P:Program}{w:World} {mg:Str->Option Value}{base:Heap}{x qual:Str}{st:Stmt}{f:Addr} {N ps:List Str}{k:Nat}{B:BagT}{Sd:DSO}(F:Fun K x qual st f fd)(S:FnScope N ps (J5 st))(len:∀ ds PP Ed,Sd ds PP Ed->ds.length=ps.length)
 (hbody:∀ (cdv:Value) (A:Around) (outer:List Env) (s:Shared) (H:Hp) (E:XK) (M:Addr->Prop) (bg:Option Addr) (ds:List D) (PP:List D->Prop) (Ed:Addr->Prop),Room k (A.deeper (envOfC qual (J5 st) s.heap.objs.size f cdv))->Sd ds PP Ed ->
  ∃ d,JSs (CI CX0 P w K mg base N qual (J5 st) f cdv A outer s H E).nox ⟨K,B,H,M,bg⟩ (BP st) d/\d { nx:=fun _=>False,rt:=fun _=>False,ro:=PP } (BQ N ds)):FnOk P w K mg base CX0 (k+1) f fd ps (CP K B Sd) :=
 F.ok S (CP.len len) fun cdv A outer s H vs Q E hr h=>by
  obtain ⟨M,bg,ds,PP,Ed,hS,hR,ho,hb,hd,hq,hx⟩:=h
  obtain ⟨d,J,q⟩:=hbody cdv A outer s H E M bg ds PP Ed hr hS
  exact ⟨_,J.h,Q2u hR ho hb hd hq q⟩
section
variable {X:Cx}{W:Wd}{e a b c l:Expr}{es:List Expr}{pos p:Pos}{d de:DE}{dA:DA}{x:Str}{k:Nat}{ps:List Str}{S:DSO}
theorem Sta.fresh0 {pn:List (D×V)} {b:Option Addr}{H:Hp}{σ:St}{ρ:Ev}{p:Addr}(s:Sta W pn M b H σ ρ)(h:H p=none):W.H0 p=none/\¬ W.M0 p:=by
 have hbp:b≠some p:=fun z=>by
  obtain ⟨o,e⟩:=W.B.dm p H (s.ok p z)
  rw [h] at e;cases e
 refine ⟨?_,fun z=>s.toHs.new h (s.m0 p z)⟩
 cases q:W.H0 p with
 | none=>rfl
 | some o =>
   by_cases z:W.b0=some p
   · rcases s.new with y|⟨y,_⟩
     · exact absurd (y.trans z) hbp
     · rw [y] at z;cases z
   · have:=s.kp p o z q
     rw [h] at this;cases this
def Q1z (de:DE):DS:=fun F ρ=>de ρ fun x=>match x with|.own xs=>F.ro xs|_=>False
theorem J0c (he:JE X W e de):JS X W (.Return (some e) pos) (Q1z de):=⟨(HR he.h).mono fun E σ H hh=>hh.elim fun pn M b ρ F s l h=>by
 refine ⟨pn,M,b,ρ,_,s.toSta,h,fun x v H' hx rx k o=>?_⟩
 have s':=s.toSta.step k o
 cases x<;>first|exact hx.elim|skip
 case own xs =>
  obtain ⟨a,vs,rfl,m,n,n0,m0,hh,r⟩:=rx
  exact l.ro _ _ _ H' hx n0 m0 hh (Reps.avoid (fun c z=>.inl (z.elim (s'.m0 c) fun y=>by rw [y];exact m)) _ _ r) s'.kp s'.ok0⟩
mutual
def noL:D->Bool
 | .tup xs=>PH xs
 | .lst _=>false
 | .own _=>false
 | .bag=>false
 | .frg _ _=>false
 | .scr _=>false
 | .dct _ _ _=>false
 | .non=>true
 | .bl _=>true
 | .int _=>true
 | .str _=>true
 | .ty _=>true
 | .adr _=>true
def PH:List D->Bool
 | []=>true
 | d::ds=>noL d&&PH ds
end
section
variable {K:Fg}{M M':Addr->Prop}{H:Hp}
mutual
theorem Rep.unbor (k:∀ c,M c->M' c\/∃ o,H c=some o/\∀ vs,o≠.tup vs):∀ (d:D) (v:V),noL d=true->Rep K M' H d v->Rep K M H d v
 | .non,_,_,h=>h
 | .bl _,_,_,h=>h
 | .int _,_,_,h=>h
 | .str _,_,_,h=>h
 | .ty _,_,_,h=>h
 | .adr _,_,_,h=>h
 | .tup xs,v,n,h=>by
   obtain ⟨a,vs,e,z,r⟩:=h
   refine ⟨a,vs,e,z.imp (fun q=>⟨fun m=>?_,q.2⟩) id,Reps.unbor k xs vs (by unfold noL at n;exact n) r⟩
   rcases k a m with y|⟨us,y,nt⟩
   · exact q.1 y
   · rw [q.2] at y;cases y;exact nt _ rfl
 | .lst _,_,n,_=>by unfold noL at n;cases n
 | .own _,_,n,_=>by unfold noL at n;cases n
 | .bag,_,n,_=>by unfold noL at n;cases n
 | .frg _ _,_,n,_=>by unfold noL at n;cases n
 | .scr _,_,n,_=>by unfold noL at n;cases n
 | .dct _ _ _,_,n,_=>by unfold noL at n;cases n
theorem Reps.unbor (k:∀ c,M c->M' c\/∃ o,H c=some o/\∀ vs,o≠.tup vs):∀ (ds:List D) (vs:List V),PH ds=true->Reps K M' H ds vs->Reps K M H ds vs
 | [],_,_,h=>h
 | d::ds,vs,n,h=>by
   obtain ⟨v,r,e,h1,h2⟩:=h
   unfold PH at n
   obtain ⟨n1,n2⟩:=(Bool.and_eq_true _ _).mp n
   exact ⟨v,r,e,Rep.unbor k d v n1 h1,Reps.unbor k ds r n2 h2⟩
end
end
def BorAt:List D->List V->Addr->Prop
 | .own _::ds,v::vs,c=>v=.ref c\/BorAt ds vs c
 | .frg f _::ds,_::vs,c=>c∈f.ads\/BorAt ds vs c
 | _::ds,_::vs,c=>BorAt ds vs c
 | _,_,_=>False
theorem BorAt.lst {b:Option Addr}{H:Hp}{c:Addr}:∀ (ds:List D) (vs:List V),RepXs W M b H ds vs->BorAt ds vs c->b≠some c/\∃ o,H c=some o/\∀ vs,o≠.tup vs
 | [],vs,h,q=>by cases (show vs=[] from h);exact q.elim
 | d::ds,vs,h,q=>by
   obtain ⟨v,r,rfl,h1,h2⟩:=h
   cases d
   case own xs =>
    rcases q with z|z
    · obtain ⟨a,us,e,m1,m2,m3,m4,hh,r'⟩:=h1
      rw [z] at e;cases e
      exact ⟨m2,_,hh,fun _ y=>by cases y⟩
    · exact BorAt.lst ds r h2 z
   case frg f d =>
    rcases q with z|z
    · exact ⟨(h1.1 c z).2.1,f.nt _ _ _ h1.2.1 c z⟩
    · exact BorAt.lst ds r h2 z
   all_goals exact BorAt.lst ds r h2 q
theorem RepXs.bor2 {M M':Addr->Prop}{b:Option Addr}{H:Hp}(sub:∀ c,M' c->M c):∀ (ds:List D) (vs:List V),(∀ c,BorAt ds vs c->¬ M' c)->RepXs W M b H ds vs->RepAs W.K M' b H (ds.map L2.bor) vs
 | [],_,_,h=>h
 | d::ds,vs,nb,h=>by
   obtain ⟨v,r,rfl,h1,h2⟩:=h
   have av:∀ c,M' c->M c\/H c=none:=fun c hc=>.inl (sub c hc)
   have nb2:∀ c,BorAt ds r c->¬ M' c:=fun c hc=>nb c (by cases d<;>first|exact hc|exact .inr hc)
   refine ⟨v,r,rfl,?_,RepXs.bor2 sub ds r nb2 h2⟩
   cases d
   case own xs =>
    obtain ⟨a,us,rfl,m1,m2,m3,m4,hh,r'⟩:=h1
    exact ⟨a,us,rfl,⟨nb a (.inl rfl),hh⟩,Reps.avoid av _ _ r'⟩
   case bag=>exact h1
   case frg f d =>
    have r:=Rep.avoid (M':=M') (fun c hc=>.inl ⟨sub c hc,fun m=>nb c (.inl m) hc⟩) _ _ h1.2.2
    show Q0f W.K _ b H d v
    cases d<;>first|exact r|exact r.elim
   all_goals exact Rep.avoid av _ _ h1
theorem J1s {pn:List (D×V)} {b:Option Addr}{H1:Hp}{σ:St}{ρ:Ev}{xs:List D}{vs:List V}{P:List D->Prop}{Q:VK}(st1:Sta W pn M b H1 σ ρ)(rx:RepXs W M b H1 xs vs)(hS:S (xs.map bor) (fun ys=>PH ys=true/\P ys) (fun _=>False))
 (k:∀ ys a us H',P ys->H1 a=none->H' a=some (.lst us)->Reps W.K M H' ys us->Kp b H1 H'->okB W.B b H'->Q (.ref a) H'):CP W.K W.B S vs H1 Q E0:=by
 refine ⟨fun c=>M c/\¬ BorAt xs vs c,b,xs.map bor,_,fun _=>False,hS,RepXs.bor2 (fun c h=>h.1) _ _ (fun c h z=>z.2 h) rx,st1.ok,fun p h=>⟨st1.bagM p h,fun z=>(BorAt.lst xs vs rx z).1 h⟩,fun c hc=>st1.dom c hc.1,fun ys a us H' hp h0 hh r k2 o2=>?_,fun C H' hC=>hC.elim⟩
 refine k ys a us H' hp.2 h0 hh (Reps.unbor (fun c m=>?_) _ _ hp.1 (Reps.avoid (fun c m=>.inl (.inl m)) _ _ r)) k2 o2
 by_cases z:BorAt xs vs c
 · obtain ⟨nb,us',e,nt⟩:=BorAt.lst xs vs rx z
   exact .inr ⟨us',k2 c _ nb e,nt⟩
 · exact .inl ⟨m,z⟩
def J9r (S:DSO)(dA:DA):DE:=fun ρ P=>dA ρ fun ds=>S (ds.map bor) (fun ys=>PH ys=true/\P (.lst ys)) (fun _=>False)
theorem J0j (G:Callee X.prog X.w X.K X.mg X.base CX0 x k ps (CP W.K W.B S))(hr:Room k X.A)(hg:Gl X x)(ha:JA X W (e::es) dA)(hdb:(x==("__debug__" : Str))=false:=by decide) (he:starEach (e::es) X.env=(false,eval e X.env)::starEach es X.env:=by rfl) (hpl:(backTo pos (starEach es X.env)).any (·.1)=false:=by rfl) :
 JE X W (.Call (.Name x p) (e::es) [] pos) (J9r S dA):=⟨(LX G hr hg ha.h hdb he hpl).mono fun σ H Q hh=>hh.elim fun pn M b ρ P st h k=>by
 refine ⟨pn,M,b,ρ,_,st,h,fun xs vs H1 hx rx k1 o1=>?_⟩
 have st1:=st.step k1 o1
 show CP W.K W.B S (vs++[]) H1 Q E0
 rw [List.append_nil]
 exact J1s (P:=fun ys=>P (.lst ys)) st1 rx hx fun ys a us H' hp h0 hh r k2 o2=>k _ _ H' hp ⟨a,us,rfl,⟨st1.toHs.new h0,hh⟩,r⟩ (k1.trans k2) o2⟩
theorem StS.gotOwn2 {pn:List (D×V)} {b:Option Addr}{H H':Hp}{σ:St}{ρ:Ev}{xs:List D}{vs:List V}{p:Addr}(s:StS W pn M b H σ ρ)(i:Nat)(kp:Kp b H H')(ok:okB W.B b H')(h:H p=none)(hh:H' p=some (.lst vs))(r':Reps W.K (fun c=>M c\/c=p) H' xs vs) :
 StS W pn (fun c=>M c\/c=p) b H' (σ.set i (some (.ref p))) (ρ.set i (some (.own xs))):=by
 have hM:∀ c,(M c\/c=p)->M c\/H c=none:=fun c hc=>hc.imp id (fun z=>by rw [z];exact h)
 have kk:∀ c o,¬ (M c\/c=p)->H c=some o->H' c=some o:=fun c o n e=>kp c o (fun z=>n (.inl (s.bagM c z))) e
 have rep:∀ d v,Rep W.K M H d v->Rep W.K (fun c=>M c\/c=p) H' d v:=fun d v r=>Rep.keep kk _ _ (Rep.avoid hM _ _ r)
 have reps:∀ d v,Reps W.K M H d v->Reps W.K (fun c=>M c\/c=p) H' d v:=fun d v r=>Reps.keep kk _ _ (Reps.avoid hM _ _ r)
 have hbp:b≠some p:=fun z=>by
  obtain ⟨o,e⟩:=W.B.dm p H (s.ok p z)
  rw [h] at e;cases e
 obtain ⟨h0,hm0⟩:=s.toSta.fresh0 h
 have s':=s.toSta.step kp ok
 refine s.add i ⟨⟨ok,fun q e=>.inl (s.bagM q e),fun c hc=>?_,fun c m=>.inl (s.m0 c m)⟩,s'.kp,s.new,fun j d e=>?_,by simp [s.len],fun q hq=>(s.pin q hq).to rep reps fun xs a vs _ _ m n hh'=>⟨.inl m,n,kp _ _ n hh'⟩⟩ fun c m=>by
  cases (show V.ref p=V.ref c from m)
  exact s.toHs.new h
 · rcases hc with hc|hc
   · exact s'.dom c hc
   · rw [hc];exact ⟨_,hh⟩
 · by_cases z:i=j
   · subst z
     rw [List.getElem?_set] at e
     simp at e
     obtain ⟨hl,rfl⟩:=e
     exact ⟨.ref p,by rw [List.getElem?_set];simp [<- s.len,hl],p,vs,rfl,.inr rfl,hbp,h0,hm0,hh,r'⟩
   · rw [List.getElem?_set_ne z] at e
     obtain ⟨w,e1,r1⟩:=s.env j d e
     refine ⟨w,by rw [List.getElem?_set_ne z];exact e1,?_⟩
     cases d
     case own ys =>
      obtain ⟨a,us,rfl,m1,m2,m3,m4,hha,r'⟩:=r1
      exact ⟨a,us,rfl,.inl m1,m2,m3,m4,kp _ _ m2 hha,reps _ _ r'⟩
     case bag=>exact r1
     case frg f _=>exact RepX.move r1 (fun c _ m n=>⟨.inl m,n⟩) (fun c o q e=>q.elim (fun n=>kk c o n e) fun m=>kp c o (r1.1 c m).2.1 e) hM
     all_goals exact rep _ _ r1
end
section
variable {prog:Program}{w:World}{A:Around}{E:Value->Shared->Prop}{s:Shared}{l:Addr}{xs:Array (Int×Tok)}
theorem KE {Q:Value->Shared->Prop}(hl:s.heap.IsTuple l (intItems xs))
 (h:∀ s₂:Shared,s₂={ s with heap:=s.heap.push { cls:=.type "tuple_iterator",data:=.fields #[.ref l,.int 0 0] } } ->
  (s₂.heap.IsTupleIter s.heap.objs.size l 0/\s₂.heap.IsTuple l (intItems xs))->(∀ b∈[s.heap.objs.size,l],b<s₂.heap.objs.size)->l≠s.heap.objs.size->Q (.ref s.heap.objs.size) s₂) :
 wpAny (model prog w) A (pyIter (.ref l)) Q E s:=by
 have hlt:l<s.heap.objs.size:=by obtain ⟨_,e,_⟩:=hl;exact Heap.lt_size e
 refine wpAny_pyIter_tuple hl (h _ rfl ⟨⟨_,Heap.get?_push_size _ rfl,rfl,rfl⟩,hl.at fun o e=>Heap.get?_push_of_some _ e⟩ (fun b hb=>?_) (Nat.ne_of_lt hlt))
 show b<(s.heap.push _).objs.size
 rw [Heap.size_push]
 rcases List.mem_cons.mp hb with rfl|hb
 · exact Nat.lt_succ_self _
 · rcases List.mem_cons.mp hb with rfl|hb
   · exact Nat.lt_succ_of_lt hlt
   · cases hb
theorem NR {h':Heap}(hk:∀ b o,b∉[s.heap.objs.size]->(s.heap.push { cls:=.type "tuple_iterator",data:=.fields #[.ref l,.int 0 0] }).get? b=some o->h'.get? b=some o) :
 ∀ b o,s.heap.get? b=some o->h'.get? b=some o:=fun b o e=>by
 refine hk b o (fun hm=>?_) (Heap.get?_push_of_some _ e)
 rcases List.mem_cons.mp hm with e1|hm
 · exact absurd (e1▸Heap.lt_size e) (Nat.lt_irrefl _)
 · cases hm
theorem TQ {Q:Value->Shared->Prop}(hh:A.handled=none)(hl:s.heap.IsTuple l (intItems xs))(hne:0<xs.size)
 (h:∀ v h' tk,(intItems xs)[argBest (fun i j=>decide (numAt xs i>numAt xs j)) (xs.size - 1)]?=some v->(∀ b o,s.heap.get? b=some o->h'.get? b=some o)->Q v { s with heap:=h',toks:=tk }) :
 wpAny (model prog w) A (call (.builtin "max") [.ref l]) Q E s:=by
 refine call_max_walk (KE hl fun s₂ e st hfp hlI=>?_)
 subst e
 refine ⟨_,_,_,_,_,_,_,rfl,Walks.tuple (A:=A.in1) hh _ l hlI (intItems xs),st,hfp,by simpa [intItems] using hne,CmpOf.ints_gt (numAt xs) (fun _ _=>intItems_at),fun v h' tk hP hk=>?_⟩
 exact h v h' tk (by simpa [intItems] using hP) (NR hk)
theorem TN {Q:Value->Shared->Prop}(hh:A.handled=none)(hl:s.heap.IsTuple l (intItems xs))(hne:0<xs.size)
 (h:∀ v h' tk,(intItems xs)[argBest (fun i j=>decide (numAt xs i<numAt xs j)) (xs.size - 1)]?=some v->(∀ b o,s.heap.get? b=some o->h'.get? b=some o)->Q v { s with heap:=h',toks:=tk }) :
 wpAny (model prog w) A (call (.builtin "min") [.ref l]) Q E s:=by
 refine call_min_walk (KE hl fun s₂ e st hfp hlI=>?_)
 subst e
 refine ⟨_,_,_,_,_,_,_,rfl,Walks.tuple (A:=A.in1) hh _ l hlI (intItems xs),st,hfp,by simpa [intItems] using hne,CmpOf.ints_lt (numAt xs) (fun _ _=>intItems_at),fun v h' tk hP hk=>?_⟩
 exact h v h' tk (by simpa [intItems] using hP) (NR hk)
end
section
variable {X:Cx}
theorem JU (K:Fg)(hK:X.K=K)(hc:X.calm=true):AV X (.builtin "max") (fun xs H Q=>∃ (p:Addr) (ns:List Int),xs=[.ref p]/\SqT K H p (ns.map V.int)/\0<ns.length/\∀ M:Int,M∈ns->(∀ a∈ns,a<=M)->Q (.int M) H):=by
 subst hK
 intro pins s σ H xs us Q I r h
 obtain ⟨p,ns,rfl,hq,hn,q⟩:=h
 obtain ⟨u,rfl,rx⟩:=ET r
 cases rx
 obtain ⟨its,rv,pl,hz⟩:=I.tuple hq
 obtain ⟨ps,e1,e2⟩:=HU rv
 subst e1
 have hlen:ps.length=ns.length:=by rw [<- e2,List.length_map]
 have hl:s.heap.IsTuple p _:=pl
 rw [<- FC] at hl
 refine TQ (xs:=ps.toArray) (I.ok.hd hc) hl (by simp;omega) fun v h' tk hv k=>?_
 obtain ⟨t,e⟩:=intItems_at hv
 obtain ⟨b1,b2⟩:=argBest_gt (numAt ps.toArray) (ps.toArray.size - 1)
 subst e
 refine ⟨.int _,H,I.kept k,⟨t,rfl⟩,q _ ?_ ?_⟩
 · rw [DD,e2]
   have hj:argBest (fun i j=>decide (numAt ps.toArray i>numAt ps.toArray j)) (ps.toArray.size - 1)<ns.length:=by
    have:ps.toArray.size=ns.length:=by simp [hlen]
    omega
   rw [List.getElem?_eq_getElem hj]
   exact List.getElem_mem hj
 · intro a ha
   obtain ⟨j,hj,rfl⟩:=List.mem_iff_getElem.mp ha
   have:=b2 j (by simp;omega)
   rw [DD ps j,e2,List.getElem?_eq_getElem hj] at this
   exact this
end
section
variable {W:Wd}
def J5u (le:Int->Int->Prop):List D->(D->Prop)->Prop
 | [.tup xs],P=>(DW xs).elim False fun ns=>0<ns.length/\∀ M:Int,M∈ns->(∀ a∈ns,le a M)->P (.int M)
 | _,_=>False
theorem HG {le:Int->Int->Prop}:DM W (fun xs H Q=>∃ (p:Addr) (ns:List Int),xs=[.ref p]/\SqT W.K H p (ns.map V.int)/\0<ns.length/\∀ M:Int,M∈ns->(∀ a∈ns,le a M)->Q (.int M) H) (J5u le):=by
 intro M b H xs vs P Q hs rx ho k
 match xs,ho with
 | [.tup ys],ho =>
   obtain ⟨v,rfl,r⟩:=rx1 rx
   simp only [J5u] at ho
   cases en:DW ys with
   | none=>rw [en] at ho;exact ho.elim
   | some ns =>
     rw [en] at ho
     cases DW.eq en
     obtain ⟨a,us,rfl,hh,r'⟩:=(show ∃ a vs,v=.ref a/\TpA W.K M H a vs/\Reps W.K M H _ vs from r)
     cases r'.ints
     exact ⟨a,ns,rfl,hh.sq,ho.1,fun m h1 h2=>k _ _ H (ho.2 m h1 h2) (show _=_ from rfl) (Kp.refl _ _) hs.ok⟩
theorem RX {xs:List D}{neg:Bool}{P:D->Prop}(n:Nat)(h:AM n xs=true)(hp:P (.bl (xs.isEmpty != neg))):EqG neg (.lst xs) (.lst []) P:=by
 obtain ⟨a,b,e1,e2,r,r2⟩:=VQ n h hp
 exact ⟨a,b,by unfold Y9 at e1 ⊢;exact e1,e2,r,r2⟩
end
section
variable {X:Cx}{W:Wd}{pos:Pos}{dA:DA}
def J9p (i:Nat)(dA:DA):DS:=fun F ρ=>match ρ[i]? with
 | some (some (.own ys))=>dA ρ fun xs=>(match xs with | [.lst zs]=>ys.length+zs.length<=1000/\F.nx (ρ.set i (some (.own (ys++zs))))|_=>False)
 | _=>False
theorem J7c {i:Nat}:∀ E σ H,sn W (J9p i dA) E σ H->QV (tBM W.K "list" OO (FI i) (dnA W dA)) E σ H:=fun E σ H hh=>hh.elim fun pn M b ρ F s l h=>by
 unfold J9p at h
 split at h
 case h_2=>exact h.elim
 case h_1 ys e =>
  obtain ⟨a,vs,ea,nb,hh,r⟩:=BA s.toSta e
  refine ⟨.ref a,ea,.inl ⟨rfl,vs,SqL.of hh⟩,pn,M,b,ρ,_,s.toSta,h,fun xs us H' hx rx k o=>?_⟩
  match xs,hx with
  | [.lst zs],hx =>
    obtain ⟨u,rfl,ru⟩:=rx1 rx
    obtain ⟨a2,ws,rfl,⟨n2,h2⟩,r2⟩:=(show ∃ a vs,u=.ref a/\(¬ M a/\H' a=some (.lst vs))/\Reps W.K M H' zs vs from ru)
    have s':=s.step k o
    obtain ⟨a',vs',ea',nb',hh',r'⟩:=BA s'.toSta e
    rw [ea] at ea';cases ea'
    exact ⟨a,a2,vs',ws,rfl,rfl,hh',h2,by rw [r'.length,r2.length];exact Nat.le_trans hx.1 BS,l.nx _ _ _ _ _ (s'.setOwn i e ea (Reps.append r' r2)) hx.2⟩
theorem HS {i:Nat}{x:Str}{e:Expr}{npos apos cpos:Pos}(hK:X.K=W.K)(ha:JA X W [e] dA)
 (h:PE X (.Call (.Attribute (.Name x npos) "extend" apos) [e] [] cpos) (tBM X.K "list" OO (FI i) (dnA W dA))) (hs:swapsWith (.Call (.Attribute (.Name x npos) "extend" apos) [e] [] cpos) none pos.line X.env=pure false:=by rfl) :
 JS X W (.Expr (.Call (.Attribute (.Name x npos) "extend" apos) [e] [] cpos) pos) (J9p i dA):=⟨(FP (by rw [hK] at h;exact h) hs).mono J7c⟩
end
section
variable {κ:Type} [DecidableEq κ]
def J2y (kvs:List (κ×V))(k:κ):Option V:=(kvs.find? fun kv=>decide (kv.1=k)).map (·.2)
def J3h (kvs:List (κ×V))(k:κ)(v:V):List (κ×V) :=
 if (kvs.any fun kv=>decide (kv.1=k))=true then kvs.map (fun kv=>if kv.1=k then (kv.1,v) else kv) else kvs++[(k,v)]
theorem KV.length {kvs:List (κ×V)}{vs:List (κ×Value)}(r:KV kvs vs):kvs.length=vs.length:=Paired.length r
end
def DGet (H:Hp)(a:Addr)(y:V)(r:Option V):Prop :=
 (∃ kvs k,Rd H a (.dK kvs)/\y=kV k/\r=J2y kvs k)\/∃ kvs k b,Rd H a (.dT kvs)/\y=.ref b/\H b=some (.tup (k.map kV))/\r=J2y kvs k
def DPut (H:Hp)(a:Addr)(y v:V)(H':Hp):Prop :=
 (∃ kvs k,H a=some (.dK kvs)/\y=kV k/\kvs.length<sizeLine/\H'=upd H a (.dK (J3h kvs k v))) \/
 ∃ kvs k b,H a=some (.dT kvs)/\y=.ref b/\H b=some (.tup (k.map kV))/\kvs.length<sizeLine/\H'=upd H a (.dT (J3h kvs k v))
theorem DGet.k {H:Hp}{a:Addr}{kvs:List (Key×V)}{k:Key}(e:H a=some (.dK kvs)):DGet H a (kV k) (J2y kvs k):=.inl ⟨kvs,k,.inl e,rfl,rfl⟩
theorem DGet.t {H:Hp}{a b:Addr}{kvs:List (List Key×V)}{k:List Key}(e:H a=some (.dT kvs))(eb:H b=some (.tup (k.map kV))):DGet H a (.ref b) (J2y kvs k):=.inr ⟨kvs,k,b,.inl e,rfl,eb,rfl⟩
theorem DPut.k {H:Hp}{a:Addr}{kvs:List (Key×V)}{k:Key}{v:V}(e:H a=some (.dK kvs))(hl:kvs.length<sizeLine):DPut H a (kV k) v (upd H a (.dK (J3h kvs k v))):=.inl ⟨kvs,k,e,rfl,hl,rfl⟩
theorem DPut.t {H:Hp}{a b:Addr}{kvs:List (List Key×V)}{k:List Key}{v:V}(e:H a=some (.dT kvs))(eb:H b=some (.tup (k.map kV)))(hl:kvs.length<sizeLine) :
 DPut H a (.ref b) v (upd H a (.dT (J3h kvs k v))):=.inr ⟨kvs,k,b,e,rfl,eb,hl,rfl⟩
structure M2 (X:Cx)(o:Expr)(m:Str)(apos:Pos)(e f:Expr)(cpos:Pos):Prop where
 base:attributeBase o m X.env (eval o X.env)=eval o X.env
 few:((backTo cpos (starEach [e,f] X.env)).all (fun x=>!x.1)&&(backToKw cpos (keywordEach [] X.env)).all (fun x=>x.1.isSome)
  && decide (([e,f]:List Expr).length+([]:List Keyword).length+(if ([]:List Keyword).isEmpty then 0 else 1)<30))=true
 line:(apos.endLine==cpos.line)=true
 trees:backTo cpos (starEach [e,f] X.env)=[(false,eval e X.env),(false,eval f X.env)]
abbrev Ens:=List (List Int×Addr×Value)
def J0p:List (List Int)->List D->List Int->Option D
 | k::ks,x::xs,n=>if k=n then some x else J0p ks xs n
 | _,_,_=>none
theorem Reps.erase {H:Hp}:∀ {ds:List D} {vs:List V} (j:Nat),Reps K M H ds vs->Reps K M H (ds.eraseIdx j) (vs.eraseIdx j)
 | [],_,_,h=>by cases (show _=_ from h);exact rfl
 | d::ds,_,0,h=>by
   obtain ⟨v,r,rfl,h1,h2⟩:=h
   exact h2
 | d::ds,_,j+1,h=>by
   obtain ⟨v,r,rfl,h1,h2⟩:=h
   exact ⟨v,_,rfl,h1,Reps.erase j h2⟩
theorem SG (elt:Expr)(g1:Comprehension)(target iter:Expr)(ifs:List Expr)(scope:Scope)(pos:Pos)(it acc:Value)(env:Env) :
 compTurn (.ListComp elt [g1,⟨target,iter,ifs,0⟩] scope pos) 1 it acc env=(do
  standAt iter.pos
  match <- pyNext it with
  | none=>pure (.done .next)
  | some v =>
    letOwnedTupleGo target it v
    assign target env v
    let mut ok:=true
    for c in ifs do
     if ok then ok <- isTrue c env (eval c env)
    if ok then
     (do let _ <- call (.builtin "list.append") [acc,<- eval elt env])
    again (.compLoop (.ListComp elt [g1,⟨target,iter,ifs,0⟩] scope pos) 1 it acc env)):=by rfl
theorem PZ (elt target iter target' iter':Expr)(ifs:List Expr)(scope:Scope)(pos:Pos)(it acc:Value)(env:Env) :
 compTurn (.ListComp elt [⟨target,iter,[],0⟩,⟨target',iter',ifs,0⟩] scope pos) 0 it acc env=(do
  standAt iter.pos
  match <- pyNext it with
  | none=>pure (.done .next)
  | some v =>
    letOwnedTupleGo target it v
    assign target env v
    let mut ok:=true
    for c in ([]:List Expr) do
     if ok then ok <- isTrue c env (eval c env)
    if ok then
     let x <- eval iter' env
     standAt iter'.pos
     let x <- foldedSetIterable iter' env x
     let _ <- runOwn (.compStart (.ListComp elt [⟨target,iter,[],0⟩,⟨target',iter',ifs,0⟩] scope pos) 1 (<- holding [x] (pyIter x)) acc env) env
    again (.compLoop (.ListComp elt [⟨target,iter,[],0⟩,⟨target',iter',ifs,0⟩] scope pos) 0 it acc env)):=by rfl
theorem SH {prog:Program}{w:World}{A:Around}{R:Result->Shared->Prop}{s:Shared}{elt target iter:Expr}{g1:Comprehension}{ifs:List Expr}{scope:Scope}{pos:Pos}{it acc:Value}{env:Env}(J:Nat->Shared->Prop)
 (turn:∀ n s,J n s->wpAny (model prog w) A (pyNext it) (fun r s₁=>match r with
  | none=>R (.ok .next) s₁
  | some v=>wpAny (model prog w) A (letOwnedTupleGo target it v) (fun _ s₁'=>wpAny (model prog w) A (assign target env v) (fun _ s₂=>wpAny (model prog w) A (UT ifs env) (fun ok s₃ =>
   if ok=true then wpAny (model prog w) A (eval elt env) (fun x s₄=>wpAny (model prog w) A (call (.builtin "list.append") [acc,x]) (fun _ s₅=>∃ m,m<n/\J m s₅) (notedBy (model prog w) A env fun e s'=>R (.error e) s') s₄)
    (notedBy (model prog w) A env fun e s'=>R (.error e) s') s₃
   else ∃ m,m<n/\J m s₃) (notedBy (model prog w) A env fun e s'=>R (.error e) s') s₂) (notedBy (model prog w) A env fun e s'=>R (.error e) s') s₁') (notedBy (model prog w) A env fun e s'=>R (.error e) s') s₁)
   (notedBy (model prog w) A env fun e s'=>R (.error e) s') s) (n:Nat) (h:J n s) :
 codeAny (model prog w) A (.compLoop (.ListComp elt [g1,⟨target,iter,ifs,0⟩] scope pos) 1 it acc env) R s:=by
 refine codeAny_loop rfl J (fun n s hJ=>?_) n h
 show wpAny _ _ (Sem.onRaise (compTurn (.ListComp elt [g1,⟨target,iter,ifs,0⟩] scope pos) 1 it acc env) fun x=>do noteFrame x env;theTreesLotGoes x) _ _ _
 refine wpAny_noted ?_
 rw [SG]
 refine wpAny_bind (wpAny_standAt (wpAny_bind (thn (turn n s hJ) fun r s₁ h₁=>?_)))
 cases r with
 | none=>exact wpAny_pure h₁
 | some v =>
   refine wpAny_bind (thn h₁ fun _ s₁' h₁'=>wpAny_bind (thn h₁' fun _ s₂ h₂=>wpAny_bind (thn h₂ fun ok s₃ h₃=>?_)))
   cases ok with
   | true=>exact wpAny_bind (wpAny_bind (thn h₃ fun x s₄ h₄=>wpAny_bind (thn h₄ fun _ s₅ h₅=>wpAny_pure (wpAny_pure ⟨rfl,h₅⟩))))
   | false=>exact wpAny_pure ⟨rfl,h₃⟩
theorem QA {prog:Program}{w:World}{A:Around}{R:Result->Shared->Prop}{s:Shared}{elt target iter:Expr}{g1:Comprehension}{ifs:List Expr}{scope:Scope}{pos:Pos}{it acc:Value}{env:Env}
 (h0:codeAny (model prog w) A (.compLoop (.ListComp elt [g1,⟨target,iter,ifs,0⟩] scope pos) 1 it acc env) R s)
 (h:wpAny (model prog w) A (pyIter it) (fun it' s'=>codeAny (model prog w) A (.compLoop (.ListComp elt [g1,⟨target,iter,ifs,0⟩] scope pos) 1 it' acc env) R s')
  (notedBy (model prog w) A env fun x s'=>R (.error x) s') s) :
 codeAny (model prog w) A (.compStart (.ListComp elt [g1,⟨target,iter,ifs,0⟩] scope pos) 1 it acc env) R s:=by
 refine codeAny_of_tree ?_
 show wpAny _ _ ((compStart (.ListComp elt [g1,⟨target,iter,ifs,0⟩] scope pos) 1 it acc env).onRaise (fun x=>do noteFrame x env;standAt theWindowsPlace)) _ _ s
 refine wpAny_notedAt ?_
 unfold compStart
 show wpAny _ _ (ask >>= _) _ _ s
 refine wpAny_bind (wpAny_askSetting (wpAny_ite ?_))
 split
 · first
    | exact wpAny_bind (wpAny_pure (wpAny_pure (And.intro rfl h0)))
    | exact wpAny_pure (And.intro rfl h0)
 · first
    | exact wpAny_bind (wpAny_rule (wpAny_bind (wpAny_standAt (wpAny_bind (wpAny_mono h (fun it' s' h'=>wpAny_pure (And.intro rfl h')) fun _ _ x=>x)))))
    | (refine wpAny_bind (wpAny_rule ?_);show wpAny _ _ (standAt iter.pos >>= _) _ _ s;exact wpAny_bind (wpAny_standAt (wpAny_bind (wpAny_mono h (fun it' s' h'=>wpAny_pure (And.intro rfl h')) fun _ _ x=>x))))
theorem QB {prog:Program}{w:World}{A:Around}{R:Result->Shared->Prop}{s:Shared}{elt target iter target' iter':Expr}{ifs:List Expr}{scope:Scope}{pos:Pos}{it acc:Value}{env:Env}(J:Nat->Shared->Prop)
 (hs:∀ x,foldedSetIterable iter' env x=pure x)
 (turn:∀ n s,J n s->wpAny (model prog w) A (pyNext it) (fun r s₁=>match r with
  | none=>R (.ok .next) s₁
  | some v=>wpAny (model prog w) A (letOwnedTupleGo target it v) (fun _ s₁'=>wpAny (model prog w) A (assign target env v) (fun _ s₂=>wpAny (model prog w) A (eval iter' env) (fun x s₃=>wpAny (model prog w) A (pyIter x) (fun it' s₄ =>
   codeAny (model prog w) A (.compStart (.ListComp elt [⟨target,iter,[],0⟩,⟨target',iter',ifs,0⟩] scope pos) 1 it' acc env) (fun r s'=>r=.ok .next/\∃ m,m<n/\J m s') s₄)
    (fun _ _=>False) s₃) (fun _ _=>False) s₂) (fun _ _=>False) s₁') (fun _ _=>False) s₁)
   (fun _ _=>False) s) (n:Nat) (h:J n s) :
 codeAny (model prog w) A (.compLoop (.ListComp elt [⟨target,iter,[],0⟩,⟨target',iter',ifs,0⟩] scope pos) 0 it acc env) R s:=by
 refine codeAny_loop rfl J (fun n s hJ=>?_) n h
 show wpAny _ _ (Sem.onRaise (compTurn (.ListComp elt [⟨target,iter,[],0⟩,⟨target',iter',ifs,0⟩] scope pos) 0 it acc env) fun x=>do noteFrame x env;theTreesLotGoes x) _ _ _
 refine wpAny_noted ?_
 rw [PZ]
 refine wpAny_bind (wpAny_standAt (wpAny_bind (wpAny_mono (turn n s hJ) (fun r s₁ h₁=>?_) fun _ _ z=>False.elim z)))
 cases r with
 | none=>exact wpAny_pure h₁
 | some v =>
   refine wpAny_bind (wpAny_mono h₁ (fun _ s₁' h₁'=>wpAny_bind (wpAny_mono h₁' (fun _ s₂ h₂=>wpAny_bind (wpAny_tests_nil ?_)) fun _ _ z=>False.elim z)) fun _ _ z=>False.elim z)
   refine wpAny_bind (wpAny_mono h₂ (fun x s₃ h₃=>?_) fun _ _ z=>False.elim z)
   refine wpAny_bind (wpAny_standAt (wpAny_bind (wpAny_of_eq (hs x) (wpAny_bind (wpAny_holding (wpAny_mono h₃ (fun it' s₄ h₄=>?_) fun _ _ z=>False.elim z))))))
   refine wpAny_bind (wpAny_runOwn (codeAny_mono h₄ fun r s' q=>?_))
   obtain ⟨rfl,q⟩:=q
   exact wpAny_pure ⟨rfl,q⟩
def NW:Nat->List (Option Nat)->Bool
 | _,[]=>true
 | n,none::m=>NW (n+1) m
 | n,some i::m=>(i==n)&&NW (n+1) m
theorem HB:∀ {m:List (Option Nat)} {n:Nat},NW n m=true->∀ j i:Nat,m[j]?=some (some i)->i=n+j
 | [],_,_,j,i,e=>by simp at e
 | none::m,n,h,0,i,e=>by simp at e
 | none::m,n,h,j+1,i,e=>by
   have:=HB (n:=n+1) h j i (by simpa using e)
   omega
 | some a::m,n,h,j,i,e=>by
   unfold NW at h
   rw [Bool.and_eq_true,beq_iff_eq] at h
   cases j with
   | zero=>simp at e;omega
   | succ j =>
     have:=HB h.2 j i (by simpa using e)
     omega
def ER:List (Option Nat)->List (Option Nat)->Bool
 | [],[]=>true
 | none::m,_::n=>ER m n
 | some _::m,some _::n=>ER m n
 | _,_=>false
theorem HL:∀ {m n:List (Option Nat)},ER m n=true->m.length=n.length
 | [],[],_=>rfl
 | none::m,_::n,h=>congrArg Nat.succ (HL (m:=m) (n:=n) (by unfold ER at h;exact h))
 | some _::m,some _::n,h=>congrArg Nat.succ (HL (m:=m) (n:=n) (by unfold ER at h;exact h))
 | [],_::_,h=>by cases h
 | none::_,[],h=>by cases h
 | some _::_,[],h=>by cases h
 | some _::_,none::_,h=>by cases h
theorem HM:∀ {m n:List (Option Nat)},ER m n=true->∀ j i:Nat,m[j]?=some (some i)->∃ i',n[j]?=some (some i')
 | [],[],_,j,i,e=>by simp at e
 | none::m,_::n,h,0,i,e=>by simp at e
 | none::m,_::n,h,j+1,i,e=>by
   obtain ⟨i',q⟩:=HM (m:=m) (n:=n) (by unfold ER at h;exact h) j i (by simpa using e)
   exact ⟨i',by simpa using q⟩
 | some _::m,some b::n,h,0,i,e=>⟨b,rfl⟩
 | some _::m,some _::n,h,j+1,i,e=>by
   obtain ⟨i',q⟩:=HM (m:=m) (n:=n) (by unfold ER at h;exact h) j i (by simpa using e)
   exact ⟨i',by simpa using q⟩
 | [],_::_,h,_,_,_=>by cases h
 | none::_,[],h,_,_,_=>by cases h
 | some _::_,[],h,_,_,_=>by cases h
 | some _::_,none::_,h,_,_,_=>by cases h
theorem MR {σ:St}{map:List (Option Nat)}{j:Nat}{v:V}(e:(capt σ map)[j]?=some (some v)):∃ i,map[j]?=some (some i)/\σ[i]?=some (some v):=by
 unfold capt at e
 rw [List.getElem?_map] at e
 cases hm:map[j]? with
 | none=>rw [hm] at e;cases e
 | some o =>
   rw [hm] at e
   cases o with
   | none=>simp at e
   | some i =>
     refine ⟨i,rfl,?_⟩
     have e':(σ[i]?).join=some v:=by simpa using e
     cases q:σ[i]? with
     | none=>rw [q] at e';cases e'
     | some o'=>rw [q] at e';exact congrArg some e'
theorem J5h {σ:St}{map:List (Option Nat)}{j i:Nat}{v:V}(hm:map[j]?=some (some i))(e:σ[i]?=some (some v)):(capt σ map)[j]?=some (some v):=by
 unfold capt
 rw [List.getElem?_map,hm]
 simp [e]
structure DOk (X:Cx)(P0:List (Addr×Obj))(D:Addr):Prop where
 loc:D≠X.env.locals
 fs:D∉X.fs
 cell:∀ x c,X.env.cells.lookup x=some c->c≠D
 sz:X.s₀.heap.objs.size<=D
 pn:∀ p∈X.pn++P0,p.1≠D
abbrev ND (its:List Value)(k:Nat):Obj:={ cls:=.type "list",data:=.seq (List.toArray its) k }
theorem XO {X:Cx}{P0:List (Addr×Obj)}{σ:St}{map:List (Option Nat)}{H1:Hp}{s:Shared}{D:Addr}{acc0:List V}{its0:List Value}{k0:Nat}{tg elt iter:Expr}{g1:Comprehension}{ifs:List Expr}{scope:Scope}{pos:Pos}{fp:List Addr}{it:Addr}{tn:Nat->Heap->Prop}{J:It}{g:TG}{tt:TT}{te:TE}{W:Nat->Nat->List V->Hp->Prop}{m0:Nat}{Fin:List V->Hp->Prop}
 (calm:X.calm=true) (d:DOk X P0 D) (I:Inv X P0 (capt σ map) H1 s) (hD:H1 D=none) (oD:s.heap.get? D=some (ND its0 k0)) (rv:Vals acc0 its0)
 (T:Turn X.prog X.w X.K tg J fp it tn) (st:tn 0 s.heap) (hf:∀ b∈fp,HJ X P0 H1 b) (nD:∀ b∈fp,b≠D)
 (pg:PG X tg g) (pif:PIf X ifs tt) (pel:PE X elt te) (nx:X.xe=fun _ _=>False) (keep:GU g map) (w0:W 0 m0 acc0 H1) (ht:KI J g tt te (capt σ map) Fin W) :
 codeAny (model X.prog X.w) X.A (.compLoop (.ListComp elt [g1,⟨tg,iter,ifs,0⟩] scope pos) 1 (.ref it) (.ref D) X.env) (fun r s'=>r=.ok .next/\∃ acc its k H',Inv X P0 (capt σ map) H' s'/\H' D=none/\s'.heap.get? D=some (ND its k)/\Vals acc its/\Fin acc H') s:=by
 refine SH (fun n s'=>∃ i acc H' its k,Inv X P0 (capt σ map) H' s'/\tn i s'.heap/\(∀ b∈fp,H' b=none)/\H' D=none/\s'.heap.get? D=some (ND its k)/\Vals acc its/\W i n acc H') ?_ m0 ⟨0,acc0,H1,its0,k0,I,st,fun b hb=>(hf b hb).1,hD,oD,rv,w0⟩
 rintro n s5 ⟨i,acc,H5,its,k,I5,st5,fr5,hD5,oD5,rv5,w5⟩
 have pinD:Inv X ((D,ND its k)::P0) (capt σ map) H5 s5:=I5.pins_of fun p hp=>by
  rcases List.mem_cons.mp hp with e|e
  · subst e;exact ⟨oD5,hD5,d.loc,d.fs,fun v z=>by cases z⟩
  · exact I5.pin p (List.mem_append_right _ e)
 have f4:∀ {H':Hp},(∀ b∈fp,H' b=none)->∀ b∈fp,HJ X ((D,ND its k)::P0) H' b:=fun {H'} hn b hb=>by
  obtain ⟨_,f1,f2,f3,f4,f5⟩:=hf b hb
  refine ⟨hn b hb,f1,f2,f3,f4,fun p hp=>?_⟩
  rcases List.mem_append.mp hp with z|z
  · exact f5 p (List.mem_append_left _ z)
  · rcases List.mem_cons.mp z with e|e
    · rw [e];exact (nD b hb).symm
    · exact f5 p (List.mem_append_right _ e)
 have err:∀ {Z:Prop} e s',X.xe e s'->Z:=fun {Z} e s' z=>by rw [nx] at z;exact z.elim
 rcases ht i n acc H5 w5 with ⟨stop,hsz,fin⟩|⟨go,hsz,NN,hNN,step⟩
 · refine thn (T.done X rfl rfl rfl calm i _ s5 (capt σ map) H5 _ pinD (f4 fr5) st5 stop) fun r s6 ⟨hr,I6⟩=>?_
   subst hr
   have pD:=I6.pin (D,ND its k) (List.mem_append_right _ List.mem_cons_self)
   exact ⟨rfl,acc,its,k,H5,I6.pins_of (fun p hp=>I6.pin p (List.mem_append_right _ (List.mem_cons_of_mem _ hp))),pD.2.1,pD.1,rv5,fin⟩
 · refine thn (T.item X rfl rfl rfl calm i _ s5 (capt σ map) H5 _ pinD (f4 fr5) st5 go) fun r s6 ⟨u,hr,h6⟩=>?_
   subst hr
   refine thn h6 fun _ s7 ⟨x,H7,I7,r7,y7,st7,fr7⟩=>?_
   have I7':=I7.pinned (f4 fr7) (T.obj _ _ st7)
   have stp:=keep _ _ _ _ (step x H7 y7)
   refine wpAny_mono (pg _ s7 (capt σ map) H7 x u _ I7' r7 stp) (fun _ s8 ⟨σ8,H8,I8,⟨kl,k8⟩,q8⟩=>?_) fun e s' z=>err e s' z
   refine wpAny_mono (pif _ s8 σ8 H8 _ I8 q8) (fun b s9 ⟨H9,I9,q9⟩=>?_) fun e s' z=>err e s' z
   have wk:∀ {σa:St} {Ha:Hp} {sa:Shared},σa=σ8->Inv X (((D,ND its k)::P0)++FQ fp s7.heap) σa Ha sa ->
    Inv X P0 (capt σ map) Ha sa/\tn (i+1) sa.heap/\(∀ b∈fp,Ha b=none)/\Ha D=none/\sa.heap.get? D=some (ND its k):=fun {σa Ha sa} ea Ia=>by
    subst ea
    refine ⟨(Ia.pins_of (pins':=P0) fun p hp=>Ia.pin p (List.mem_append_right _ (List.mem_append_left _ (List.mem_cons_of_mem _ hp)))).weak kl.symm fun j v e=>?_,T.keep _ _ _ st7 fun b hb o e=>(Ia.pin (b,o) (List.mem_append_right _ (List.mem_append_right _ (BK hb e)))).1,fun b hb=>?_,?_,?_⟩
    · obtain ⟨i',hm,_⟩:=MR e
      rw [k8 j i' hm];exact e
    · obtain ⟨o,e,d⟩:=T.obj _ _ st7 b hb
      exact (Ia.pin (b,o) (List.mem_append_right _ (List.mem_append_right _ (BK hb e)))).2.1
    · exact (Ia.pin (D,ND its k) (List.mem_append_right _ (List.mem_append_left _ List.mem_cons_self))).2.1
    · exact (Ia.pin (D,ND its k) (List.mem_append_right _ (List.mem_append_left _ List.mem_cons_self))).1
   cases b with
   | false =>
     rw [if_neg Bool.false_ne_true] at q9 ⊢
     obtain ⟨m',hm',w9⟩:=hNN _ _ q9
     obtain ⟨a1,a2,a3,a4,a5⟩:=wk rfl I9
     exact ⟨m',hm',i+1,acc,H9,its,k,a1,a2,a3,a4,a5,rv5,w9⟩
   | true =>
     rw [if_pos rfl] at q9 ⊢
     refine wpAny_mono (pel _ s9 σ8 H9 _ I9 q9) (fun v s10 ⟨y,H10,I10,r10,q10⟩=>?_) fun e s' z=>err e s' z
     obtain ⟨m',hm',w10⟩:=hNN _ _ q10
     obtain ⟨a1,a2,a3,a4,a5⟩:=wk rfl I10
     have hl:=rv5.length
     refine wpAny_list_append_plain (items:=List.toArray its) ⟨k,a5⟩ (fun h11 pl11 sb11=>?_) (by simp only [List.size_toArray];omega)
     obtain ⟨k',e11⟩:=pl11
     refine ⟨m',hm',i+1,acc++[y],H10,its++[v],k',a1.turned (t':=s10.toks) (it:=D) (fun b o hb e=>(sb11.2 b hb).trans e) a4 d.loc (.inr d.sz) d.cell d.pn,T.keep _ _ _ a2 fun b hb o e=>(sb11.2 b (nD b hb)).trans e,a3,a4,?_,rv5.append (.cons r10 .nil),w10⟩
     rw [e11,List.push_toArray]
structure Blk2 (X:Cx)(N':List Str)(scope:Scope)(map mp2:List (Option Nat))(tg tg2 iter2 elt:Expr)(ifs:List Expr)(g:TG)(wi2:TI)(g2:TG)(tt:TT)(te:TE):Prop where
 calm:X.calm=true
 kind:scope.kind=.function
 loc:∀ x∈scope.names,x.2=.local->scope.names.lookup x.1=some .local
 free:(scope.names.all fun p=>!(p.2==NameKind.free)||(X.env.kindOf p.1==some .cell||X.env.kindOf p.1==some .free))=true
 cap:CapOk X scope map N'
 keep:GU g map
 keep2:GU g2 mp2
 ids:NW 0 mp2=true
 sub:ER map mp2=true
 fold:∀ env x,foldedSetIterable iter2 env x=pure x
 run:∀ cells C fp s H,PG (Q0 X N' scope cells C fp s H).nox tg g/\PI (Q0 X N' scope cells C fp s H).nox tg2 iter2 wi2/\PG (Q0 X N' scope cells C fp s H).nox tg2 g2/\PIf (Q0 X N' scope cells C fp s H).nox ifs tt/\PE (Q0 X N' scope cells C fp s H).nox elt te
def UM (J:It)(g:TG)(mp2:List (Option Nat))(wi2:TI)(g2:TG)(tt:TT)(te:TE)(σc:St)(Fin:List V->Hp->Prop)(W:Nat->Nat->List V->Hp->Prop):Prop :=
 ∀ i m acc H2,W i m acc H2->(J.stop i H2/\acc.length<=sizeLine/\Fin acc H2) \/
  (J.go i H2/\∃ N:List V->Hp->Prop,(∀ acc' H',N acc' H'->∃ m',m'<m/\W (i+1) m' acc' H')/\∀ x H3,J.yld i H2 x H3->g x σc H3 fun σ4 H4=>wi2 σ4 H4 fun J2 H5=>∃ W2:Nat->Nat->List V->Hp->Prop,(∃ m,W2 0 m acc H5)/\KI J2 g2 tt te (capt σ4 mp2) N W2)
section
variable {X:Cx}{elt iter tg tg2 iter2:Expr}{ifs:List Expr}{scope:Scope}{pos:Pos}{N':List Str}{map mp2:List (Option Nat)}{wi wi2:TI}{g g2:TG}{tt:TT}{te:TE}
theorem Blk2.one (B:Blk2 X N' scope map mp2 tg tg2 iter2 elt ifs g wi2 g2 tt te):Blk X N' scope map tg elt ifs (fun _ _ _ _=>False) (fun _ _ _=>False) (fun _ _ _=>False) :=
 ⟨B.calm,B.kind,B.loc,B.free,B.cap,fun _ _ _ _ z=>z.elim,fun _ _ _ _ _ _=>⟨fun _ _ _ _ _ _ _ _ _ z=>z.elim,fun _ _ _ _ _ _ z=>z.elim,fun _ _ _ _ _ _ z=>z.elim⟩⟩
theorem J2d {pins:List (Addr×Obj)}{σ:St}{H1:Hp}{s2:Shared}{cl:List (Str×Addr)}{fp:List Addr}{it:Addr}{tn:Nat->Heap->Prop}{J:It}{E:Value->Shared->Prop}(I:Inv X pins σ H1 s2)(B:Blk2 X N' scope map mp2 tg tg2 iter2 elt ifs g wi2 g2 tt te)
 (hsub:∀ x c,cl.lookup x=some c->X.env.cells.lookup x=some c) (hhas:∀ x,(x,NameKind.free)∈scope.names->(cl.lookup x).isSome=true)
 (T:Turn X.prog X.w X.K tg J fp it tn) (st:tn 0 s2.heap) (hf:∀ b∈fp,HJ X pins H1 b) {Fin:List V->Hp->Prop} {W:Nat->Nat->List V->Hp->Prop} {m0:Nat} (w0:W 0 m0 [] H1) (ht:UM J g mp2 wi2 g2 tt te (capt σ map) Fin W)
 {RR:Value->Addr->Result->Shared->Prop}
 (hOk:∀ D C acc H' s' m,Inv X pins σ (upd H' D (.lst acc)) s'->H' D=none->s'.heap.Ns C m->upd H' D (.lst acc) C=none->C≠X.env.locals->X.s₀.heap.objs.size<=C->(∀ x c,X.env.cells.lookup x=some c->c≠C)->(∀ p∈X.pn++pins,p.1≠C)->Fin acc H'->RR (.ref D) C (.ok .next) s') :
 wpAny (model X.prog X.w) X.A (newList []) (fun acc s3=>wpAny (model X.prog X.w) X.A (newFunctionEnv scope X.env.globals cl [] X.env.qual none .none (some X.env)) (fun cenv s4 =>
  codeAny (model X.prog X.w) X.A (.compStart (.ListComp elt [⟨tg,iter,[],0⟩,⟨tg2,iter2,ifs,0⟩] scope pos) 0 (.ref it) acc { cenv with scope:=relabel scope X.env }) (RR acc cenv.locals) s4) E s3) E s2:=by
 have fo:∀ b∈fp,∃ o,s2.heap.get? b=some o:=fun b hb=>by obtain ⟨o,e,_⟩:=T.obj 0 _ st b hb;exact ⟨o,e⟩
 refine wpAny_newObj_type ?_
 generalize hH2:s2.heap.push { cls:=.type "list",dict:=none,data:=.seq ([]:List Value).toArray }=H2
 have szD:H2.objs.size=s2.heap.objs.size+1:=by rw [<- hH2,Heap.size_push]
 have kD:∀ b o,s2.heap.get? b=some o->H2.get? b=some o:=fun b o e=>hH2▸Heap.get?_push_of_some _ e
 simp only [newFunctionEnv,Option.isSome_some,if_true]
 refine wpAny_bind (wpAny_alloc ?_)
 refine wpAny_bind (wpAny_layCells _ (fun name kind cells=>by cases hkc:kind==NameKind.cell<;>simp [hkc]) _ _ _ _ ?_)
 dsimp only
 generalize hH3:H2.push { cls:=.type "dict",dict:=none,data:=.dict #[] }=h3
 have sz3:h3.objs.size=H2.objs.size+1:=by rw [<- hH3,Heap.size_push]
 have kC:∀ b o,H2.get? b=some o->h3.get? b=some o:=fun b o e=>hH3▸Heap.get?_push_of_some _ e
 have nsC:h3.Ns H2.objs.size fun _=>none:=hH3▸Heap.Ns.new H2 (.type "dict")
 refine wpAny_bind (wpAny_pure (wpAny_pure ?_))
 show codeAny _ _ (.compStart (.ListComp elt [⟨tg,iter,[],0⟩,⟨tg2,iter2,ifs,0⟩] scope pos) 0 (.ref it) (.ref s2.heap.objs.size) (compEnvC scope (cellsFrom h3.objs.size scope.names cl) H2.objs.size X.env)) _ _
 generalize hX':(Q0 X N' scope (cellsFrom h3.objs.size scope.names cl) H2.objs.size fp s2 H1).nox=X'
 have I4:Inv X' [] (capt σ map) H1 { s2 with heap:=pushCells h3 scope.names }:=hX'▸(WG I B.one.m hsub hhas hf fo H2.objs.size h3 (by rw [szD];exact Nat.le_succ _) (fun b o e=>kC b o (kD b o e)) (by rw [sz3];exact Nat.lt_succ_self _) nsC s2.toks).wish _
 obtain ⟨pg,pi2,pg2,pif,pel⟩:=B.run (cellsFrom h3.objs.size scope.names cl) H2.objs.size fp s2 H1
 rw [hX'] at pg pi2 pg2 pif pel
 have eprog:X'.prog=X.prog:=by rw [<- hX'];rfl
 have ew:X'.w=X.w:=by rw [<- hX'];rfl
 have eK:X'.K=X.K:=by rw [<- hX'];rfl
 have eA:X'.A=X.A:=by rw [<- hX'];rfl
 have ecalm:X'.calm=true:=by rw [<- hX'];exact B.calm
 have eenv:X'.env=compEnvC scope (cellsFrom h3.objs.size scope.names cl) H2.objs.size X.env:=by rw [<- hX'];rfl
 have exe:X'.xe=fun _ _=>False:=by rw [<- hX']
 have es0:X'.s₀=s2:=by rw [<- hX'];rfl
 have eH0:X'.H₀=H1:=by rw [<- hX'];rfl
 have eex:X'.ex=fp:=by rw [<- hX'];rfl
 have efs:X'.fs=frs X.stack:=by rw [<- hX'];rfl
 have epn:X'.pn=[]:=by rw [<- hX'];rfl
 have eL:X'.env.locals=H2.objs.size:=by rw [eenv];rfl
 generalize hDd:s2.heap.objs.size=D at *
 have fD:∀ b∈fp,b≠D:=fun b hb=>by obtain ⟨o,e⟩:=fo b hb;exact Nat.ne_of_lt (hDd▸Heap.lt_size e)
 have nfsD:D∉X'.fs:=fun hb=>by
  rw [efs] at hb
  have h1:=I.stkSub D hb
  rcases List.mem_cons.mp h1 with z|z
  · have:=I.lt;rw [hDd,<- z] at this;exact Nat.lt_irrefl _ this
  · exact I.nofs (by rw [hDd];exact Nat.le_refl _) z
 have ncD:∀ x c,X'.env.cells.lookup x=some c->c≠D:=fun x c e z=>by
  rw [eenv] at e
  rcases SL _ _ _ x c e with q|q
  · obtain ⟨v,o,ho,_⟩:=I.cell x c (hsub x c q)
    have:=Heap.lt_size ho
    rw [hDd,z] at this
    exact Nat.lt_irrefl _ this
  · rw [z,sz3,szD] at q
    exact absurd (Nat.lt_of_lt_of_le (Nat.lt_succ_of_lt (Nat.lt_succ_self D)) q) (Nat.lt_irrefl _)
 have f4:∀ {H':Hp} {pl:List (Addr×Obj)},(∀ b∈fp,H' b=none)->(∀ p∈pl,p.1=D)->∀ b∈fp,HJ X' pl H' b:=fun {H' pl} hn hpl b hb=>by
  have q:=hf b hb
  refine ⟨hn b hb,?_,?_,.inl (by rw [eex];exact hb),fun x c e=>?_,fun p hp=>?_⟩
  · rw [eL]
    obtain ⟨o,e⟩:=fo b hb
    have:=Heap.lt_size e
    rw [hDd] at this
    intro z
    rw [z,szD] at this
    exact absurd (Nat.lt_of_succ_lt this) (Nat.lt_irrefl _)
  · have:=I4.ok.exfs b (by rw [eex];exact hb)
    exact this
  · exact (I4.ok.exf b (by rw [eex];exact hb)).2 x c e
  · rw [epn] at hp
    have hp:p∈pl:=by simpa using hp
    rw [hpl p hp]
    exact (fD b hb).symm
 have noCell:∀ {its:Array Value} {n:Nat} (v:Option Value),({ cls:=.type "list",data:=.seq its n }:Obj).data≠.cell v:=fun v z=>by cases z
 have hD4:(pushCells h3 scope.names).get? D=some { cls:=.type "list",data:=.seq ([]:List Value).toArray 0 }:=pushCells_keeps _ _ _ _ (kC _ _ (by rw [<- hH2,<- hDd];exact Heap.get?_push_size _ rfl))
 have loop:codeAny (model X.prog X.w) X.A (.compLoop (.ListComp elt [⟨tg,iter,[],0⟩,⟨tg2,iter2,ifs,0⟩] scope pos) 0 (.ref it) (.ref D) (compEnvC scope (cellsFrom h3.objs.size scope.names cl) H2.objs.size X.env)) (RR (.ref D) H2.objs.size) { s2 with heap:=pushCells h3 scope.names }:=by
  refine QB (fun n s'=>∃ i acc H' its k,Inv X' [] (capt σ map) H' s'/\tn i s'.heap/\(∀ b∈fp,H' b=none)/\H' D=none/\s'.heap.get? D=some { cls:=.type "list",data:=.seq (List.toArray its) k }/\Vals acc its/\W i n acc H') (B.fold _) ?_ m0
   ⟨0,[],H1,[],0,I4,T.keep _ _ _ st fun b hb o e=>pushCells_keeps _ _ _ _ (kC _ _ (kD _ _ e)),fun b hb=>(hf b hb).1,I.hok.fresh (by rw [hDd];exact Nat.le_refl _),hD4,.nil,w0⟩
  rintro n s5 ⟨i,acc,H5,its,k,I5,st5,fr5,hD5,oD5,rv5,w5⟩
  have pinD:Inv X' [(D,{ cls:=.type "list",data:=.seq (List.toArray its) k })] (capt σ map) H5 s5:=I5.pins_of fun p hp=>by
   have e:p=(D,{ cls:=.type "list",data:=.seq (List.toArray its) k }):=by simpa using hp
   subst e
   refine ⟨oD5,hD5,?_,nfsD,fun v=>noCell v⟩
   rw [eL,szD]
   exact Nat.ne_of_lt (Nat.lt_succ_self _)
  have plD:∀ p∈[(D,({ cls:=.type "list",data:=.seq (List.toArray its) k }:Obj))],p.1=D:=fun p hp=>by
   have e:p=(D,{ cls:=.type "list",data:=.seq (List.toArray its) k }):=by simpa using hp
   rw [e]
  have err:∀ {Z:Prop} e s',X'.xe e s'->Z:=fun {Z} e s' z=>by rw [exe] at z;exact z.elim
  rcases ht i n acc H5 w5 with ⟨stop,hsz,fin⟩|⟨go,NN,hNN,step⟩
  · have dn:=T.done X' eprog ew eK ecalm i _ s5 (capt σ map) H5 (fun _ _=>False) pinD (f4 fr5 plD) st5 stop
    rw [eA] at dn
    refine thn dn fun r s6 ⟨hr,I6⟩=>?_
    subst hr
    obtain ⟨oD6,hD6,_⟩:=I6.pin (D,_) (by rw [epn];exact List.mem_cons_self)
    obtain ⟨m,nsm,_⟩:=I6.loc
    rw [eL] at nsm
    have un:=I6.base
    rw [efs,eex,eH0,es0] at un
    have hok:=I6.hok
    rw [eprog,ew] at hok
    have os6:=I6.os
    rw [es0] at os6
    have fC:H5 H2.objs.size=none:=by rw [<- eL];exact I6.free
    have nDC:H2.objs.size≠D:=by rw [szD];exact Nat.ne_of_gt (Nat.lt_succ_self _)
    refine hOk D H2.objs.size acc H5 s6 m (I.call' (ch:=fp) os6 ?_ ?_ I6.bare fun b hb=>?_) hD5 nsm (by rw [V1 nDC];exact fC) ?_ ?_ ?_ ?_ fin
    · refine ⟨un.keep,un.slot,fun b o e n hx=>?_,un.there,fun b xs e=>?_,fun b o u e=>?_,fun b ps e=>?_⟩
      · rw [V1 (Nat.ne_of_lt (hDd▸Heap.lt_size e))]
        exact un.free b o e n hx
      · have:=un.tups b xs e
        rw [V1 (V3 this hD5)]
        exact this
      · have:=un.frzs b o u e
        rw [V1 (V3 this hD5)]
        exact this
      · obtain ⟨more,this⟩:=un.tbls b ps e
        exact ⟨more,by rw [V1 (V3 this hD5)];exact this⟩
    · intro b o e
      by_cases hb:b=D
      · subst hb
        rw [AA] at e
        cases e
        exact ⟨hsz,its,k,rv5,oD6⟩
      · rw [V1 hb] at e
        exact (hok b o e).stay (fun _ _ _ q=>q) (fun c q=>by rw [V1 (V3 q hD5)];exact q) fun c xs q=>by rw [V1 (V3 q hD5)];exact q
    · obtain ⟨f0,f1,f2,f3,f4',f5⟩:=hf b hb
      exact ⟨f3,f1,f4',f5⟩
    · have:=I.lt
      rw [hDd] at this
      intro z
      rw [<- z,szD] at this
      exact absurd (Nat.lt_of_succ_lt this) (Nat.lt_irrefl _)
    · have:=I.sz
      rw [hDd] at this
      omega
    · intro x c e z
      obtain ⟨v,o,ho,_⟩:=I.cell x c e
      have:=Heap.lt_size ho
      rw [hDd,z,szD] at this
      exact absurd (Nat.lt_of_succ_lt this) (Nat.lt_irrefl _)
    · intro p hp z
      have:=Heap.lt_size (I.pin p hp).1
      rw [hDd,z,szD] at this
      exact absurd (Nat.lt_of_succ_lt this) (Nat.lt_irrefl _)
  · have im:=T.item X' eprog ew eK ecalm i _ s5 (capt σ map) H5 (fun _ _=>False) pinD (f4 fr5 plD) st5 go
    rw [eA] at im
    refine thn im fun r s6 ⟨u,hr,h6⟩=>?_
    subst hr
    refine thn h6 fun _ s7 ⟨x,H7,I7,r7,y7,st7,fr7⟩=>?_
    have I7':=I7.pinned (f4 fr7 plD) (T.obj _ _ st7)
    have stp:=B.keep _ _ _ _ (step x H7 y7)
    have pgx:=pg _ s7 (capt σ map) H7 x u _ I7' r7 stp
    rw [eprog,ew,eA,eenv] at pgx
    refine wpAny_mono pgx (fun _ s8 ⟨σ8,H8,I8,⟨kl,k8⟩,q8⟩=>?_) fun e s' z=>err e s' z
    have pix:=pi2 _ s8 σ8 H8 _ I8 q8
    rw [eprog,ew,eA,eenv] at pix
    refine wpAny_mono pix (fun v s9 h9=>wpAny_mono h9 (fun itv s10 h10=>?_) fun e s' z=>err e s' z) fun e s' z=>err e s' z
    obtain ⟨it2,fp2,tn2,J2,H10,e,I10,T2,st10,f10,W2,⟨m2,w10⟩,tr2⟩:=h10
    subst e
    have pD10:=I10.pin (D,{ cls:=.type "list",data:=.seq (List.toArray its) k }) (List.mem_append_right _ (List.mem_append_left _ List.mem_cons_self))
    have dk:DOk X' (FQ fp s7.heap) D:=⟨by rw [eL,szD];exact Nat.ne_of_lt (Nat.lt_succ_self _),nfsD,ncD,by rw [es0,hDd];exact Nat.le_refl _,fun p hp=>by
     rw [epn] at hp
     exact fD p.1 (NS (by simpa using hp)).1⟩
    have len8:(capt σ8 mp2).length=σ8.length:=by
     have h1:=HL B.sub
     have h2:(capt σ map).length=map.length:=by unfold capt;rw [List.length_map]
     have h3:(capt σ8 mp2).length=mp2.length:=by unfold capt;rw [List.length_map]
     omega
    have I11:Inv X' (FQ fp s7.heap) (capt σ8 mp2) H10 s10:=(I10.pins_of (pins':=FQ fp s7.heap) fun p hp=>I10.pin p (List.mem_append_right _ (List.mem_append_right _ hp))).weak len8 fun j v e=>by
     obtain ⟨i',hm,e'⟩:=MR e
     have:i'=j:=by have:=HB B.ids j i' hm;omega
     rw [<- this];exact e'
    have run:=XO (g1:=⟨tg,iter,[],0⟩) (iter:=iter2) (scope:=scope) (pos:=pos) (X:=X') (σ:=σ8) (map:=mp2) (by rw [ecalm]) dk I11 pD10.2.1 pD10.1 rv5 T2 st10 (fun b hb=>by
     obtain ⟨z0,z1,z2,z3,z4,z5⟩:=f10 b hb
     exact ⟨z0,z1,z2,z3,z4,fun p hp=>(List.mem_append.mp hp).elim (fun q=>z5 p (List.mem_append_left _ q)) fun q=>z5 p (List.mem_append_right _ (List.mem_append_right _ q))⟩) (fun b hb=>by
     obtain ⟨z0,z1,z2,z3,z4,z5⟩:=f10 b hb
     exact (z5 (D,{ cls:=.type "list",data:=.seq (List.toArray its) k }) (List.mem_append_right _ (List.mem_append_left _ List.mem_cons_self))).symm) pg2 pif pel exe B.keep2 w10 tr2
    rw [eprog,ew,eA,eenv] at run
    have run':=codeAny_mono (R':=fun r s'=>r=.ok .next/\∃ m,m<n/\∃ i acc H' its k,Inv X' [] (capt σ map) H' s'/\tn i s'.heap/\(∀ b∈fp,H' b=none)/\H' D=none/\s'.heap.get? D=some { cls:=.type "list",data:=.seq (List.toArray its) k }/\Vals acc its/\W i m acc H') run fun r s' q=>by
     obtain ⟨rfl,acc',its',k',H',I',hD',oD',rv',nn⟩:=q
     obtain ⟨m',hm',w'⟩:=hNN _ _ nn
     refine ⟨rfl,m',hm',i+1,acc',H',its',k',(I'.pins_of (pins':=[]) fun p hp=>absurd hp (by simp)).weak (by rw [len8,kl]) fun j v e=>?_,T.keep _ _ _ st7 fun b hb o e=>(I'.pin (b,o) (List.mem_append_right _ (BK hb e))).1,fun b hb=>?_,hD',oD',rv',w'⟩
     · obtain ⟨i',hm,_⟩:=MR e
       obtain ⟨i2,hm2⟩:=HM B.sub j i' hm
       have:i2=j:=by have:=HB B.ids j i2 hm2;omega
       subst this
       exact J5h hm2 (by rw [k8 _ i' hm];exact e)
     · obtain ⟨o,e,d⟩:=T.obj _ _ st7 b hb
       exact (I'.pin (b,o) (List.mem_append_right _ (BK hb e))).2.1
    have sf:=fun Q E=>T2.self X'.A 0 s10 Q E st10
    rw [eprog,ew,eA] at sf
    exact QA run' (sf _ _ run')
 exact codeAny_compStart_list loop (T.self _ 0 _ _ _ (T.keep _ _ _ st fun b hb o e=>pushCells_keeps _ _ _ _ (kC _ _ (kD _ _ e))) loop)
theorem Blk2.clos {pins:List (Addr×Obj)}{σ:St}{H:Hp}{s:Shared}(B:Blk2 X N' scope map mp2 tg tg2 iter2 elt ifs g wi2 g2 tt te)(I:Inv X pins σ H s) :
 ∃ cl,closureFor scope X.env=pure cl/\(∀ x c,cl.lookup x=some c->X.env.cells.lookup x=some c)/\∀ x,(x,NameKind.free)∈scope.names->(cl.lookup x).isSome=true:=B.one.clos I
def J7m (wi:TI)(map mp2:List (Option Nat))(g:TG)(wi2:TI)(g2:TG)(tt:TT)(te:TE):TE:=fun σ H Q=>wi σ H fun J H1=>∃ W:Nat->Nat->List V->Hp->Prop,(∃ m,W 0 m [] H1) /\
 UM J g mp2 wi2 g2 tt te (capt σ map) (fun acc H'=>∀ D,H' D=none->Q (.ref D) (upd H' D (.lst acc))) W
theorem ZP (B:Blk2 X N' scope map mp2 tg tg2 iter2 elt ifs g wi2 g2 tt te)(hi:PI X tg iter wi)(hs:∀ x,foldedSetIterable iter X.env x=pure x:=by intro _;rfl):PE X (.ListComp elt [⟨tg,iter,[],0⟩,⟨tg2,iter2,ifs,0⟩] scope pos) (J7m wi map mp2 g wi2 g2 tt te):=by
 intro pins s σ H Q I h
 obtain ⟨cl,hcl,hsub,hhas⟩:=B.clos I
 rw [eval_ListComp]
 refine wpAny_comprehension_free (use:=none) rfl hs hcl B.kind B.loc (thn (hi pins s σ H _ I h) fun v s1 h1=>thn h1 fun itv s2 h2=>?_)
 obtain ⟨it,fp,tn,J,H2,e,I2,T,st2,f2,W,⟨m0,w0⟩,turn⟩:=h2
 subst e
 refine J2d (RR:=fun acc C=>compPost (model X.prog X.w) X.A X.xe none (EP X pins σ Q) acc C) I2 B hsub hhas T st2 f2 w0 turn fun D C acc H' s' m I' hD nsm fC c1 c2 c3 c4 fin=>?_
 refine ⟨m,nsm,fun h' sb=>⟨.ref D,_,?_,rfl,fin D hD⟩⟩
 exact I'.turned (t':=s'.toks) (fun b o hb e=>(sb.2 b hb).trans e) fC c1 (.inr c2) c3 c4
end
def okA (acc:List V):Prop:=(∃ ns:List Int,acc=ns.map V.int)/\acc.length<=2000
inductive compG (gd:D->Ev->(Ev->Prop)->Prop)(dt:DT)(de:DE)(ρc:Ev)(items acc0:List D)(P:List D->Prop):Prop
 | mk (I:Nat->List D->Prop) (h0:I 0 acc0) (hs:∀ (i:Nat) x acc,items[i]?=some x->I i acc->gd x ρc fun ρ1=>dt ρ1 fun c=>IfP c (de ρ1 fun y=>plain y=true/\I (i+1) (acc++[y])) (I (i+1) acc)) (hd:∀ acc,I items.length acc->P acc):compG gd dt de ρc items acc0 P
inductive compI2 (gd:D->Ev->(Ev->Prop)->Prop)(mp2:List (Option Nat))(di2:DA)(gd2:D->Ev->(Ev->Prop)->Prop)(dt:DT)(de:DE)(ρc:Ev)(items:List D)(P:List D->Prop):Prop
 | mk (I:Nat->List D->Prop) (h0:I 0 []) (hs:∀ (i:Nat) x acc,items[i]?=some x->I i acc->gd x ρc fun ρ1=>di2 ρ1 fun ys=>ys.length<=1000/\compG gd2 dt de (IQ ρ1 mp2) ys acc (I (i+1))) (hd:∀ acc,I items.length acc->P acc):compI2 gd mp2 di2 gd2 dt de ρc items P
def J9q (map mp2:List (Option Nat))(gd:D->Ev->(Ev->Prop)->Prop)(di:DA)(gd2:D->Ev->(Ev->Prop)->Prop)(di2:DA)(dt:DT)(de:DE):DE:=fun ρ P=>di ρ fun items=>items.length<=1000/\compI2 gd mp2 di2 gd2 dt de (IQ ρ map) items fun acc=>P (.lst acc)
theorem leM:2000000<=sizeLine:=by rw [sizeLine_eq];decide
theorem SD {W:Wd}{pn:List (D×V)}{M:Addr->Prop}{b:Option Addr}{H:Hp}{σ:St}{ρ:Ev}{J:It}{need:List (D×V)}{items ds0:List D}{acc0:List V}{g:TG}{gd:D->Ev->(Ev->Prop)->Prop}{dt:DT}{de:DE}{P:List D->Prop}{Fin:List V->Hp->Prop}
 (hG:GD W g gd) (st:Sta W pn M b H σ ρ) (hp:items.all plain=true) (hI:JY W J need items) (hn:∀ q∈need,RepX W M b H q.1 q.2) (r0:Reps W.K M H ds0 acc0) (hl:acc0.length+items.length<=2000000) (h:compG gd dt de ρ items ds0 P)
 (fin:∀ ds acc H',P ds->Reps W.K M H' ds acc->acc.length<=acc0.length+items.length->Kp b H H'->okB W.B b H'->Fin acc H'):∃ Wf:Nat->Nat->List V->Hp->Prop,(∃ m,Wf 0 m acc0 H)/\KI J g (dnT W dt) (dn W de) σ Fin Wf:=by
 obtain ⟨I,i0,istep,idone⟩:=h
 refine ⟨fun i m acc H2=>m=items.length - i/\i<=items.length/\acc.length<=acc0.length+i/\Kp b H H2/\okB W.B b H2/\∃ ds,Reps W.K M H2 ds acc/\I i ds,⟨items.length,by simp,Nat.zero_le _,Nat.le_refl _,Kp.refl _ _,st.ok,ds0,r0,i0⟩,?_⟩
 rintro i m acc H2 ⟨rfl,hi,ha,k2,o2,ds,r,q⟩
 have st2:=st.step k2 o2
 obtain ⟨hgo,hstop⟩:=hI M b H2 st2.toHs fun q hq=>(hn q hq).step st.bagM k2
 by_cases hlt:i<items.length
 · have ei:items[i]?=some items[i]:=List.getElem?_eq_getElem hlt
   replace q:=istep i _ ds ei q
   refine .inr ⟨(hgo i _ ei).1,by have:=leM;omega,fun acc' H'=>acc'.length<=acc0.length+(i+1)/\Kp b H H'/\okB W.B b H'/\∃ ds,Reps W.K M H' ds acc'/\I (i+1) ds,fun acc' H' n=>⟨items.length - (i+1),by omega,rfl,hlt,n⟩,fun x H3 y=>?_⟩
   obtain ⟨S3,rx⟩:=(hgo i _ ei).2 x H3 y
   have o3:okB W.B b H3:=fun p e=>W.B.st p H2 H3 (o2 p e) fun o e'=>S3 p o e'
   have k3:Kp b H2 H3:=Kp.same S3
   have st3:=st2.step k3 o3
   refine hG pn M b H3 σ ρ items[i] x _ _ st3 rx (List.all_eq_true.mp hp _ (List.getElem_mem hlt)) q fun ρ1 σ1 h1 st4 _=>?_
   refine ⟨pn,M,b,ρ1,_,st4,h1,fun c H5 h5 k5 o5=>?_⟩
   cases h5 with
   | t e h5 =>
     rw [if_pos e]
     refine ⟨pn,M,b,ρ1,_,st4.step k5 o5,h5,fun y v H6 h6 ry k6 o6=>?_⟩
     have kk:=((k3.trans k5).trans k6)
     refine ⟨by simp;omega,k2.trans kk,o6,ds++[y],Reps.append (Reps.keep (fun c o n e=>kk c o (fun z=>n (st.bagM c z)) e) _ _ r) ⟨v,[],rfl,ry.rep h6.1,rfl⟩,h6.2⟩
   | f e h5 =>
     rw [if_neg (by rw [e];exact Bool.false_ne_true)]
     have kk:=k3.trans k5
     exact ⟨by omega,k2.trans kk,o5,ds,Reps.keep (fun c o n e=>kk c o (fun z=>n (st.bagM c z)) e) _ _ r,h5⟩
 · have e:i=items.length:=by omega
   subst e
   exact .inl ⟨hstop _ (Nat.le_refl _),by have:=leM;omega,fin ds acc H2 (idone _ q) r ha k2 o2⟩
theorem SF {W:Wd}{pn:List (D×V)}{M:Addr->Prop}{b:Option Addr}{H:Hp}{σ:St}{ρ:Ev}{J:It}{need:List (D×V)}{items:List D}{g g2:TG}{gd gd2:D->Ev->(Ev->Prop)->Prop}{mp2:List (Option Nat)}{di2:DA}{dt:DT}{de:DE}{P:List D->Prop}{Fin:List V->Hp->Prop}
 (hG:GD W g gd) (hG2:GD W g2 gd2) (st:Sta W pn M b H σ ρ) (hp:items.all plain=true) (hI:JY W J need items) (hn:∀ q∈need,RepX W M b H q.1 q.2) (hl:items.length<=1000) (h:compI2 gd mp2 di2 gd2 dt de ρ items P)
 (fin:∀ ds acc H',P ds->Reps W.K M H' ds acc->acc.length<=sizeLine->Kp b H H'->okB W.B b H'->Fin acc H'):∃ Wf:Nat->Nat->List V->Hp->Prop,(∃ m,Wf 0 m [] H)/\UM J g mp2 (dnI W false di2) g2 (dnT W dt) (dn W de) σ Fin Wf:=by
 obtain ⟨I,i0,istep,idone⟩:=h
 refine ⟨fun i m acc H2=>m=items.length - i/\i<=items.length/\acc.length<=1000*i/\Kp b H H2/\okB W.B b H2/\∃ ds,Reps W.K M H2 ds acc/\I i ds,⟨items.length,by simp,Nat.zero_le _,Nat.le_refl _,Kp.refl _ _,st.ok,[],rfl,i0⟩,?_⟩
 rintro i m acc H2 ⟨rfl,hi,ha,k2,o2,ds,r,q⟩
 have st2:=st.step k2 o2
 obtain ⟨hgo,hstop⟩:=hI M b H2 st2.toHs fun q hq=>(hn q hq).step st.bagM k2
 by_cases hlt:i<items.length
 · have ei:items[i]?=some items[i]:=List.getElem?_eq_getElem hlt
   replace q:=istep i _ ds ei q
   refine .inr ⟨(hgo i _ ei).1,fun acc' H'=>acc'.length<=1000*(i+1)/\Kp b H H'/\okB W.B b H'/\∃ ds,Reps W.K M H' ds acc'/\I (i+1) ds,fun acc' H' n=>⟨items.length - (i+1),by omega,rfl,hlt,n⟩,fun x H3 y=>?_⟩
   obtain ⟨S3,rx⟩:=(hgo i _ ei).2 x H3 y
   have o3:okB W.B b H3:=fun p e=>W.B.st p H2 H3 (o2 p e) fun o e'=>S3 p o e'
   have k3:Kp b H2 H3:=Kp.same S3
   have st3:=st2.step k3 o3
   refine hG pn M b H3 σ ρ items[i] x _ _ st3 rx (List.all_eq_true.mp hp _ (List.getElem_mem hlt)) q fun ρ1 σ1 h1 st4 _=>?_
   refine ⟨pn,M,b,ρ1,_,st4,h1,fun ys J2 need2 H5 hys hp2 hI2 hn2 k5 o5=>?_⟩
   have st5:=(st4.step k5 o5).capt mp2
   have kk:=k3.trans k5
   have hy:=hys.1
   exact SD hG2 st5 hp2 hI2 (fun q hq=>(hn2 q hq).1) (Reps.keep (fun c o n e=>kk c o (fun z=>n (st.bagM c z)) e) _ _ r) (by omega) hys.2 fun ds acc H' hP r hl' k o=>⟨by omega,(k2.trans kk).trans k,o,ds,r,hP⟩
 · have e:i=items.length:=by omega
   subst e
   exact .inl ⟨hstop _ (Nat.le_refl _),by have:=leM;omega,fin ds acc H2 (idone _ q) r (by have:=leM;omega) k2 o2⟩
section
variable {X:Cx}{W:Wd}{elt iter tg tg2 iter2:Expr}{ifs:List Expr}{scope:Scope}{pos:Pos}{N':List Str}{map mp2:List (Option Nat)}{g g2:TG}{gd gd2:D->Ev->(Ev->Prop)->Prop}{di di2:DA}{dt:DT}{de:DE}
theorem JM (hG:GD W g gd)(hG2:GD W g2 gd2)(B:Blk2 X N' scope map mp2 tg tg2 iter2 elt ifs g (dnI W false di2) g2 (dnT W dt) (dn W de))(hi:JI X W false tg iter di)(hs:∀ x,foldedSetIterable iter X.env x=pure x:=by intro _;rfl):JE X W (.ListComp elt [⟨tg,iter,[],0⟩,⟨tg2,iter2,ifs,0⟩] scope pos) (J9q map mp2 gd di gd2 di2 dt de):=⟨(ZP B hi.h hs).mono fun σ H Q hh=>hh.elim fun pn M b ρ P st h k=>by
 refine ⟨pn,M,b,ρ,_,st,h,fun items J need H1 hx hp hI hn k1 o1=>?_⟩
 have st1:=st.step k1 o1
 refine SF hG hG2 (st1.capt map) hp hI (fun q hq=>(hn q hq).1) hx.1 hx.2 fun ds acc H' hP r hl k2 o2 D hD=>?_
 exact k _ _ _ hP (EA (st1.step k2 o2).toHs r hD) ((k1.trans k2).trans (Kp.upd hD)) ((st1.step k2 o2).okU hD)⟩
theorem J2c (calm:X.calm=true) (kind:scope.kind=.function) (loc:∀ x∈scope.names,x.2=.local->scope.names.lookup x.1=some .local) (free:(scope.names.all fun p=>!(p.2==NameKind.free)||(X.env.kindOf p.1==some .cell||X.env.kindOf p.1==some .free))=true) (cap:CapOk X scope map N') (keep:GU g map) (keep2:GU g2 mp2) (ids:NW 0 mp2=true) (sub:ER map mp2=true)
 (run:∀ cells C fp s H,PG (Q0 X N' scope cells C fp s H).nox tg g/\JI (Q0 X N' scope cells C fp s H).nox W false tg2 iter2 di2/\PG (Q0 X N' scope cells C fp s H).nox tg2 g2/\JIf (Q0 X N' scope cells C fp s H).nox W ifs dt/\JE (Q0 X N' scope cells C fp s H).nox W elt de)
 (fold:∀ env x,foldedSetIterable iter2 env x=pure x:=by intro _ _;rfl):Blk2 X N' scope map mp2 tg tg2 iter2 elt ifs g (dnI W false di2) g2 (dnT W dt) (dn W de) :=
 ⟨calm,kind,loc,free,cap,keep,keep2,ids,sub,fold,fun cells C fp s H=>by
  obtain ⟨a,b,c,d,e⟩:=run cells C fp s H
  exact ⟨a,b.h,c,d.h,e.h⟩⟩
end
def J5x (acc:List D):Prop:=(∃ ns:List Int,acc=ns.map D.int)/\acc.length<=2000
theorem IX {H:Hp}:∀ {ns:List Int} {vs:List V},Reps K M H (ns.map D.int) vs->vs=ns.map V.int
 | [],vs,h=>h
 | n::ns,vs,h=>by
   obtain ⟨v,r,rfl,h1,h2⟩:=h
   cases (show _=_ from h1)
   rw [IX h2]
   rfl
theorem J5x.ok {H:Hp}{ds:List D}{vs:List V}(h:J5x ds)(r:Reps K M H ds vs):okA vs:=by
 obtain ⟨⟨ns,rfl⟩,hl⟩:=h
 have e:=IX r
 exact ⟨⟨ns,e⟩,by rw [e,List.length_map];rwa [List.length_map] at hl⟩
section
variable {W:Wd}
theorem RepXs.asA {b':Option Addr}{H:Hp}:∀ (ds:List D) (vs:List V),RepXs W M b H ds vs->ds.all L2.plain=true->RepAs W.K M b' H ds vs
 | [],_,h,_=>h
 | d::ds,vs,h,q=>by
   obtain ⟨v,r,e,h1,h2⟩:=h
   simp only [List.all_cons,Bool.and_eq_true] at q
   refine ⟨v,r,e,?_,RepXs.asA ds r h2 q.2⟩
   cases d<;>first|exact h1|cases q.1
end
abbrev Om:=Nat->Prop
def GO (p:Addr)(H:Hp):Nat:=match H p with|some (.lst [_,_,.int st])=>st.toNat|_=>0
def cnt (b:Option Addr)(H:Hp):Nat:=match b with|none=>0|some p=>GO p H
theorem BL {B:BagT} {H H':Hp}(o:okB B b H)(k:Kp none H H'):cnt b H'=cnt b H:=by
 cases b with
 | none=>rfl
 | some p =>
   obtain ⟨u,e⟩:=B.dm p H (o p rfl)
   have e':=k p u (by intro z;cases z) e
   show GO p H'=GO p H
   unfold GO
   rw [e,e']
theorem GT {H H':Hp}(k:Kp none H H'):Kp b H H':=fun c o _ e=>k c o (by intro z;cases z) e
theorem GG {B:BagT}{H:Hp}:okB B none H:=fun p e=>by cases e
theorem DK {B:BagT} {H H':Hp}(o:okB B b H)(k:Kp none H H'):okB B b H':=fun p e=>B.st p H H' (o p e) fun u z=>k p u (by intro y;cases y) z
abbrev DE3:=Ev->(D->Om)->Om
abbrev DT3:=Ev->(Bool->Om)->Om
abbrev DA3:=Ev->(List D->Om)->Om
def cn (W:Wd)(d:DE3):TE:=fun σ H Q=>∃ pn M b ρ P,Sta W pn M b H σ ρ/\d ρ P (cnt b H)/\∀ x v H',P x (cnt b H')->RepX W M b H' x v->Kp b H H'->okB W.B b H'->Q v H'
def cnT (W:Wd)(d:DT3):TT:=fun σ H Q=>∃ pn M b ρ P,Sta W pn M b H σ ρ/\d ρ P (cnt b H)/\∀ x H',P x (cnt b H')->Kp b H H'->okB W.B b H'->Q x H'
def cnA (W:Wd)(d:DA3):TA:=fun σ H Q=>∃ pn M b ρ P,Sta W pn M b H σ ρ/\d ρ P (cnt b H)/\∀ xs vs H',P xs (cnt b H')->RepXs W M b H' xs vs->Kp b H H'->okB W.B b H'->Q vs H'
def cnI (W:Wd)(fz:Bool)(di:DA3):TI:=fun σ H R=>∃ pn M b ρ P,Sta W pn M b H σ ρ/\di ρ P (cnt b H)/\∀ items J need H',P items (cnt b H')->items.all plain=true->JY W J need items->(∀ q∈need,RepX W M b H' q.1 q.2/\(fz=true->plain q.1=true))->Kp b H H'->okB W.B b H'->R J H'
theorem cn.elim {W:Wd}{d:DE3}{σ:St}{H:Hp}{Q:VK}{R:Prop}(h:cn W d σ H Q)(f:∀ pn M b ρ P,Sta W pn M b H σ ρ->d ρ P (cnt b H)->(∀ x v H',P x (cnt b H')->RepX W M b H' x v->Kp b H H'->okB W.B b H'->Q v H')->R):R:=by
 obtain ⟨pn,M,b,ρ,P,st,h,k⟩:=h
 exact f pn M b ρ P st h k
theorem cnT.elim {W:Wd}{d:DT3}{σ:St}{H:Hp}{Q:Bool->Hp->Prop}{R:Prop}(h:cnT W d σ H Q)(f:∀ pn M b ρ P,Sta W pn M b H σ ρ->d ρ P (cnt b H)->(∀ x H',P x (cnt b H')->Kp b H H'->okB W.B b H'->Q x H')->R):R:=by
 obtain ⟨pn,M,b,ρ,P,st,h,k⟩:=h
 exact f pn M b ρ P st h k
theorem cnA.elim {W:Wd}{d:DA3}{σ:St}{H:Hp}{Q:List V->Hp->Prop}{R:Prop}(h:cnA W d σ H Q)(f:∀ pn M b ρ P,Sta W pn M b H σ ρ->d ρ P (cnt b H)->(∀ xs vs H',P xs (cnt b H')->RepXs W M b H' xs vs->Kp b H H'->okB W.B b H'->Q vs H')->R):R:=by
 obtain ⟨pn,M,b,ρ,P,st,h,k⟩:=h
 exact f pn M b ρ P st h k
theorem cnI.elim {W:Wd}{fz:Bool}{d:DA3}{σ:St}{H:Hp}{R:It->Hp->Prop}{Z:Prop}(h:cnI W fz d σ H R)(f:∀ pn M b ρ P,Sta W pn M b H σ ρ->d ρ P (cnt b H)->(∀ items J need H',P items (cnt b H')->items.all plain=true->JY W J need items->(∀ q∈need,RepX W M b H' q.1 q.2/\(fz=true->plain q.1=true))->Kp b H H'->okB W.B b H'->R J H')->Z):Z:=by
 obtain ⟨pn,M,b,ρ,P,st,h,k⟩:=h
 exact f pn M b ρ P st h k
structure CJE (X:Cx)(W:Wd)(e:Expr)(d:DE3):Prop where
 h:PE X e (cn W d)
structure CJT (X:Cx)(W:Wd)(e:Expr)(d:DT3):Prop where
 h:PT X e (cnT W d)
structure CJW (X:Cx)(W:Wd)(e:Expr)(d:DT3):Prop where
 h:PW X e (cnT W d)
structure CJA (X:Cx)(W:Wd)(es:List Expr)(d:DA3):Prop where
 h:PA X es (cnA W d)
structure CJIf (X:Cx)(W:Wd)(es:List Expr)(d:DT3):Prop where
 h:PIf X es (cnT W d)
structure CJI (X:Cx)(W:Wd)(fz:Bool)(tg l:Expr)(d:DA3):Prop where
 h:PI X tg l (cnI W fz d)
def noH (b:Option Addr)(H0:Hp):Hp:=fun c=>if b=some c then none else H0 c
abbrev Wn (W:Wd)(H0:Hp):Wd:=⟨W.K,W.B,H0,W.M0,none⟩
theorem MF {H0:Hp}{c:Addr}(h:H0 c=none):noH b H0 c=none:=by unfold noH;split<;>first|rfl|exact h
theorem RL {W:Wd}{pn:List (D×V)} {H:Hp}{σ:St}{ρ:Ev}(s:Sta W pn M b H σ ρ):Sta (Wn W (noH b W.H0)) [] M none H σ (AT ρ):=by
 refine ⟨⟨GG,fun p e=>(by cases e),s.dom,s.m0⟩,fun c o _ e=>?_,.inl rfl,fun i d e=>?_,by simp [AT,s.len],fun q hq=>(by cases hq)⟩
 · have e:noH b W.H0 c=some o:=e
   unfold noH at e
   split at e
   · cases e
   · rename_i nb
     refine s.kp c o (fun z=>?_) e
     rcases s.new with q|⟨q,_⟩
     · exact nb (q.trans z)
     · rw [q] at z;cases z
 · obtain ⟨e1,nb⟩:=AX e
   obtain ⟨v,e2,r⟩:=s.env i d e1
   refine ⟨v,e2,?_⟩
   cases d
   case own xs =>
    obtain ⟨a,vs,rfl,m1,m2,m3,m4,hh,r'⟩:=r
    exact ⟨a,vs,rfl,m1,(by intro z;cases z),MF m3,m4,hh,r'⟩
   case bag=>exact absurd rfl nb
   case frg f _=>exact ⟨fun c m=>⟨(r.1 c m).1,(by intro z;cases z),MF (r.1 c m).2.2.1,(r.1 c m).2.2.2⟩,r.2⟩
   all_goals exact r
theorem WU {W W':Wd}(hK:W'.K=W.K) {b b':Option Addr}{H:Hp}{d:D}{v:V}(h:RepX W' M b H d v)(p:plain d=true):RepX W M b' H d v:=by
 have:=h.rep p
 rw [hK] at this
 exact Rep.x (W:=W) this
section
variable {X:Cx}{W:Wd}{e b l tg:Expr}{es:List Expr}{pos p:Pos}{fz:Bool}
def cP (d:DE):DE3:=fun ρ P n=>d (AT ρ) fun x=>plain x=true/\P x n
def cPT (d:DT):DT3:=fun ρ P n=>d (AT ρ) fun x=>P x n
def cPA (d:DA):DA3:=fun ρ P n=>d (AT ρ) fun xs=>xs.all plain=true/\P xs n
def cPI (d:DA):DA3:=fun ρ P n=>d (AT ρ) fun xs=>P xs n
theorem Q1 {d:DE}(h:∀ H0,JE X (Wn W H0) e d):CJE X W e (cP d):=⟨fun pins s σ H Q I hh=>hh.elim fun pn M b ρ P st hd k=>by
 refine (h (noH b W.H0)).h pins s σ H Q I ⟨[],M,none,AT ρ,_,(RL st),hd,fun x v H' hx rx k' o'=>?_⟩
 exact k x v H' (by rw [BL st.ok k'];exact hx.2) (WU (W:=W) (W':=Wn W (noH b W.H0)) rfl rx hx.1) (GT k') (DK st.ok k')⟩
theorem BF {d:DT}(h:∀ H0,JT X (Wn W H0) e d):CJT X W e (cPT d):=⟨fun pins s σ H Q I hh=>hh.elim fun pn M b ρ P st hd k=>by
 refine (h (noH b W.H0)).h pins s σ H Q I ⟨[],M,none,AT ρ,_,(RL st),hd,fun x H' hx k' o'=>?_⟩
 exact k x H' (by rw [BL st.ok k'];exact hx) (GT k') (DK st.ok k')⟩
theorem xsW {W W':Wd}(hK:W'.K=W.K) {b b':Option Addr}{H:Hp}:∀ (ds:List D) (vs:List V),RepXs W' M b H ds vs->ds.all L2.plain=true->RepXs W M b' H ds vs
 | [],_,h,_=>h
 | d::ds,vs,h,q=>by
   obtain ⟨v,r,e,h1,h2⟩:=h
   simp only [List.all_cons,Bool.and_eq_true] at q
   refine ⟨v,r,e,?_,xsW hK ds r h2 q.2⟩
   have:=h1.rep q.1
   rw [hK] at this
   exact Rep.x (W:=W) this
theorem SK {d:DA}(h:∀ H0,JA X (Wn W H0) es d):CJA X W es (cPA d):=⟨fun pos pins s σ H Q I hh=>hh.elim fun pn M b ρ P st hd k=>by
 refine (h (noH b W.H0)).h pos pins s σ H Q I ⟨[],M,none,AT ρ,_,(RL st),hd,fun xs vs H' hx rx k' o'=>?_⟩
 exact k xs vs H' (by rw [BL st.ok k'];exact hx.2) (xsW (W:=W) (W':=Wn W (noH b W.H0)) (b':=b) rfl _ _ rx hx.1) (GT k') (DK st.ok k')⟩
theorem J3z {W:Wd}{H0:Hp}{J:It}{need:List (D×V)}{items:List D}(hI:JY (Wn W H0) J need items)(hn:∀ q∈need,plain q.1=true)(hp:items.all plain=true):JY W J need items:=fun M b H hs hq=>by
 obtain ⟨h1,h2⟩:=hI M none H ⟨GG,fun p e=>(by cases e),hs.dom,hs.m0⟩ fun q hq'=>WU (W:=Wn W H0) (W':=W) rfl (hq q hq') (hn q hq')
 refine ⟨fun i d e=>⟨(h1 i d e).1,fun x H3 y=>⟨((h1 i d e).2 x H3 y).1,?_⟩⟩,h2⟩
 have r:=((h1 i d e).2 x H3 y).2
 exact WU (W:=W) (W':=Wn W H0) rfl r (List.all_eq_true.mp hp d (List.mem_of_getElem? e))
theorem EJ {d:DA}(h:∀ H0,JI X (Wn W H0) true tg l d):CJI X W fz tg l (cPI d):=⟨fun pins s σ H R I hh=>hh.elim fun pn M b ρ P st hd k=>by
 refine (h (noH b W.H0)).h pins s σ H R I ⟨[],M,none,AT ρ,_,(RL st),hd,fun items J need H' hx hp hI hn k' o'=>?_⟩
 exact k items J need H' (by rw [BL st.ok k'];exact hx) hp (J3z hI (fun q hq=>(hn q hq).2 rfl) hp) (fun q hq=>⟨WU (W:=W) (W':=Wn W (noH b W.H0)) rfl (hn q hq).1 ((hn q hq).2 rfl),fun _=>(hn q hq).2 rfl⟩) (GT k') (DK st.ok k')⟩
end
def noB:D->Bool
 | .bag=>false
 | _=>true
theorem RepX.nob {W:Wd} {H:Hp}{d:D}{v:V}(h:RepX W M b H d v)(p:noB d=true):RepX W M none H d v:=by
 cases d
 case own xs =>
  obtain ⟨a,vs,e,m1,m2,m3,m4,hh,r⟩:=h
  exact ⟨a,vs,e,m1,(by intro z;cases z),m3,m4,hh,r⟩
 case bag=>cases p
 case frg f _=>exact ⟨fun c m=>⟨(h.1 c m).1,(by intro z;cases z),(h.1 c m).2.2⟩,h.2⟩
 all_goals exact h
theorem RepXs.nob {W:Wd} {H:Hp}:∀ (ds:List D) (vs:List V),RepXs W M b H ds vs->ds.all noB=true->RepXs W M none H ds vs
 | [],_,h,_=>h
 | d::ds,vs,h,q=>by
   obtain ⟨v,r,e,h1,h2⟩:=h
   simp only [List.all_cons,Bool.and_eq_true] at q
   exact ⟨v,r,e,h1.nob q.1,RepXs.nob ds r h2 q.2⟩
theorem Hs.nob {W:Wd} {H:Hp}(s:Hs W M b H):Hs W M none H:=⟨GG,fun p e=>(by cases e),s.dom,s.m0⟩
section
variable {X:Cx}{W:Wd}{e a b c tg:Expr}{es:List Expr}{pos p:Pos}{d da db:DE3}{dA:DA3}{x:Str}{k:Nat}{ps:List Str}
def J9v (i:Nat):DE3:=fun ρ P n=>match ρ[i]? with|some (some d)=>P d n|_=>False
theorem cjv (i:Nat) {x:Str} {pos:Pos} (hN:X.N[i]?=some x:=by rfl) (hv:Vis X.env.scope x:=by first|exact Or.inl rfl|exact Or.inr (Or.inl rfl)|exact Or.inr (Or.inr rfl)) (hd:(x==("__debug__" : Str))=false:=by decide)
 (hcd:(x==("__classdict__" : Str))=false:=by decide):CJE X W (.Name x pos) (J9v i):=⟨(OS hN hv hd hcd).mono fun σ H Q hh=>hh.elim fun pn M b ρ P st h k=>by
 unfold J9v at h
 split at h
 case h_1 d e =>
  obtain ⟨v,e1,r⟩:=st.env i d e
  exact ⟨v,e1,k d v H h r (Kp.refl _ _) st.ok⟩
 case h_2=>exact h.elim⟩
def cOp (o:D->D->(D->Prop)->Prop)(da db:DE3):DE3:=fun ρ P=>da ρ fun x=>db ρ fun y n=>(noB x&&noB y)=true/\o x y fun z=>plain z=true/\P z n
theorem ST {r:R2}{o:D->D->(D->Prop)->Prop}(hd:OpD W r o):∀ σ H Q,cn W (cOp o da db) σ H Q->tOp r (cn W da) (cn W db) σ H Q:=by
 intro σ H Q hh
 refine hh.elim fun pn M b ρ P st h k=>?_
 refine ⟨pn,M,b,ρ,_,st,h,fun x v H1 hx rx k1 o1=>?_⟩
 refine ⟨pn,M,b,ρ,_,st.step k1 o1,hx,fun y u H2 hy ry k2 o2=>?_⟩
 have st2:=(st.step k1 o1).step k2 o2
 obtain ⟨n1,n2⟩:=(Bool.and_eq_true _ _).mp hy.1
 exact hd M none H2 x y v u _ Q st2.toHs.nob ((rx.step st.bagM k2).nob n1) (ry.nob n2) hy.2 fun z w H' hz rz k3 o3=>k z w H' (by rw [BL o2 k3];exact hz.2) (WU (W:=W) (W':=W) rfl rz hz.1) ((k1.trans k2).trans (GT k3)) (DK o2 k3)
theorem MO {op:Operator}{r:R2}{o:D->D->(D->Prop)->Prop}(ho:OpR X (binaryOp op) r)(hd:OpD W r o)(ha:CJE X W a da)(hb:CJE X W b db):CJE X W (.BinOp a op b pos) (cOp o da db):=⟨(AQ ho ha.h hb.h).mono (ST hd)⟩
theorem GP {r:R2}{o:D->D->(D->Prop)->Prop}(hr:IxR X r)(hd:OpD W r o)(ha:CJE X W a da)(hb:CJE X W b db)(hs:LK b):CJE X W (.Subscript a b pos) (cOp o da db):=⟨(GB hr ha.h hb.h hs).mono (ST hd)⟩
def Q2h (da:DE3):DT3:=fun ρ P=>da ρ fun x n=>match x with|.bl k=>P k n|_=>False
theorem J5c {op:CmpOp}{r:R2}{o:D->D->(D->Prop)->Prop}(ho:OpR X (compareOp op) r)(hd:OpD W r o)(ha:CJE X W a da)(hb:CJE X W b db)(hm:behindInMarks op b=false):CJT X W (.Compare a [op] [b] pos) (Q2h (cOp o da db)):=⟨(LB ho ha.h hb.h hm).mono fun σ H Q hh=>hh.elim fun pn M b ρ P st h k=>by
 refine ST hd σ H _ ⟨pn,M,b,ρ,_,st,h,fun x v H1 hx rx k1 o1=>?_⟩
 cases x<;>first|exact hx.elim|skip
 case bl c =>
  cases (show _=_ from rx)
  exact ⟨c,rfl,k _ H1 hx k1 o1⟩⟩
def J1t (t u:DT3):DT3:=fun ρ P=>t ρ fun c n=>IfP c (u ρ P n) (P false n)
variable {ta tb:DT3}{rest:List Expr}
theorem J4z:∀ σ H Q,cnT W (J1t ta tb) σ H Q->J7n (cnT W ta) (cnT W tb) σ H Q:=by
 intro σ H Q hh
 refine hh.elim fun pn M b ρ P st h k=>?_
 refine ⟨pn,M,b,ρ,_,st,h,fun x H1 hx k1 o1=>?_⟩
 cases hx with
 | t e hx=>rw [if_pos e];exact ⟨pn,M,b,ρ,P,st.step k1 o1,hx,fun x H' hp k2 o2=>k x H' hp (k1.trans k2) o2⟩
 | f e hx=>rw [if_neg (by rw [e];exact Bool.false_ne_true)];exact k _ H1 hx k1 o1
theorem J1o (ha:CJT X W a ta):CJW X W (.BoolOp .And [a] pos) ta:=⟨UY ha.h⟩
theorem J5b (ha:CJT X W a ta)(hb:CJW X W (.BoolOp .And (b::rest) pos) tb):CJW X W (.BoolOp .And (a::b::rest) pos) (J1t ta tb):=⟨(ZC ha.h hb.h).mono J4z⟩
theorem J5d (ha:CJT X W a ta)(hb:CJW X W (.BoolOp .And (b::rest) pos) tb):CJT X W (.BoolOp .And (a::b::rest) pos) (J1t ta tb):=⟨(J5b ha hb).h.pt⟩
def SQ:DA3:=fun _ P=>P []
def MU (da:DE3)(dr:DA3):DA3:=fun ρ P=>da ρ fun x=>dr ρ fun xs=>P (x::xs)
theorem V0:CJA X W [] SQ:=⟨ES.mono fun σ H Q hh=>hh.elim fun pn M b ρ P st h k=>k [] [] H h rfl (Kp.refl _ _) st.ok⟩
theorem J6 {dr:DA3}(ha:CJE X W e da)(hr:CJA X W es dr)(hs:starEach (e::es) X.env=(false,eval e X.env)::starEach es X.env:=by rfl):CJA X W (e::es) (MU da dr):=⟨(CA ha.h hr.h hs).mono fun σ H Q hh=>hh.elim fun pn M b ρ P st h k=>by
 refine ⟨pn,M,b,ρ,_,st,h,fun x v H1 hx rx k1 o1=>?_⟩
 refine ⟨pn,M,b,ρ,_,st.step k1 o1,hx,fun xs vs H2 hy ry k2 o2=>?_⟩
 exact k _ _ H2 hy ⟨v,vs,rfl,rx.step st.bagM k2,ry⟩ (k1.trans k2) o2⟩
theorem LI {B:BagT}{b:Option Addr}{H:Hp}{q:Addr}{o:HO}(ok:okB B b H)(h:H q=none):cnt b (upd H q o)=cnt b H:=BL ok (Kp.upd h)
def Q3g (dA:DA3):DE3:=fun ρ P=>dA ρ fun xs n=>DJ xs=true/\P (.tup xs) n
def Q3h (dA:DA3):DE3:=fun ρ P=>dA ρ fun xs n=>DJ xs=true/\P (.lst xs) n
theorem J5f {x1}(h:CJA X W es dA):CJE X W (.Tuple es x1 pos) (Q3g dA):=⟨(TJ h.h).mono fun σ H Q hh=>hh.elim fun pn M b ρ P st h k=>by
 refine ⟨pn,M,b,ρ,_,st,h,fun xs vs H1 hx rx k1 o1=>?_⟩
 have rr:=rx.reps _ _ (DJ.pl hx.1)
 refine ⟨by rw [rr.length];exact DJ.len hx.1,fun p hp=>k _ _ _ (by rw [LI o1 hp];exact hx.2) (IH (st.step k1 o1).toHs rr hp) (k1.trans (Kp.upd hp)) ((st.step k1 o1).okU hp)⟩⟩
theorem J5g (h:CJA X W es dA):CJE X W (.List es pos) (Q3h dA):=⟨(LY h.h).mono fun σ H Q hh=>hh.elim fun pn M b ρ P st h k=>by
 refine ⟨pn,M,b,ρ,_,st,h,fun xs vs H1 hx rx k1 o1=>?_⟩
 have rr:=rx.reps _ _ (DJ.pl hx.1)
 refine ⟨by rw [rr.length];exact DJ.len hx.1,fun p hp=>k _ _ _ (by rw [LI o1 hp];exact hx.2) (EA (st.step k1 o1).toHs rr hp) (k1.trans (Kp.upd hp)) ((st.step k1 o1).okU hp)⟩⟩
abbrev MV:=List D->(D->Om)->Om
def AG (K:Fg)(B:BagT)(S:MV):Sp:=fun vs H Q E=>∃ (M:Addr->Prop) (b:Option Addr) (ds:List D) (P:D->Om),S ds P (cnt b H)/\RepAs K M b H ds vs/\okB B b H/\(∀ p,b=some p->M p)/\(∀ c,M c->∃ o,H c=some o) /\
 (∀ d v H',P d (cnt b H')->Rep K M H' d v->Kp b H H'->okB B b H'->Q v H')
def J6n (S:MV)(dA:DA3):DE3:=fun ρ P=>dA ρ fun ds n=>ds.all AH=true/\S ds P n
theorem Z6 {S:MV}(G:Callee X.prog X.w X.K X.mg X.base CX0 x k ps (AG W.K W.B S))(hr:Room k X.A)(hg:Gl X x)(ha:CJA X W (e::es) dA)(hdb:(x==("__debug__" : Str))=false:=by decide) (he:starEach (e::es) X.env=(false,eval e X.env)::starEach es X.env:=by rfl) (hpl:(backTo pos (starEach es X.env)).any (·.1)=false:=by rfl) :
 CJE X W (.Call (.Name x p) (e::es) [] pos) (J6n S dA):=⟨(LX G hr hg ha.h hdb he hpl).mono fun σ H Q hh=>hh.elim fun pn M b ρ P st h k=>by
 refine ⟨pn,M,b,ρ,_,st,h,fun xs vs H1 hx rx k1 o1=>?_⟩
 have st1:=st.step k1 o1
 refine ⟨M,b,xs,P,hx.2,?_,o1,st.bagM,st1.dom,fun d v H' hd rd k2 o2=>k d v H' hd rd.x (k1.trans k2) o2⟩
 rw [List.append_nil];exact rx.args _ _ hx.1⟩
def cCB (o:List D->(D->Prop)->Prop)(dA:DA3):DE3:=fun ρ P=>dA ρ fun xs n=>xs.all noB=true/\o xs fun z=>plain z=true/\P z n
variable {r:List V->Hp->VK->Prop}{o:List D->(D->Prop)->Prop}{T:String}
theorem J7d (hd:DM W r o):∀ σ H Q,cn W (cCB o dA) σ H Q->tCB r (cnA W dA) σ H Q:=by
 intro σ H Q hh
 refine hh.elim fun pn M b ρ P st h k=>?_
 refine ⟨pn,M,b,ρ,_,st,h,fun xs vs H1 hx rx k1 o1=>?_⟩
 exact hd M none H1 xs vs _ Q (st.step k1 o1).toHs.nob (rx.nob _ _ hx.1) hx.2 fun z w H' hz rz k2 o2=>k z w H' (by rw [BL o1 k2];exact hz.2) (WU (W:=W) (W':=W) rfl rz hz.1) (k1.trans (GT k2)) (DK o1 k2)
theorem MP (hc:AV X (.type T) r)(hd:DM W r o)(hg:Gl X x)(hm:X.mg x=none)(hv:bootBuiltins x=some (.type T))(ha:CJA X W (e::es) dA)(hn:x≠"__name__":=by decide) (hdb:(x==("__debug__" : Str))=false:=by decide)
 (he:starEach (e::es) X.env=(false,eval e X.env)::starEach es X.env:=by rfl) (hpl:(backTo pos (starEach es X.env)).any (·.1)=false:=by rfl):CJE X W (.Call (.Name x p) (e::es) [] pos) (cCB o dA):=⟨(EV hc hg hm hv ha.h hn hdb he hpl).mono (J7d hd)⟩
def J1u:DT3:=fun _ P=>P true
theorem SI:CJIf X W [] J1u:=⟨fun pins s σ H Q I hh=>hh.elim fun pn M b ρ P st h k=>VB pins s σ H Q I (k true H h (Kp.refl _ _) st.ok)⟩
inductive compI3 (gd:D->Ev->(Ev->Prop)->Prop)(dt:DT3)(de:DE3)(ρc:Ev)(items:List D)(P:List D->Om)(n0:Nat):Prop
 | mk (I:Nat->List D->Om) (h0:I 0 [] n0) (hs:∀ (i:Nat) x acc n,items[i]?=some x->I i acc n->gd x ρc fun ρ1=>dt ρ1 (fun c n1=>IfP c (de ρ1 (fun y n2=>plain y=true/\I (i+1) (acc++[y]) n2) n1) (I (i+1) acc n1)) n) (hd:∀ acc n,I items.length acc n->P acc n):compI3 gd dt de ρc items P n0
def LJ (gd:D->Ev->(Ev->Prop)->Prop)(dt:DT3)(de:DE3)(ρc:Ev):List D->List D->(List D->Om)->Om
 | [],acc,P=>P acc
 | x::xs,acc,P=>fun n=>gd x ρc fun ρ1=>dt ρ1 (fun c n1=>IfP c (de ρ1 (fun y n2=>plain y=true/\LJ gd dt de ρc xs (acc++[y]) P n2) n1) (LJ gd dt de ρc xs acc P n1)) n
theorem YA {gd:D->Ev->(Ev->Prop)->Prop}{dt:DT3}{de:DE3}{ρc:Ev}{items:List D}{P:List D->Om}{n0:Nat}(h:LJ gd dt de ρc items [] P n0):compI3 gd dt de ρc items P n0:=by
 refine ⟨fun i acc n=>LJ gd dt de ρc (items.drop i) acc P n,h,fun i x acc n e q=>?_,fun acc n q=>?_⟩
 · obtain ⟨hlt,rfl⟩:=List.getElem?_eq_some_iff.mp e
   try dsimp only at q
   rw [List.drop_eq_getElem_cons hlt] at q
   exact q
 · (try dsimp only at q);rw [List.drop_length] at q;exact q
theorem J6m {N':List Str} {scope:Scope} {map:List (Option Nat)} {elt:Expr} {ifs:List Expr} {g:TG} {dt:DT3} {de:DE3} (calm:X.calm=true) (kind:scope.kind=.function) (loc:∀ x∈scope.names,x.2=.local->scope.names.lookup x.1=some .local) (free:(scope.names.all fun p=>!(p.2==NameKind.free)||(X.env.kindOf p.1==some .cell||X.env.kindOf p.1==some .free))=true) (cap:CapOk X scope map N') (keep:GU g map)
 (run:∀ cells C fp s H,PG (Q0 X N' scope cells C fp s H) tg g/\CJIf (Q0 X N' scope cells C fp s H) W ifs dt/\CJE (Q0 X N' scope cells C fp s H) W elt de):Blk X N' scope map tg elt ifs g (cnT W dt) (cn W de) :=
 ⟨calm,kind,loc,free,cap,keep,fun cells C fp s H _=>⟨(run cells C fp s H).1,(run cells C fp s H).2.1.h,(run cells C fp s H).2.2.h⟩⟩
theorem SE {pn:List (D×V)}{M:Addr->Prop}{b:Option Addr}{H:Hp}{σ:St}{ρ:Ev}{J:It}{need:List (D×V)}{items:List D}{g:TG}{gd:D->Ev->(Ev->Prop)->Prop}{dt:DT3}{de:DE3}{P:List D->Om}{Fin:List V->Hp->Prop}
 (hG:GD W g gd) (st:Sta W pn M b H σ ρ) (hp:items.all plain=true) (hI:JY W J need items) (hn:∀ q∈need,RepX W M b H q.1 q.2) (hl:items.length<=1000) (h:compI3 gd dt de ρ items P (cnt b H))
 (fin:∀ ds acc H',P ds (cnt b H')->Reps W.K M H' ds acc->acc.length<=sizeLine->Kp b H H'->okB W.B b H'->Fin acc H'):∃ Wf:Nat->Nat->List V->Hp->Prop,(∃ m,Wf 0 m [] H)/\KI J g (cnT W dt) (cn W de) σ Fin Wf:=by
 obtain ⟨I,i0,istep,idone⟩:=h
 refine ⟨fun i m acc H2=>m=items.length - i/\i<=items.length/\acc.length<=i/\Kp b H H2/\okB W.B b H2/\∃ ds,Reps W.K M H2 ds acc/\I i ds (cnt b H2),⟨items.length,by simp,Nat.zero_le _,Nat.le_refl _,Kp.refl _ _,st.ok,[],rfl,i0⟩,?_⟩
 rintro i m acc H2 ⟨rfl,hi,ha,k2,o2,ds,r,q⟩
 have st2:=st.step k2 o2
 obtain ⟨hgo,hstop⟩:=hI M b H2 st2.toHs fun q hq=>(hn q hq).step st.bagM k2
 by_cases hlt:i<items.length
 · have ei:items[i]?=some items[i]:=List.getElem?_eq_getElem hlt
   replace q:=istep i _ ds _ ei q
   refine .inr ⟨(hgo i _ ei).1,by have:=BS;omega,fun acc' H'=>acc'.length<=i+1/\Kp b H H'/\okB W.B b H'/\∃ ds,Reps W.K M H' ds acc'/\I (i+1) ds (cnt b H'),fun acc' H' n=>⟨items.length - (i+1),by omega,rfl,hlt,n⟩,fun x H3 y=>?_⟩
   obtain ⟨S3,rx⟩:=(hgo i _ ei).2 x H3 y
   have o3:okB W.B b H3:=fun p e=>W.B.st p H2 H3 (o2 p e) fun o e'=>S3 p o e'
   have k3:Kp b H2 H3:=Kp.same S3
   have c3:cnt b H3=cnt b H2:=BL o2 (Kp.same S3)
   have st3:=st2.step k3 o3
   rw [<- c3] at q
   refine hG pn M b H3 σ ρ items[i] x _ _ st3 rx (List.all_eq_true.mp hp _ (List.getElem_mem hlt)) q fun ρ1 σ1 h1 st4 _=>?_
   refine ⟨pn,M,b,ρ1,_,st4,h1,fun c H5 h5 k5 o5=>?_⟩
   cases h5 with
   | t e h5 =>
     rw [if_pos e]
     refine ⟨pn,M,b,ρ1,_,st4.step k5 o5,h5,fun y v H6 h6 ry k6 o6=>?_⟩
     have kk:=((k3.trans k5).trans k6)
     refine ⟨by simp;omega,k2.trans kk,o6,ds++[y],Reps.append (Reps.keep (fun c o n e=>kk c o (fun z=>n (st.bagM c z)) e) _ _ r) ⟨v,[],rfl,ry.rep h6.1,rfl⟩,h6.2⟩
   | f e h5 =>
     rw [if_neg (by rw [e];exact Bool.false_ne_true)]
     have kk:=k3.trans k5
     exact ⟨by omega,k2.trans kk,o5,ds,Reps.keep (fun c o n e=>kk c o (fun z=>n (st.bagM c z)) e) _ _ r,h5⟩
 · have e:i=items.length:=by omega
   subst e
   exact .inl ⟨hstop _ (Nat.le_refl _),by have:=BS;omega,fin ds acc H2 (idone _ _ q) r (by have:=BS;omega) k2 o2⟩
def J1z (map:List (Option Nat))(gd:D->Ev->(Ev->Prop)->Prop)(di:DA3)(dt:DT3)(de:DE3):DE3:=fun ρ P=>di ρ fun items n=>items.length<=1000/\compI3 gd dt de (IQ ρ map) items (fun acc=>P (.lst acc)) n
theorem SJ {elt iter:Expr}{ifs:List Expr}{scope:Scope}{N':List Str}{map:List (Option Nat)}{g:TG}{gd:D->Ev->(Ev->Prop)->Prop}{di:DA3}{dt:DT3}{de:DE3}(hG:GD W g gd)(B:Blk X N' scope map tg elt ifs g (cnT W dt) (cn W de))(hi:CJI X W false tg iter di)(hs:∀ x,foldedSetIterable iter X.env x=pure x:=by intro _;rfl):CJE X W (.ListComp elt [⟨tg,iter,ifs,0⟩] scope pos) (J1z map gd di dt de):=⟨(VC B hi.h hs).mono fun σ H Q hh=>hh.elim fun pn M b ρ P st h k=>by
 refine ⟨pn,M,b,ρ,_,st,h,fun items J need H1 hx hp hI hn k1 o1=>?_⟩
 have st1:=st.step k1 o1
 refine SE hG (st1.capt map) hp hI (fun q hq=>(hn q hq).1) hx.1 hx.2 fun ds acc H' hP r hl k2 o2 D hD=>?_
 exact k _ _ _ (by rw [LI o2 hD];exact hP) (EA (st1.step k2 o2).toHs r hD) ((k1.trans k2).trans (Kp.upd hD)) ((st1.step k2 o2).okU hD)⟩
end
structure DEnds3 where
 nx:Ev->Om
 rt:D->Om
 bk:Ev->Om:=fun _ _=>False
 ct:Ev->Om:=fun _ _=>False
 ro:List D->Om:=fun _ _=>False
abbrev DS3:=DEnds3->Ev->Om
structure Link3 (W:Wd)(pn:List (D×V))(E:Ends)(F:DEnds3):Prop where
 nx:∀ M b ρ σ H,StS W pn M b H σ ρ->F.nx ρ (cnt b H)->E.nx σ H
 rt:∀ d v H n,F.rt d n->(∀ p,W.b0=some p->n=cnt W.b0 H)->Rep W.K W.M0 H d v->Kp W.b0 W.H0 H->okB W.B W.b0 H->E.rt v H
 bk:∀ M b ρ σ H,StS W pn M b H σ ρ->F.bk ρ (cnt b H)->E.bk σ H
 ct:∀ M b ρ σ H,StS W pn M b H σ ρ->F.ct ρ (cnt b H)->E.ct σ H
 ro:∀ xs a vs H n,F.ro xs n->(∀ p,W.b0=some p->n=cnt W.b0 H)->W.H0 a=none->¬ W.M0 a->H a=some (.lst vs)->Reps W.K W.M0 H xs vs->Kp W.b0 W.H0 H->okB W.B W.b0 H->E.rt (.ref a) H
def sn3 (W:Wd)(d:DS3):TS:=fun E σ H=>∃ pn M b ρ F,StS W pn M b H σ ρ/\Link3 W pn E F/\d F ρ (cnt b H)
theorem sn3.elim {W:Wd}{d:DS3}{E:Ends}{σ:St}{H:Hp}{Z:Prop}(h:sn3 W d E σ H)(f:∀ pn M b ρ F,StS W pn M b H σ ρ->Link3 W pn E F->d F ρ (cnt b H)->Z):Z:=by
 obtain ⟨pn,M,b,ρ,F,s,l,h⟩:=h
 exact f pn M b ρ F s l h
structure CJS (X:Cx)(W:Wd)(st:Stmt)(d:DS3):Prop where
 h:PS X st (sn3 W d)
structure CJSs (X:Cx)(W:Wd)(st:List Stmt)(d:DS3):Prop where
 h:PSs X st (sn3 W d)
theorem Sta.cnt0 {W:Wd}{pn:List (D×V)} {H:Hp}{σ:St}{ρ:Ev}(s:Sta W pn M b H σ ρ):∀ p,W.b0=some p->cnt b H=cnt W.b0 H:=fun p e=>by
 rcases s.new with q|⟨q,_⟩
 · rw [q]
 · rw [q] at e;cases e
section
variable {X:Cx}{W:Wd}{e a b c tg iter l:Expr}{es:List Expr}{pos p:Pos}{d db de:DE3}{dA di:DA3}{dt:DT3}{st:Stmt}{rest sts:List Stmt}{d1 d2:DS3}{t:TS}
def J9y:DS3:=fun F ρ=>F.nx ρ
def J9w (d1 d2:DS3):DS3:=fun F ρ=>d1 { F with nx:=d2 F } ρ
theorem FE:CJSs X W [] J9y:=⟨LC.mono fun E σ H hh=>hh.elim fun pn M b ρ F s l h=>l.nx _ _ _ _ _ s h⟩
theorem V7 (h:CJS X W st d1):CJSs X W [st] d1:=⟨FN h.h⟩
theorem Q4 (h1:CJS X W st d1)(h2:CJSs X W rest d2):CJSs X W (st::rest) (J9w d1 d2):=⟨(AW h1.h h2.h).mono fun E σ H hh=>hh.elim fun pn M b ρ F s l h=>⟨pn,M,b,ρ,{ F with nx:=d2 F },s,⟨fun M b ρ σ H s' h'=>⟨pn,M,b,ρ,F,s',l,h'⟩,l.rt,l.bk,l.ct,l.ro⟩,h⟩⟩
def J6o (de:DE3):DS3:=fun F ρ=>de ρ fun x n=>match x with|.own xs=>F.rt (.lst xs) n|.bag=>False|.frg _ _=>False|x=>F.rt x n
theorem DF (he:CJE X W e de):CJS X W (.Return (some e) pos) (J6o de):=⟨(HR he.h).mono fun E σ H hh=>hh.elim fun pn M b ρ F s l h=>by
 refine ⟨pn,M,b,ρ,_,s.toSta,h,fun x v H' hx rx k o=>?_⟩
 have s':=s.toSta.step k o
 cases x
 case own xs =>
  obtain ⟨a,vs,rfl,m,n,n0,m0,hh,r⟩:=rx
  exact l.rt _ _ H' _ hx s'.cnt0 ⟨a,vs,rfl,⟨m0,hh⟩,Reps.avoid (fun c m=>.inl (s'.m0 c m)) _ _ r⟩ s'.kp s'.ok0
 case bag=>exact hx.elim
 case frg=>exact hx.elim
 all_goals exact l.rt _ _ H' _ hx s'.cnt0 (UW s'.toHs (RepX.rep rx rfl)) s'.kp s'.ok0⟩
def Q2i (dt:DT3)(d1 d2:DS3):DS3:=fun F ρ=>dt ρ fun c n=>IfP c (d1 F ρ n) (d2 F ρ n)
theorem EI {s1 s2:List Stmt}(hc:CJT X W c dt)(ha:CJSs X W s1 d1)(hb:CJSs X W s2 d2):CJS X W (.If c s1 s2 pos) (Q2i dt d1 d2):=⟨(UZ hc.h ha.h hb.h).mono fun E σ H hh=>hh.elim fun pn M b ρ F s l h=>by
 refine ⟨pn,M,b,ρ,_,s.toSta,h,fun x H' hx k o=>?_⟩
 cases hx with
 | t e hx=>rw [if_pos e];exact ⟨pn,M,b,ρ,F,s.step k o,l,hx⟩
 | f e hx=>rw [if_neg (by rw [e];exact Bool.false_ne_true)];exact ⟨pn,M,b,ρ,F,s.step k o,l,hx⟩⟩
def J2a (de:DE3)(gd:D->Ev->(Ev->Prop)->Prop):DS3:=fun F ρ=>de ρ fun x n=>plain x=true/\gd x ρ fun ρ'=>F.nx ρ' n
theorem VX {g:TG}{gd:D->Ev->(Ev->Prop)->Prop}(hG:GD W g gd):∀ E σ H,sn3 W (J2a de gd) E σ H->WQ (cn W de) g E σ H:=fun E σ H hh=>hh.elim fun pn M b ρ F s l h=>by
 refine ⟨pn,M,b,ρ,_,s.toSta,h,fun x v H' hx rx k o=>?_⟩
 exact hG pn M b H' σ ρ x v E.nx _ (s.toSta.step k o) rx hx.1 hx.2 fun ρ' σ' hp st' ho=>l.nx _ _ _ _ _ (s.of st' ho) hp
theorem BC {i:Nat} {x:Str} {pos':Pos} (hN:X.N.Nodup) (hi:X.N[i]?=some x) (hx:Loc X.env.scope x) (he:CJE X W e de) (hs:swapsWith e (some (.Name x pos')) pos.line X.env=pure false:=by rfl) (hf:X.fn x=true\/X.env.scope.names.lookup x=some .local:=by first|exact .inl rfl|exact .inr rfl|assumption) :
 CJS X W (.Assign [.Name x pos'] e pos) (J2a de (gdN i)):=⟨(BR hN hi hx he.h hs hf).mono (VX (V5 i))⟩
theorem WA {g:TG}{gd:D->Ev->(Ev->Prop)->Prop}(hG:GD W g gd)(he:CJE X W e de)(hg:PG X tg g)(hs:swapsWithSole [tg] e pos.line X.env=pure false:=by rfl)(hw:swappedStores [tg] e X.env=pure none:=by rfl)
 (h1:(assignEach [tg] X.env).map (·.2)=[assign tg X.env]:=by rfl):CJS X W (.Assign [tg] e pos) (J2a de gd):=⟨(IY he.h hg hs hw h1).mono (VX hG)⟩
def J1w (i:Nat)(dA:DA3):DS3:=fun F ρ=>dA ρ fun xs n=>DJ xs=true/\F.nx (ρ.set i (some (.own xs))) n
theorem IN {i:Nat} {x:Str} {pos' lpos:Pos} (hN:X.N.Nodup) (hi:X.N[i]?=some x) (hx:Loc X.env.scope x) (ha:CJA X W es dA) (hs:swapsWith (.List es lpos) (some (.Name x pos')) pos.line X.env=pure false:=by rfl) (hf:X.fn x=true\/X.env.scope.names.lookup x=some .local:=by first|exact .inl rfl|exact .inr rfl|assumption) :
 CJS X W (.Assign [.Name x pos'] (.List es lpos) pos) (J1w i dA):=⟨(BR hN hi hx (LY ha.h) hs hf).mono fun E σ H hh=>hh.elim fun pn M b ρ F s l h=>by
 refine ⟨pn,M,b,ρ,_,s.toSta,h,fun xs vs H' hx rx k o=>?_⟩
 have rr:=rx.reps _ _ (DJ.pl hx.1)
 exact ⟨by rw [rr.length];exact DJ.len hx.1,fun q hq=>l.nx _ _ _ _ _ ((s.step k o).newOwn i rr hq) (by rw [LI o hq];exact hx.2)⟩⟩
theorem JQ {b:Option Addr}{H:Hp}{q:Addr}{o:HO}(h:b≠some q):cnt b (upd H q o)=cnt b H:=by
 cases b with
 | none=>rfl
 | some p =>
   show GO p (upd H q o)=GO p H
   unfold GO
   rw [V1 (show p≠q from fun z=>h (by rw [z]))]
def WD (i:Nat)(dA:DA3):DS3:=fun F ρ n=>match ρ[i]? with
 | some (some (.own ys))=>dA ρ (fun xs n=>(match xs with | [y]=>(plain y&&decide (ys.length<1000))=true/\F.nx (ρ.set i (some (.own (ys++[y])))) n|_=>False)) n
 | _=>False
theorem J4y {i:Nat}:∀ E σ H,sn3 W (WD i dA) E σ H->QV (tBM W.K "list" GX (FI i) (cnA W dA)) E σ H:=fun E σ H hh=>hh.elim fun pn M b ρ F s l h=>by
 unfold WD at h
 split at h
 case h_2=>exact h.elim
 case h_1 ys e =>
  obtain ⟨a,vs,ea,nb,hh,r⟩:=BA s.toSta e
  refine ⟨.ref a,ea,.inl ⟨rfl,vs,SqL.of hh⟩,pn,M,b,ρ,_,s.toSta,h,fun xs us H' hx rx k o=>?_⟩
  match xs,hx with
  | [y],hx =>
    obtain ⟨u,rfl,ru⟩:=rx1 rx
    obtain ⟨p1,p2⟩:=(Bool.and_eq_true _ _).mp hx.1
    have p2:=of_decide_eq_true p2
    have s':=s.step k o
    obtain ⟨a',vs',ea',nb',hh',r'⟩:=BA s'.toSta e
    rw [ea] at ea';cases ea'
    refine ⟨a,vs',u,rfl,rfl,hh',by rw [r'.length];have:=BS;omega,l.nx _ _ _ _ _ (s'.setOwn i e ea (Reps.append r' (show Reps W.K M H' [y] [u] from ⟨u,[],rfl,ru.rep p1,rfl⟩))) (by rw [JQ nb];exact hx.2)⟩
theorem HX {i:Nat}{x:Str}{e:Expr}{npos apos cpos:Pos}(hK:X.K=W.K)(hN:X.N[i]?=some x)(hv:Vis X.env.scope x)(ha:CJA X W [e] dA)
 (h:PE X (.Call (.Attribute (.Name x npos) "append" apos) [e] [] cpos) (tBM X.K "list" GX (FI i) (cnA W dA))) (hs:swapsWith (.Call (.Attribute (.Name x npos) "append" apos) [e] [] cpos) none pos.line X.env=pure false:=by rfl) :
 CJS X W (.Expr (.Call (.Attribute (.Name x npos) "append" apos) [e] [] cpos) pos) (WD i dA):=⟨(FP (by rw [hK] at h;exact h) hs).mono J4y⟩
def UH (i:Nat)(de dk:DE3):DS3:=fun F ρ n=>match ρ[i]? with
 | some (some (.own ys))=>de ρ (fun x=>dk ρ fun k n=>(match k with|.int k=>plain x=true/\(ixN ys.length k).elim False fun j=>F.nx (ρ.set i (some (.own (ys.set j x)))) n|_=>False)) n
 | _=>False
theorem J1k {i:Nat}{dk:DE3}:∀ E σ H,sn3 W (UH i de dk) E σ H->WQ (cn W de) (J0o (FI i) (cn W dk) RB) E σ H:=fun E σ H hh=>hh.elim fun pn M b ρ F s l h=>by
 unfold UH at h
 split at h
 case h_2=>exact h.elim
 case h_1 ys e =>
  obtain ⟨a,vs,ea,nb,hh,r⟩:=BA s.toSta e
  refine ⟨pn,M,b,ρ,_,s.toSta,h,fun x v H1 hx rx k1 o1=>⟨.ref a,ea,pn,M,b,ρ,_,s.toSta.step k1 o1,hx,fun y u H2 hy ry k2 o2=>?_⟩⟩
  cases y<;>first|exact hy.elim|skip
  case int k =>
   cases (show _=_ from ry)
   have s':=(s.step k1 o1).step k2 o2
   obtain ⟨a',vs',ea',nb',hh',r'⟩:=BA s'.toSta e
   rw [ea] at ea';cases ea'
   obtain ⟨hp,hy⟩:=hy
   cases q:ixN ys.length k with
   | none=>rw [q] at hy;exact hy.elim
   | some j =>
     rw [q] at hy
     exact ⟨a,vs',k,j,rfl,rfl,hh',by rw [r'.length];exact q,l.nx _ _ _ _ _ (s'.setOwn i e ea (Reps.set ((rx.step s.bagM k2).rep hp) j r')) (by rw [JQ nb];exact hy)⟩
theorem J1q {i:Nat}{x:Str}{n:Expr}{dk:DE3}{npos tpos:Pos}(hN:X.N[i]?=some x)(hv:Vis X.env.scope x)(he:CJE X W e de)(hk:CJE X W n dk)(hg:PG X (.Subscript (.Name x npos) n tpos) (J0o (FI i) (cn W dk) RB))
 (hs:swapsWithSole [.Subscript (.Name x npos) n tpos] e pos.line X.env=pure false:=by rfl) (hw:swappedStores [.Subscript (.Name x npos) n tpos] e X.env=pure none:=by rfl)
 (h1:(assignEach [.Subscript (.Name x npos) n tpos] X.env).map (·.2)=[assign (.Subscript (.Name x npos) n tpos) X.env]:=by rfl):CJS X W (.Assign [.Subscript (.Name x npos) n tpos] e pos) (UH i de dk):=⟨(IY he.h hg hs hw h1).mono J1k⟩
inductive forI3 (gd:D->Ev->(Ev->Prop)->Prop)(db:DS3)(F:DEnds3)(items:List D)(ρ:Ev)(n0:Nat):Prop
 | mk (I:Nat->Ev->Om) (h0:I 0 ρ n0) (hs:∀ (i:Nat) x ρ n,items[i]?=some x->I i ρ n->gd x ρ fun ρ1=>db { F with nx:=I (i+1),ct:=I (i+1),bk:=F.nx } ρ1 n) (hd:∀ ρ n,I items.length ρ n->F.nx ρ n):forI3 gd db F items ρ n0
def J1y (gd:D->Ev->(Ev->Prop)->Prop)(di:DA3)(db:DS3):DS3:=fun F ρ=>di ρ fun items n=>forI3 gd db F items ρ n
theorem J4x {g:TG}{gd:D->Ev->(Ev->Prop)->Prop}{db:DS3}(hG:GD W g gd):∀ E σ H,sn3 W (J1y gd di db) E σ H->J7l (cnI W true di) g (sn3 W db) E σ H:=fun E σ H hh=>hh.elim fun pn M b ρ F s l h=>by
 refine ⟨pn,M,b,ρ,_,s.toSta,h,fun items J need H1 hx hp hI hn k1 o1=>?_⟩
 have s1:=s.step k1 o1
 have pins:∀ q∈need++pn,PinR W M b H1 q.1 q.2:=fun q hq=>(List.mem_append.mp hq).elim (fun z=>(hn q z).1.pin ((hn q z).2 rfl)) fun z=>s1.pin q z
 obtain ⟨I,i0,istep,idone⟩:=hx
 refine ⟨fun i m σ H=>m=items.length - i/\i<=items.length/\∃ M b ρ,StS W (need++pn) M b H σ ρ/\I i ρ (cnt b H),⟨items.length,by simp,Nat.zero_le _,M,b,ρ,⟨s1.toSta.pins pins,s1.dj,fun ys a hq=>(List.mem_append.mp hq).elim (fun z=>by have:=(hn _ z).2 rfl;cases this) fun z=>s1.lj ys a z⟩,i0⟩,?_⟩
 rintro i m σ2 H2 ⟨rfl,hi,M2,b2,ρ2,s2,q⟩
 have unp:∀ {M b ρ σ H},StS W (need++pn) M b H σ ρ->StS W pn M b H σ ρ:=fun s=>⟨s.toSta.pins fun q hq=>s.pin q (List.mem_append_right _ hq),s.dj,fun ys a hq=>s.lj ys a (List.mem_append_right _ hq)⟩
 obtain ⟨hgo,hstop⟩:=hI M2 b2 H2 s2.toHs fun q hq=>(s2.pin q (List.mem_append_left _ hq)).x
 by_cases hlt:i<items.length
 · have ei:items[i]?=some items[i]:=List.getElem?_eq_getElem hlt
   replace q:=istep i _ ρ2 _ ei q
   refine .inr ⟨(hgo i _ ei).1,fun σ' H'=>∃ M b ρ,StS W (need++pn) M b H' σ' ρ/\I (i+1) ρ (cnt b H'),fun σ' H' n=>⟨items.length - (i+1),by omega,rfl,hlt,n⟩,fun x H3 y=>?_⟩
   obtain ⟨S3,rx⟩:=(hgo i _ ei).2 x H3 y
   have o3:okB W.B b2 H3:=fun p e=>W.B.st p H2 H3 (s2.ok p e) fun o e'=>S3 p o e'
   have c3:cnt b2 H3=cnt b2 H2:=BL s2.ok (Kp.same S3)
   rw [<- c3] at q
   have s3:=s2.step (Kp.same S3) o3
   refine hG (need++pn) M2 b2 H3 σ2 ρ2 items[i] x _ _ s3.toSta rx (List.all_eq_true.mp hp _ (List.getElem_mem hlt)) q fun ρ1 σ1 h1 st4 ho=>?_
   exact ⟨need++pn,M2,b2,ρ1,{ F with nx:=I (i+1),ct:=I (i+1),bk:=F.nx },s3.of st4 ho,⟨fun M b ρ σ H s' h'=>⟨M,b,ρ,s',h'⟩,l.rt,fun M b ρ σ H s' h'=>l.nx _ _ _ _ _ (unp s') h',fun M b ρ σ H s' h'=>⟨M,b,ρ,s',h'⟩,l.ro⟩,h1⟩
 · have e:i=items.length:=by omega
   subst e
   exact .inl ⟨hstop _ (Nat.le_refl _),l.nx _ _ _ _ _ (unp s2) (idone _ _ q)⟩
theorem HF {g:TG}{gd:D->Ev->(Ev->Prop)->Prop}{db:DS3}{body:List Stmt}(hG:GD W g gd)(hp:PassesOwn (model X.prog X.w) X.A X.env X.xe)(hc:X.calm=true)(hi:CJI X W true tg iter di)(hg:PG X tg g)(hb:CJSs X W body db)
 (hs:∀ x,foldedSetIterable iter X.env x=pure x:=by intro _;rfl):CJS X W (.For tg iter body [] pos) (J1y gd di db):=⟨(ZJ hp hc hi.h hg hb.h hs).mono (J4x hG)⟩
def J1x (i:Nat)(d:DS3):DS3:=fun F ρ n=>match ρ[i]? with|some (some (.own xs))=>d F (ρ.set i (some (.lst xs))) n|_=>False
theorem FF (i:Nat)(h:CJSs X W sts d1):CJSs X W sts (J1x i d1):=⟨h.h.mono fun E σ H hh=>hh.elim fun pn M b ρ F s l h=>by
 unfold J1x at h
 split at h
 case h_2=>exact h.elim
 case h_1 xs e =>
  obtain ⟨v,e1,a,us,rfl,m1,m2,m3,m4,hh,r⟩:=s.env i _ e
  have st:Sta W pn (fun c=>M c/\c≠a) b H σ (ρ.set i none):=by
   refine Sta.avoid (M:=M) ⟨s.toHs,s.kp,s.new,fun j d e'=>?_,by simp [s.len],s.pin⟩ (fun c m=>m.1) (fun p z=>⟨s.bagM p z,fun y=>m2 (by rw [<- y];exact z)⟩) (fun c m=>⟨s.m0 c m,fun y=>m4 (by rw [<- y];exact m)⟩) (fun j d' v' c' e' e2 mm=>?_) fun ys a' hq=>⟨by
    obtain ⟨a2,us2,ev,n1,_⟩:=(s.pin _ hq)
    cases ev;exact n1,fun y=>s.lk ys a' hq i xs e (by rw [y];exact e1)⟩
   · by_cases z:i=j
     · subst z;rw [List.getElem?_set] at e';simp at e'
     · rw [List.getElem?_set_ne z] at e';exact s.env j d e'
   · by_cases z:i=j
     · subst z;rw [List.getElem?_set] at e';simp at e'
     · rw [List.getElem?_set_ne z] at e'
       obtain ⟨v3,e3,r3⟩:=s.env j _ e'
       rw [e2] at e3;cases e3
       exact ⟨(r3.mine mm).1,fun y=>z (s.dj i j _ _ _ _ a e e' e1 e2 rfl (by rw [<- y];exact mm))⟩
  have st2:=st.set (x:=.lst xs) (v:=.ref a) i ⟨a,us,rfl,⟨fun m=>m.2 rfl,hh⟩,Reps.avoid (fun c m=>.inl m.1) _ _ r⟩
  have eσ:σ.set i (some (.ref a))=σ:=by
   apply List.ext_getElem?
   intro n
   by_cases z:i=n
   · subst z;rw [List.getElem?_set,e1];simp;exact (List.getElem?_eq_some_iff.mp e1).1
   · rw [List.getElem?_set_ne z]
  rw [eσ,List.set_set] at st2
  refine ⟨pn,_,b,_,F,s.of st2 fun j ys hm e'=>?_,l,h⟩
  by_cases z:i=j
  · subst z;rw [List.getElem?_set] at e';simp at e';rw [<- e'.2] at hm;cases hm
  · rw [List.getElem?_set_ne z] at e';exact ⟨e',rfl⟩⟩
def QP (K:Fg)(B:BagT)(pre:List D->Prop):Sp:=fun vs H Q _=>∃ (M:Addr->Prop) (b:Option Addr) (ds:List D),RepAs K M b H ds vs/\pre ds/\∀ p H1,H p=none->Same H H1->B.ok p H1->GO p H1=0->Q (.ref p) H1
def Q2j (i:Nat)(pre:List D->Prop)(dA:DA3):DS3:=fun F ρ=>dA ρ fun ds _=>ds.all AH=true/\pre ds/\F.nx ((AT ρ).set i (some .bag)) 0
theorem J5e {spos:Pos}{x f:Str}{k:Nat}{ps:List Str}{pre:List D->Prop}{i:Nat}{pos':Pos}(hb0:W.b0=none)(hN:X.N.Nodup)(hi:X.N[i]?=some x)(hx:Loc X.env.scope x)(G:Callee X.prog X.w X.K X.mg X.base CX0 f k ps (QP W.K W.B pre))(hr:Room k X.A)(hg:Gl X f)(ha:CJA X W (e::es) dA)
 (hdb:(f==("__debug__" : Str))=false:=by decide) (he:starEach (e::es) X.env=(false,eval e X.env)::starEach es X.env:=by rfl) (hpl:(backTo pos (starEach es X.env)).any (·.1)=false:=by rfl)
 (hs:swapsWith (.Call (.Name f p) (e::es) [] pos) (some (.Name x pos')) spos.line X.env=pure false:=by rfl) (hf:X.fn x=true\/X.env.scope.names.lookup x=some .local:=by first|exact .inl rfl|exact .inr rfl|assumption) :
 CJS X W (.Assign [.Name x pos'] (.Call (.Name f p) (e::es) [] pos) spos) (Q2j i pre dA):=⟨(BR hN hi hx (LX G hr hg ha.h hdb he hpl) hs hf).mono fun E σ H hh=>hh.elim fun pn M b ρ F s l h=>by
 refine ⟨pn,M,b,ρ,_,s.toSta,h,fun ds vs H' hx rx k o=>?_⟩
 have s1:=s.step k o
 refine ⟨M,b,ds,by rw [List.append_nil];exact rx.args _ _ hx.1,hx.2.1,fun q H1 hq S ok c0=>?_⟩
 have rep:∀ d v,Rep W.K M H' d v->Rep W.K (fun c=>M c\/c=q) H1 d v:=fun d v r=>Rep.keep (fun c o _ e=>S c o e) _ _ (Rep.avoid (fun c hc=>hc.imp id fun z=>by rw [z];exact hq) _ _ r)
 have reps:∀ d v,Reps W.K M H' d v->Reps W.K (fun c=>M c\/c=q) H1 d v:=fun d v r=>Reps.keep (fun c o _ e=>S c o e) _ _ (Reps.avoid (fun c hc=>hc.imp id fun z=>by rw [z];exact hq) _ _ r)
 have h0:W.H0 q=none:=by
  cases z:W.H0 q with
  | none=>rfl
  | some o =>
    have:=s1.kp q o (by rw [hb0];intro y;cases y) z
    rw [hq] at this;cases this
 have st1:Sta W pn (fun c=>M c\/c=q) (some q) H1 σ (AT ρ):=by
  refine ⟨⟨fun p e=>by cases e;exact ok,fun p e=>by cases e;exact .inr rfl,fun c hc=>?_,fun c m=>.inl (s1.m0 c m)⟩,fun c o n e=>S c o (s1.kp c o n e),.inr ⟨hb0,fun p e=>by cases e;exact h0⟩,fun j d e=>?_,by simp [AT,s.len],fun q' hq'=>(s1.pin q' hq').to rep reps fun xs a vs _ _ m n hh=>⟨.inl m,(fun z=>by cases z;rw [hq] at hh;cases hh),S _ _ hh⟩⟩
  · rcases hc with hc|hc
    · obtain ⟨o,e⟩:=s1.dom c hc;exact ⟨o,S c o e⟩
    · rw [hc];exact W.B.dm q H1 ok
  · obtain ⟨e1,nb⟩:=AX e
    obtain ⟨v,e2,r⟩:=s1.env j d e1
    refine ⟨v,e2,?_⟩
    cases d
    case own xs =>
     obtain ⟨a,us,rfl,m1,m2,m3,m4,hh,r'⟩:=r
     have nq:some q≠some a:=fun z=>by
      cases z
      rw [hq] at hh
      cases hh
     exact ⟨a,us,rfl,.inl m1,nq,m3,m4,S _ _ hh,reps _ _ r'⟩
    case bag=>exact absurd rfl nb
    case frg f _=>exact RepX.move r (fun c _ m n=>⟨.inl m,fun z=>by cases z;exact s1.toHs.new hq m⟩) (fun c o _ e=>S c o e) fun c hc=>hc.imp id fun z=>by rw [z];exact hq
    all_goals exact rep _ _ r
 refine l.nx _ _ _ _ _ (s1.of (st1.set (x:=.bag) (v:=.ref q) i ⟨q,rfl,rfl⟩) fun j xs hm e=>?_) (by show F.nx _ (GO q H1);rw [c0];exact hx.2.2)
 by_cases z:i=j
 · subst z
   rw [List.getElem?_set] at e
   simp at e
   rw [<- e.2] at hm;cases hm
 · rw [List.getElem?_set_ne z] at e
   exact ⟨(AX e).1,by rw [List.getElem?_set_ne z]⟩⟩
end
theorem J0r {B:BagT} {N:List Str}{ds:List D}{vs:List V}{H:Hp}{Q:VK}{P:D->Om}{d:DS3}(hr:RepAs K M b H ds vs)(ho:okB B b H)(hb:∀ p,b=some p->M p)(hd:∀ c,M c->∃ o,H c=some o)(hq:∀ d v H' n,P d n->(∀ p,b=some p->n=cnt b H')->Rep K M H' d v->Kp b H H'->okB B b H'->Q v H')
 (h:d { nx:=fun _=>P .non,rt:=P } (BQ N ds) (cnt b H)):sn3 ⟨K,B,H,M,b⟩ d { nx:=fun _ H'=>Q .non H',rt:=Q } (EC N vs) H :=
 ⟨[],M,b,BQ N ds,{ nx:=fun _=>P .non,rt:=P },J0s hr ho hb hd,⟨fun M b ρ σ H s h=>hq .non .non _ _ h s.cnt0 rfl s.kp s.ok0,fun d v H n h c r k o=>hq d v H n h c r k o,fun _ _ _ _ _ _ h=>h.elim,fun _ _ _ _ _ _ h=>h.elim,fun _ _ _ _ _ h=>h.elim⟩,h⟩
theorem AG.len {B:BagT}{S:MV}{m:Nat}(h:∀ ds P n,S ds P n->ds.length=m):∀ vs H Q E,AG K B S vs H Q E->vs.length=m:=fun vs H Q E ⟨M,b,ds,P,hS,hr,_⟩=>by rw [hr.length];exact h _ _ _ hS
theorem Fun.okC {P:Program}{w:World} {mg:Str->Option Value}{base:Heap}{x qual:Str}{st:Stmt}{f:Addr} {N ps:List Str}{k:Nat}{B:BagT}{Sd:MV}(F:Fun K x qual st f fd)(S:FnScope N ps (J5 st))(len:∀ ds PP n,Sd ds PP n->ds.length=ps.length/\D.bag∈ds)
 (hbody:∀ (cdv:Value) (A:Around) (outer:List Env) (s:Shared) (H:Hp) (E:XK) (M:Addr->Prop) (bg:Option Addr) (ds:List D) (PP:D->Om) (n:Nat),Room k (A.deeper (envOfC qual (J5 st) s.heap.objs.size f cdv))->Sd ds PP n ->
  ∃ d,CJSs (CI CX0 P w K mg base N qual (J5 st) f cdv A outer s H E).nox ⟨K,B,H,M,bg⟩ (BP st) d/\d { nx:=fun _=>PP .non,rt:=PP } (BQ N ds) n):FnOk P w K mg base CX0 (k+1) f fd ps (AG K B Sd) :=
 F.ok S (AG.len fun ds PP n h=>(len ds PP n h).1) fun cdv A outer s H vs Q E hr h=>by
  obtain ⟨M,bg,ds,PP,hS,hR,ho,hb,hd,hq⟩:=h
  obtain ⟨d,J,q⟩:=hbody cdv A outer s H E M bg ds PP _ hr hS
  have hbg:∃ p,bg=some p:=by
   have hm:=(len ds PP _ hS).2
   obtain ⟨i,hi,ei⟩:=List.getElem_of_mem hm
   obtain ⟨v,_,r⟩:=hR.get (i:=i) (d:=.bag) (by rw [List.getElem?_eq_getElem hi,ei])
   obtain ⟨p,e,_⟩:=r
   exact ⟨p,e⟩
  obtain ⟨p,ep⟩:=hbg
  exact ⟨_,J.h,J0r hR ho hb hd (fun d v H' n hP hc r k o=>hq d v H' (by rw [<- hc p ep];exact hP) r k o) q⟩
theorem Fun.okLC {P:Program}{w:World} {mg:Str->Option Value}{base:Heap}{x qual:Str}{st:Stmt}{f:Addr} {N:List Str}{p:Str}{k:Nat}(B:BagT)(F:Fun K x qual st f fd)(S:FnScope N [p] (J5 st))
 (hbody:∀ (cdv:Value) (A:Around) (outer:List Env) (s:Shared) (H:Hp) (E:XK) (ns:List Int),Room k (A.deeper (envOfC qual (J5 st) s.heap.objs.size f cdv))->ns.length<=63 ->
  ∃ d,CJSs (CI CX0 P w K mg base N qual (J5 st) f cdv A outer s H E).nox ⟨K,B,H,fun _=>False,none⟩ (BP st) d/\d { nx:=fun _ _=>D.non=.bl true,rt:=fun d _=>d=.bl true } (BQ N [.scr ns]) 0) :
 FnOk P w K mg base CX0 (k+1) f fd [p] (fun vs H Q _=>∃ (a:Addr) (ns:List Int),vs=[.ref a]/\SqL K H a (ns.map V.int)/\ns.length<=63/\∀ H',Q (.bl true) H') :=
 F.ok S (fun vs H Q E h=>by obtain ⟨a,ns,rfl,_⟩:=h;rfl) fun cdv A outer s H vs Q E hr h=>by
  obtain ⟨a,ns,rfl,hS,hlen,k⟩:=h
  have hR:RepAs K (fun _=>False) none H [.scr ns] [.ref a]:=⟨.ref a,[],rfl,⟨a,rfl,hS.imp (fun q=>⟨id,q⟩) id⟩,rfl⟩
  obtain ⟨d,J,q⟩:=hbody cdv A outer s H E ns hr hlen
  exact ⟨_,J.h,J0r (P:=fun d _=>d=.bl true) hR (fun p e=>by cases e) (fun p e=>by cases e) (fun c m=>m.elim) (fun d v H' n hd _ r _ _=>by cases hd;cases (show _=_ from r);exact k H') q⟩
abbrev Q3t:=List D->(List D->Om)->Om
section
variable {X:Cx}{W:Wd}{tg a b:Expr}{pos p:Pos}{dA:DA3}{fz:Bool}
def J1v (dA:DA3):DA3:=fun ρ P=>dA ρ fun xs n=>match xs with
 | [.int i]=>(-(2 ^ 62)<=i/\i<2 ^ 62)/\P (CF 0 i.toNat) n
 | _=>False
theorem UC (hg:Gl X "range") (hm:X.mg "range" = none) (ha:CJA X W [a] dA) (hs:starEach [a] X.env=[(false,eval a X.env)]:=by rfl):CJI X W fz tg (.Call (.Name "range" p) [a] [] pos) (J1v dA):=⟨(NQ hg hm ha.h hs).mono fun σ H R hh=>hh.elim fun pn M b ρ P st h k=>by
 refine ⟨pn,M,b,ρ,_,st,h,fun xs vs H1 hx rx k1 o1=>?_⟩
 match xs,hx with
 | [.int i],hx =>
   obtain ⟨v1,r1,rfl,e1,rfl⟩:=rx
   cases (show _=_ from e1)
   exact ⟨i,rfl,hx.1.1,hx.1.2,k _ _ _ H1 hx.2 (IF _ _) RQ (fun q hq=>by cases hq) k1 o1⟩⟩
end
def J4d (k:Nat)(y:Value)(xs:Array Value):Array Value:=(xs.extract 0 (min k xs.size)).push y++xs.extract (min k xs.size)
theorem PK (l:Addr)(items:Array Value)(n:Nat)(k:Nat)(u:Tok)(y:Value)(hc0:¬(!Builtin.List.listFitsIndex (k:Int))=true)(hs1:items.size<=sizeLine) :
 Meets (Builtin.«list.insert» ⟨[.ref l,.int k u,y],[]⟩) (fun _ R s=>s.heap.get? l=some { cls:=.type "list",dict:=none,data:=.seq items n,slots:=#[] }/\R (.ok (.ret Value.none)) { s with heap:=s.heap.update l (Obj.mapSeq (J4d k y)),toks:=s.toks }):=by
 have e:(fun xs:Array Value=>have j:=if (k:Int)<0 then ((k:Int)+(xs.size:Int)).toNat else min (k:Int).toNat xs.size;(xs.extract 0 j).push y++xs.extract j)=J4d k y:=by
  funext xs
  show ((xs.extract 0 (if (k:Int)<0 then ((k:Int)+(xs.size:Int)).toNat else min (k:Int).toNat xs.size)).push y++xs.extract (if (k:Int)<0 then ((k:Int)+(xs.size:Int)).toNat else min (k:Int).toNat xs.size))=_
  rw [if_neg (by omega),Int.toNat_natCast]
  rfl
 rw [<- e]
 exact @AutoSeq1.list_insert_list_int_val_1 l items n (k:Int) u y hc0 hs1
theorem XN (k:Nat)(u:Value)(its:List Value)(h:k<=its.length):J4d k u its.toArray=(its.take k++u::its.drop k).toArray:=by
 unfold J4d
 rw [List.size_toArray,Nat.min_eq_left h]
 apply Array.ext'
 simp
 exact List.take_of_length_le (by rw [List.length_drop];exact Nat.le_refl _)
section
variable {X:Cx}{W:Wd}{e e1 e2:Expr}{pos:Pos}{dA:DA}{x:Str}{k:Nat}
def ON:V->List V->Hp->VK->Prop:=fun x vs H Q=>∃ (l:Addr) (xs:List V) (k:Nat) (y:V),x=.ref l/\vs=[.int k,y]/\H l=some (.lst xs)/\k<=xs.length/\xs.length<1000/\Q .non (upd H l (.lst (xs.take k++y::xs.drop k)))
theorem XB:MtM X "list.insert" ON:=by
 intro pins s σ H x vs v us Q I rx rv h
 obtain ⟨l,xs,k,y,rfl,rfl,hH,hk,hz,q⟩:=h
 cases rx
 obtain ⟨u1,u,rfl,r1,ru⟩:=LL rv
 obtain ⟨t,rfl⟩:=r1
 obtain ⟨z,its,n,r,hl,e⟩:=I.lstM hH
 have hf:=fitsIndex_both (k:=(k:Int)) (by omega) (by omega)
 have hfit:¬(!Builtin.List.listFitsIndex (k:Int))=true:=by rw [show Builtin.List.listFitsIndex (k:Int)=true from hf];decide
 have hs1000:=BS
 have hsz:its.toArray.size<=sizeLine:=by rw [List.size_toArray];omega
 have hm:=@PK l its.toArray n k t u hfit hsz
 refine call_meets F.slot_list_insert ⟨_,e,rfl⟩ F.entry_list_insert (F.args_list_insert_3 _ _ _) @hm ⟨e,?_⟩
 refine ⟨.non,_,I.lset (its':=its.take k++u::its.drop k) hH e ?_ ((r.take k).append (.cons ru (r.drop k))) ?_,rfl,q⟩
 · exact XN k u its (by omega)
 · rw [List.length_append,List.length_cons,List.length_take,List.length_drop]
   omega
def J9n (i:Nat)(dA:DA):DS:=fun F ρ=>match ρ[i]? with
 | some (some (.own ys))=>dA ρ fun xs=>(match xs with | [.int k,y]=>(plain y=true/\0<=k/\k<=ys.length/\ys.length<1000)/\F.nx (ρ.set i (some (.own (ys.take k.toNat++y::ys.drop k.toNat))))|_=>False)
 | _=>False
theorem J7a {i:Nat}:∀ E σ H,sn W (J9n i dA) E σ H->QV (tBM W.K "list" ON (FI i) (dnA W dA)) E σ H:=fun E σ H hh=>hh.elim fun pn M b ρ F s l h=>by
 unfold J9n at h
 split at h
 case h_2=>exact h.elim
 case h_1 ys e =>
  obtain ⟨a,vs,ea,nb,hh,r⟩:=BA s.toSta e
  refine ⟨.ref a,ea,.inl ⟨rfl,vs,SqL.of hh⟩,pn,M,b,ρ,_,s.toSta,h,fun xs us H' hx rx k o=>?_⟩
  match xs,hx with
  | [.int n,y],hx =>
    obtain ⟨v1,u,rfl,r1,ru⟩:=rx2 rx
    cases (show _=_ from r1)
    obtain ⟨⟨p1,n0,n1,n2⟩,hx⟩:=hx
    have s':=s.step k o
    obtain ⟨a',vs',ea',nb',hh',r'⟩:=BA s'.toSta e
    rw [ea] at ea';cases ea'
    have hlen:=r'.length
    refine ⟨a,vs',n.toNat,u,rfl,by rw [show ((n.toNat:Nat):Int)=n by omega],hh',by omega,by omega,l.nx _ _ _ _ _ (s'.setOwn i e ea (Reps.append (Reps.take n.toNat r') (show Reps W.K M H' (y::ys.drop n.toNat) (u::vs'.drop n.toNat) from ⟨u,_,rfl,ru.rep p1,Reps.drop n.toNat r'⟩))) hx⟩
theorem TV {i:Nat}{y:Str}{npos apos cpos:Pos}(hK:X.K=W.K)(ha:JA X W [e1,e2] dA)
 (h:PE X (.Call (.Attribute (.Name y npos) "insert" apos) [e1,e2] [] cpos) (tBM X.K "list" ON (FI i) (dnA W dA))) (hs:swapsWith (.Call (.Attribute (.Name y npos) "insert" apos) [e1,e2] [] cpos) none pos.line X.env=pure false:=by rfl) :
 JS X W (.Expr (.Call (.Attribute (.Name y npos) "insert" apos) [e1,e2] [] cpos) pos) (J9n i dA):=⟨(FP (by rw [hK] at h;exact h) hs).mono J7a⟩
end
def RowsR (K:Fg)(M:Addr->Prop)(H:Hp):List Addr->List (List D)->Prop
 | [],rows=>rows=[]
 | r::rs,rows=>∃ row rest us,rows=row::rest/\H r=some (.lst us)/\Reps K M H row us/\RowsR K M H rs rest
section
variable {K:Fg}{M:Addr->Prop}{H:Hp}
theorem RowsR.length:∀ {rs:List Addr} {rows:List (List D)},RowsR K M H rs rows->rows.length=rs.length
 | [],_,h=>by rw [show _=[] from h];rfl
 | r::rs,rows,h=>by
   obtain ⟨row,rest,us,rfl,h1,h2,h3⟩:=h
   simp [RowsR.length h3]
theorem RowsR.lst:∀ {rs:List Addr} {rows:List (List D)},RowsR K M H rs rows->∀ r∈rs,∃ us,H r=some (.lst us)
 | [],_,_,r,m=>by cases m
 | r::rs,rows,h,r',m=>by
   obtain ⟨row,rest,us,rfl,h1,h2,h3⟩:=h
   rcases List.mem_cons.mp m with z|z
   · rw [z];exact ⟨us,h1⟩
   · exact RowsR.lst h3 r' z
theorem RowsR.at:∀ {rs:List Addr} {rows:List (List D)} {k:Nat} {r:Addr},RowsR K M H rs rows->rs[k]?=some r->∃ row us,rows[k]?=some row/\H r=some (.lst us)/\Reps K M H row us
 | [],_,_,_,_,e=>by simp at e
 | _::rs,rows,0,r,h,e=>by
   obtain ⟨row,rest,us,rfl,h1,h2,h3⟩:=h
   simp at e;subst e
   exact ⟨row,us,rfl,h1,h2⟩
 | _::rs,rows,k+1,r,h,e=>by
   obtain ⟨row,rest,us,rfl,h1,h2,h3⟩:=h
   obtain ⟨row',us',e1,e2⟩:=RowsR.at (k:=k) h3 (by simpa using e)
   exact ⟨row',us',by simpa using e1,e2⟩
end
def dnF (W:Wd)(d:DA):TE:=fun σ H Q=>∃ pn M b ρ P,Sta W pn M b H σ ρ/\d ρ P/\∀ xs vs p H',P xs->H p=none->H' p=some (.lst vs)->Reps W.K (fun c=>M c\/c=p) H' xs vs->Kp b H H'->okB W.B b H'->Q (.ref p) H'
structure JF (X:Cx)(W:Wd)(e:Expr)(d:DA):Prop where
 h:PE X e (dnF W d)
theorem J2v {B:BagT} {H H':Hp}{p:Addr}(k:Kp b H H')(o:okB B b H')(h:H' p=none):H p=none:=by
 cases q:H p with
 | none=>rfl
 | some u =>
   by_cases z:b=some p
   · obtain ⟨w,e⟩:=B.dm p H' (o p z)
     rw [h] at e;cases e
   · have:=k p u z q
     rw [h] at this;cases this
abbrev DSG:=List D->(List (List D)->Prop)->(Addr->Prop)->Prop
section
variable {X:Cx}{W:Wd}{e a b l:Expr}{es:List Expr}{pos p:Pos}{dA:DA}{x:Str}{k:Nat}{ps:List Str}{S:DSG}{So:DSO}
def J9x (i:Nat)(S:DSO)(dA:DA):DS3:=fun F ρ n=>dA (AT ρ) fun ds=>ds.all L2.plain=true/\S ds (fun ys=>F.nx (ρ.set i (some (.own ys))) n) (fun _=>False)
theorem J1p {i:Nat}{y:Str}{pos' cpos:Pos}(hN:X.N.Nodup)(hi:X.N[i]?=some y)(hx:Loc X.env.scope y)(G:Callee X.prog X.w X.K X.mg X.base CX0 x k ps (CP W.K W.B So))(hr:Room k X.A)(hg:Gl X x)(ha:∀ H0,JA X (Wn W H0) (e::es) dA)
 (hs:swapsWith (.Call (.Name x p) (e::es) [] cpos) (some (.Name y pos')) pos.line X.env=pure false:=by rfl) (hf:X.fn y=true\/X.env.scope.names.lookup y=some .local:=by first|exact .inl rfl|exact .inr rfl|assumption)
 (hdb:(x==("__debug__" : Str))=false:=by decide) (he:starEach (e::es) X.env=(false,eval e X.env)::starEach es X.env:=by rfl) (hpl:(backTo cpos (starEach es X.env)).any (·.1)=false:=by rfl) :
 CJS X W (.Assign [.Name y pos'] (.Call (.Name x p) (e::es) [] cpos) pos) (J9x i So dA):=⟨fun pins sh σ H E' I hh=>hh.elim fun pn M b ρ F s l h=>by
 refine BR hN hi hx (LX G hr hg ((ha (noH b W.H0)).h) hdb he hpl) hs hf pins sh σ H E' I ?_
 refine ⟨[],M,none,AT ρ,_,RL s.toSta,h,fun xs vs H1 hx rx k1 o1=>?_⟩
 have c1:=BL s.ok k1
 have ok1:=DK s.ok k1
 have s1:=s.step (GT k1) ok1
 refine ⟨M,none,xs,_,fun _=>False,hx.2,?_,GG,fun p e=>(by cases e),s1.dom,fun ys a us H' hp h0 hh r k2 o2=>l.nx _ _ _ _ _ (s1.gotOwn2 i (GT k2) (DK ok1 k2) h0 hh r) (by rw [BL ok1 k2,c1];exact hp),fun C H' hC=>hC.elim⟩
 rw [List.append_nil];exact RepXs.asA (W:=Wn W (noH b W.H0)) _ _ rx hx.1⟩
end
theorem MQ {B:BagT}{H0:Hp}{M0:Addr->Prop}{b0:Option Addr}:DM ⟨K,B,H0,M0,b0⟩ (fun xs H Q=>∃ y c t b,xs=[y,.ty c]/\(TyOf K H y t\/∃ a vs,y=.ref a/\KTp K a vs/\t=.type "tuple")/\PySem.W.kitOne K t (.type c)=some b/\Q (.bl b) H) (J3v K):=Y8 (W:=⟨K,B,H0,M0,b0⟩)
def dF (K:Fg)(d:D):Frg where
 ads:=[]
 R:=fun M H v=>(∃ a,v=.ref a)/\Rep K M H d v
 keep:=fun M H H' v k h=>⟨h.1,Rep.keep (fun c o n e=>k c o (.inl n) e) _ _ h.2⟩
 avoid:=fun M M' H v k h=>⟨h.1,Rep.avoid k _ _ h.2⟩
 ref:=fun M H v h=>h.1
 nt:=fun M H v h c m=>by cases m
abbrev Q3s:=List D->(Frg->D->Om)->Om
def J0k:PyData->Option (List PyData)
 | .list ps=>some ps
 | .tuple ps=>some ps
 | _=>none
theorem J8g {ps:List PyData}{q:PyData}(h:q.canLay0=true)(e:J0k q=some ps):PyData.canLayAll0 ps=true:=by
 cases q<;>simp [J0k] at e
 all_goals
  subst e
  unfold PyData.canLay0 at h
  exact h
theorem LV:∀ ns:List Int,BE (ns.map D.int)=some (ns.map PyData.int)
 | []=>rfl
 | n::ns=>by rw [List.map_cons];unfold BE;rw [LV ns];rfl
structure Pc where
 (a:Addr) (f:Frg) (d:D)
abbrev Pc.g (p:Pc):D:=.frg p.f p.d
def Pc.at (p:Pc):Prop:=∀ M H v,p.f.R M H v->v=.ref p.a
def Q3j (ps:List Pc):List Addr:=ps.flatMap fun p=>p.f.ads
def J5v (ps ps':List Pc):Prop:=ps'.map (fun p=>(p.a,p.f.ads))=ps.map fun p=>(p.a,p.f.ads)
theorem J5v.get {ps ps':List Pc}{i:Nat}{p':Pc}(h:J5v ps ps')(e:ps'[i]?=some p'):∃ p,ps[i]?=some p/\p'.a=p.a/\p'.f.ads=p.f.ads:=by
 have q:=congrArg (fun l=>l[i]?) h
 simp only [List.getElem?_map,e,Option.map_some] at q
 obtain ⟨p,e1,e2⟩:=Option.map_eq_some_iff.mp q.symm
 simp only [Prod.mk.injEq] at e2
 exact ⟨p,e1,e2.1.symm,e2.2.symm⟩
abbrev DSU:=List Pc->List D->(List Pc->D->Prop)->Prop
section
variable {W:Wd}{pn:List (D×V)}{M:Addr->Prop}{b:Option Addr}{H:Hp}{σ:St}{ρ:Ev}{js:List Nat}{ps:List Pc}
def J5y (js:List Nat)(ps:List Pc)(ρ:Ev):Prop:=js.length=ps.length/\∀ (k:Nat) p,ps[k]?=some p->p.at/\∃ j,js[k]?=some j/\ρ[j]?=some (some p.g)
theorem J5y.ads (s:StS W pn M b H σ ρ)(h:J5y js ps ρ){c:Addr}(m:c∈Q3j ps):∃ (k j:Nat) (p:Pc),ps[k]?=some p/\js[k]?=some j/\ρ[j]?=some (some p.g)/\c∈p.f.ads/\σ[j]?=some (some (.ref p.a))/\RepX W M b H p.g (.ref p.a):=by
 obtain ⟨p,mp,mc⟩:=List.mem_flatMap.mp m
 obtain ⟨k,ek⟩:=List.getElem?_of_mem mp
 obtain ⟨pa,j,ej,er⟩:=h.2 k p ek
 obtain ⟨v,ev,r⟩:=s.env j _ er
 have hv:=pa _ _ _ r.2.1
 subst hv
 exact ⟨k,j,p,ek,ej,er,mc,ev,r⟩
end
section
theorem PQ {n j:Nat}(h:j<n):ixN n (j:Int)=some j:=by
 unfold ixN
 rw [if_pos (by omega)]
 simp;omega
end
def RawD (h:Heap)(d:Addr)(ds:Array DictEntry)(ep:Nat):Prop:=∃ o:Obj,h.get? d=some o/\o.ExactDict/\o.data=.dict ds ep
theorem J5a {gd:D->Ev->(Ev->Prop)->Prop}{dt:DT}{de:DE}{ρc:Ev}{items:List D}{P:List D->Prop}(f:D->D)(t:D->Bool)(hs:∀ x (Qf:Prop) (Q:D->Prop),x∈items->(t x=true->Q (f x))->(t x=false->Qf)->gd x ρc fun ρ1=>dt ρ1 fun c=>IfP c (de ρ1 Q) Qf)(hp:∀ x∈items,t x=true->plain (f x)=true)(hd:P ((items.filter t).map f)):compI gd dt de ρc items P:=by
 refine ⟨fun i acc=>acc=((items.take i).filter t).map f,by simp,fun i x acc e h=>?_,fun acc h=>?_⟩
 · have m:=List.mem_of_getElem? e
   refine hs x _ _ m (fun ht=>⟨hp x m ht,?_⟩) fun ht=>?_
   · rw [h,List.take_add_one,e,Option.toList_some,List.filter_append,List.map_append]
     simp [ht]
   · rw [h,List.take_add_one,e,Option.toList_some,List.filter_append,List.map_append]
     simp [ht]
 · rw [h,List.take_length];exact hd
section
theorem RawD.at {h h':Heap}{d:Addr}{ds:Array DictEntry}{ep:Nat}(x:RawD h d ds ep)(k:∀ o,h.get? d=some o->h'.get? d=some o):RawD h' d ds ep:=let ⟨o,e,q⟩:=x;⟨o,k o e,q⟩
end
abbrev DST:=List D->(List (List D)->Int->Prop)->(Addr->Prop)->Prop
theorem NJ:∀ {as:List Addr} {us:List Value},Vals (as.map V.ref) us->us=as.map Value.ref
 | [],us,r=>by cases r;rfl
 | a::as,us,r=>by
   cases r with
   | cons r1 r2 =>
     cases r1
     rw [NJ r2]
     rfl
theorem NP:∀ as:List Addr,Vals (as.map V.ref) (as.map Value.ref)
 | []=>.nil
 | a::as=>.cons rfl (NP as)
theorem IJ:∀ {ns:List Int} {us:List Value},Vals (ns.map V.int) us->IntsAre us ns
 | [],us,r=>by cases r;exact .nil
 | n::ns,us,r=>by
   cases r with
   | cons r1 r2 =>
     obtain ⟨t,rfl⟩:=r1
     exact .cons n t (IJ r2)
section
variable {prog:Program}{w:World}{A:Around}{E:Value->Shared->Prop}{s:Shared}
theorem QY {l:Addr}{vs:List Value}{m:Nat}{rows:Value->List Int}{Q:Value->Shared->Prop}(il:s.heap.IsList l vs.toArray)
 (ht:∀ v∈vs,TupZ s.heap v (rows v)) (hm:∀ v∈vs,(rows v).length=m/\∀ z∈rows v,BM z) (m0:0<m) (h64:vs.length<64)
 (h:∀ (out:Array Value) (L:Addr) (e:Nat) h',out.toList.Perm vs->out.toList.Pairwise (fun x y=>CH 0 (rows x)<=CH 0 (rows y))->h'.get? L=some (seqObj "list" out e)->s.heap.objs.size<=L->(∀ b o,s.heap.get? b=some o->h'.get? b=some o)->Q (.ref L) { s with heap:=h' }) :
 wpAny (model prog w) A (call (.builtin "sorted") [.ref l]) Q E s:=by
 refine Calls.call_function_entry kind_sorted plain_sorted entry_sorted (args_sorted1 _) ?_
 unfold Builtin.«sorted»
 refine wpAny_bind (m:=checkCount "sorted" 1 1 _) (wpAny_pure ?_)
 refine wpAny_bind (collect_list il ?_ (by rw [sizeLine_eq];omega))
 refine wpAny_bind (wpAny_newList ?_)
 have z1:((s.heap.push (seqObj "list" #[] 0)).update s.heap.objs.size (Obj.mapSeq (·++vs.toArray))).objs.size=s.heap.objs.size+1:=by
  rw [Heap.size_update,size_push']
 generalize hH:(s.heap.push (seqObj "list" #[] 0)).update s.heap.objs.size (Obj.mapSeq (·++vs.toArray))=H1 at z1
 have k1:∀ b o,s.heap.get? b=some o->H1.get? b=some o:=fun b o e=>by
  have hlt:b<s.heap.objs.size:=Heap.lt_size e
  rw [<- hH,Heap.get?_update_ne _ _ _ _ (Nat.ne_of_lt hlt),Heap.get?_push_ne _ _ _ (Nat.ne_of_lt hlt)]
  exact e
 have g2:(H1.push (seqObj "list" vs.toArray 0)).get? H1.objs.size=some (seqObj "list" vs.toArray 0):=Heap.get?_push_size _ rfl
 have t2:∀ v∈vs,TupZ (H1.push (seqObj "list" vs.toArray 0)) v (rows v):=fun v hv=>by
  obtain ⟨a,o,xs,n,e,g,c,d,i⟩:=ht v hv
  exact ⟨a,o,xs,n,e,Heap.get?_push_of_some _ (k1 a o g),c,d,i⟩
 refine wpAny_bind (wpAny_holding (wpAny_call_entry (s:={ s with heap:=H1.push (seqObj "list" vs.toArray 0) }) slot_list_sort ⟨_,g2,rfl⟩ entry_list_sort (MG g2 t2 hm m0 h64 fun out a1 a2=>⟨_,rfl,?_⟩) (args_list_sort _)))
 refine wpAny_pure ⟨_,rfl,?_⟩
 show Q (.ref H1.objs.size) { s with heap:=sortedHeap (H1.push (seqObj "list" vs.toArray 0)) H1.objs.size vs out }
 unfold sortedHeap
 obtain ⟨e1,q1⟩:∃ e1,((H1.push (seqObj "list" vs.toArray 0)).update H1.objs.size (Obj.mapSeq fun _=>#[])).get? H1.objs.size=some (seqObj "list" #[] e1):=⟨_,get?_update_seq g2 (fun _=>#[])⟩
 have q2:=Heap.get?_push_of_some (seqObj "list" #[] 0) (Heap.get?_push_of_some (seqObj "tuple" vs.toArray 0) q1)
 obtain ⟨e3,q3⟩:∃ e3,(((((H1.push (seqObj "list" vs.toArray 0)).update H1.objs.size (Obj.mapSeq fun _=>#[])).push (seqObj "tuple" vs.toArray 0)).push (seqObj "list" #[] 0)).update H1.objs.size (Obj.mapSeq fun _=>out)).get? H1.objs.size=some (seqObj "list" out e3):=⟨_,get?_update_seq q2 (fun _=>out)⟩
 refine h out H1.objs.size e3 _ a1 a2 q3 (by omega) fun b q e=>?_
 have bl:=Heap.lt_size e
 have nb:b≠H1.objs.size:=by
  intro z
  rw [z,z1] at bl
  exact Nat.lt_irrefl _ (Nat.lt_of_succ_lt bl)
 rw [Heap.get?_update_ne _ _ _ _ nb]
 refine Heap.get?_push_of_some _ (Heap.get?_push_of_some _ ?_)
 rw [Heap.get?_update_ne _ _ _ _ nb]
 exact Heap.get?_push_of_some _ (k1 b q e)
end
section
variable {X:Cx}
theorem QG (K:Fg)(hK:X.K=K)(hc:X.calm=true):AV X (.builtin "sorted") (fun xs H Q=>∃ (D:Addr) (ps:List (Addr×List Int)) (m:Nat),xs=[.ref D]/\SqL K H D (ps.map fun p=>V.ref p.1)/\(∀ p∈ps,SqT K H p.1 (p.2.map V.int)/\p.2.length=m/\∀ z∈p.2,BM z)/\0<m/\ps.length<64 /\
 ∀ (p:Addr) (qs:List (Addr×List Int)),H p=none->qs.Perm ps->qs.Pairwise (fun x y=>CH 0 x.2<=CH 0 y.2)->Q (.ref p) (upd H p (.lst (qs.map fun q=>V.ref q.1)))):=by
 subst hK
 intro pins s σ H xs us Q I r h
 obtain ⟨D,ps,m,rfl,hD,hr,m0,h64,q⟩:=h
 obtain ⟨u,rfl,rx⟩:=ET r
 cases rx
 obtain ⟨its,rv,pl,hz⟩:=I.list hD
 rw [show (ps.map fun p=>V.ref p.1)=(ps.map (·.1)).map V.ref by rw [List.map_map];rfl] at rv
 have e:=NJ rv
 subst e
 have hl:=pl.isList
 let row:Addr->List Int:=fun a=>match ps.find? (fun p=>p.1==a) with|some p=>p.2|none=>[]
 have rw_:∀ p∈ps,row p.1=p.2:=fun p hp=>by
  show (match ps.find? (fun q=>q.1==p.1) with|some p=>p.2|none=>[])=p.2
  cases f:ps.find? (fun q=>q.1==p.1) with
  | none=>exact absurd (List.find?_eq_none.mp f p hp) (by simp)
  | some p' =>
    have m1:=List.mem_of_find?_eq_some f
    have m2:p'.1=p.1:=by simpa using List.find?_some f
    have h1:=(hr p' m1).1
    rw [m2] at h1
    have:=I.tuple_inj h1 (hr p hp).1
    exact (List.map_inj_right (fun x y e=>by cases e;rfl)).mp this
 refine QY (rows:=fun v=>match v with|.ref a=>row a|_=>[]) hl (fun v hv=>?_) (fun v hv=>?_) m0 (by rw [List.length_map,List.length_map];exact h64) fun out L ep h' a1 a2 g zL k=>?_
 · obtain ⟨a,ha,rfl⟩:=List.mem_map.mp hv
   obtain ⟨p,hp,rfl⟩:=List.mem_map.mp ha
   obtain ⟨its,rv,⟨o,g,c,n,d⟩,_⟩:=I.tuple (hr p hp).1
   exact ⟨p.1,o,its.toArray,n,rfl,g,c,d,by show IntsAre _ (row p.1);rw [rw_ p hp];exact IJ rv⟩
 · obtain ⟨a,ha,rfl⟩:=List.mem_map.mp hv
   obtain ⟨p,hp,rfl⟩:=List.mem_map.mp ha
   show (row p.1).length=m/\∀ z∈row p.1,BM z
   rw [rw_ p hp]
   exact (hr p hp).2
 · obtain ⟨bs,eb⟩:∃ bs:List Addr,out.toList=bs.map Value.ref:=by
    have:∀ l:List Value,(∀ v∈l,∃ a,v=Value.ref a)->∃ bs:List Addr,l=bs.map Value.ref:=by
     intro l
     induction l with
     | nil=>exact fun _=>⟨[],rfl⟩
     | cons v l ih =>
       intro h
       obtain ⟨a,rfl⟩:=h v (List.mem_cons_self ..)
       obtain ⟨bs,rfl⟩:=ih fun v hv=>h v (List.mem_cons_of_mem _ hv)
       exact ⟨a::bs,rfl⟩
    refine this _ fun v hv=>?_
    obtain ⟨a,_,e⟩:=List.mem_map.mp (a1.mem_iff.mp hv)
    exact ⟨a,e.symm⟩
   have pb:bs.Perm (ps.map (·.1)):=by
    have:=a1
    rw [eb] at this
    have:=this.map (fun v=>match v with|Value.ref a=>a|_=>0)
    rw [List.map_map,List.map_map] at this
    simpa [Function.comp_def] using this
   have hL:H L=none:=I.hok.fresh zL
   have eq:(bs.map fun a=>(a,row a)).map (fun q=>V.ref q.1)=bs.map V.ref:=by
    rw [List.map_map];rfl
   have pq:(bs.map fun a=>(a,row a)).Perm ps:=by
    have:=pb.map fun a=>(a,row a)
    rw [List.map_map] at this
    have e:ps.map ((fun a=>(a,row a))∘fun x=>x.1)=ps:=by
     conv=>rhs;rw [<- List.map_id ps]
     exact List.map_congr_left fun p hp=>by show (p.1,row p.1)=p;rw [rw_ p hp]
    rwa [e] at this
   have J:=I.laid (a:=L) (o:=.lst (bs.map V.ref)) (t':=s.toks) (h':=h') k zL ⟨by rw [List.length_map,pb.length_eq,List.length_map,sizeLine_eq];omega,out.toList,ep,by rw [eb];exact NP bs,by simpa using g⟩
   have fin:=q L (bs.map fun a=>(a,row a)) hL pq (by
    rw [eb,List.pairwise_map] at a2
    rw [List.pairwise_map]
    exact a2)
   rw [eq] at fin
   exact ⟨.ref L,_,J,rfl,fin⟩
end
def AF (r:List Int):D:=.tup (r.map D.int)
theorem NO {H:Hp}:∀ {rows:List (List Int)} {vs:List V},Reps K M H (rows.map AF) vs->∃ ps:List (Addr×List Int),vs=ps.map (fun p=>V.ref p.1)/\rows=ps.map (·.2)/\∀ p∈ps,Rep K M H (AF p.2) (.ref p.1)
 | [],vs,h=>⟨[],h,rfl,fun p hp=>by simp at hp⟩
 | r::rows,vs,h=>by
   obtain ⟨v,rest,rfl,h1,h2⟩:=h
   obtain ⟨ps,rfl,hl,hr⟩:=NO h2
   obtain ⟨a,us,rfl,h3⟩:=(show ∃ a us,v=V.ref a/\TpA K M H a us/\Reps K M H _ us from h1)
   refine ⟨(a,r)::ps,rfl,by rw [List.map_cons,<- hl],fun p hp=>?_⟩
   rcases List.mem_cons.mp hp with rfl|hp
   · exact h1
   · exact hr p hp
theorem NM {H:Hp}:∀ {qs:List (Addr×List Int)},(∀ q∈qs,Rep K M H (AF q.2) (.ref q.1))->Reps K M H ((qs.map (·.2)).map AF) (qs.map fun q=>V.ref q.1)
 | [],_=>rfl
 | q::qs,h=>⟨.ref q.1,qs.map fun q=>V.ref q.1,rfl,h q (List.mem_cons_self ..),NM fun x hx=>h x (List.mem_cons_of_mem _ hx)⟩
theorem J7s {H:Hp}{r:List Int}{a:Addr}(h:Rep K M H (AF r) (.ref a)):SqT K H a (r.map V.int):=by
 obtain ⟨a',us,e,h1,h2⟩:=(show ∃ a' us,V.ref a=V.ref a'/\TpA K M H a' us/\Reps K M H (r.map D.int) us from h)
 cases e
 rw [IX h2] at h1
 exact h1.sq
def Q0w (xs:List D)(P:List D->Prop):Prop:=∃ (rows:List (List Int)) (m:Nat),xs=rows.map AF/\0<m/\rows.length<64/\(∀ r∈rows,r.length=m/\∀ z∈r,BM z)/\∀ rows':List (List Int),rows'.Perm rows->rows'.Pairwise (fun x y=>CH 0 x<=CH 0 y)->P (rows'.map AF)
section
variable {X:Cx}{W:Wd}{a e:Expr}{dA:DA}
def YZ (K:Fg):List V->Hp->VK->Prop:=fun xs H Q=>∃ (D:Addr) (ps:List (Addr×List Int)) (m:Nat),xs=[.ref D]/\SqL K H D (ps.map fun p=>V.ref p.1)/\(∀ p∈ps,SqT K H p.1 (p.2.map V.int)/\p.2.length=m/\∀ z∈p.2,BM z)/\0<m/\ps.length<64 /\
 ∀ (p:Addr) (qs:List (Addr×List Int)),H p=none->qs.Perm ps->qs.Pairwise (fun x y=>CH 0 x.2<=CH 0 y.2)->Q (.ref p) (upd H p (.lst (qs.map fun q=>V.ref q.1)))
theorem MS (K:Fg)(hK:X.K=K)(hc:X.calm=true):AV X (.builtin "sorted") (YZ K):=QG K hK hc
def Q1x (da:DA):DA:=fun ρ P=>da ρ fun xs=>match xs with
 | [x]=>(asL x).elim False fun ys=>Q0w ys P
 | _=>False
theorem NV {lpos npos:Pos}(ha:JA X W [a] dA)(h:PE X (.Call (.Name "sorted" npos) [a] [] lpos) (tCB (YZ W.K) (dnA W dA))):JF X W (.Call (.Name "sorted" npos) [a] [] lpos) (Q1x dA):=⟨h.mono fun σ H Q hh=>by
 obtain ⟨pn,M,b,ρ,P,st,h,k⟩:=hh
 refine ⟨pn,M,b,ρ,_,st,h,fun xs vs H1 hx rx k1 o1=>?_⟩
 match xs,hx with
 | [x],hx =>
   obtain ⟨v,rfl,r⟩:=rx1 rx
   cases e1:asL x with
   | none=>simp only [e1] at hx;exact hx.elim
   | some ys =>
     simp only [e1] at hx
     obtain ⟨rows,m,rfl,m0,h64,hb,hP⟩:=hx
     obtain ⟨a1,us,rfl,h1,r1⟩:=asL.rep r e1
     obtain ⟨ps,rfl,rfl,hr⟩:=NO r1
     refine ⟨a1,ps,m,rfl,SqL.of h1,fun p hp=>⟨J7s (hr p hp),hb _ (List.mem_map.mpr ⟨p,hp,rfl⟩)⟩,m0,by rw [List.length_map] at h64;exact h64,fun p qs hp pq so=>?_⟩
     have rq:Reps W.K M H1 ((qs.map (·.2)).map AF) (qs.map fun q=>V.ref q.1):=NM fun q hq=>hr q (pq.mem_iff.mp hq)
     exact k _ _ p _ (hP (qs.map (·.2)) (pq.map _) (by rw [List.pairwise_map];exact so)) (J2v k1 o1 hp) AA (Reps.keep (fun c o _ e=>Same.upd hp c o e) _ _ (Reps.avoid (fun c z=>z.imp id fun y=>by rw [y];exact hp) _ _ rq)) (k1.trans (Kp.upd hp)) ((st.step k1 o1).toHs.okU hp)⟩
def Q2d (dF:DA):DE:=fun ρ P=>dF ρ fun xs=>P (.lst xs)
theorem VL (h:JF X W e dA):JE X W e (Q2d dA):=⟨h.h.mono fun σ H Q hh=>by
 obtain ⟨pn,M,b,ρ,P,st,h,k⟩:=hh
 refine ⟨pn,M,b,ρ,_,st,h,fun xs vs p H' hx n1 e1 r1 k1 o1=>?_⟩
 exact k _ _ H' hx ⟨p,vs,rfl,⟨st.toHs.new n1,e1⟩,Reps.avoid (fun c m=>.inl (.inl m)) _ _ r1⟩ k1 o1⟩
end
section
variable {d:Addr}{ds:Array DictEntry}{ep:Nat}
theorem RawD.frame {h h':Heap}(x:RawD h d ds ep)(k:∀ o,h.get? d=some o->h'.get? d=some o):RawD h' d ds ep:=by
 obtain ⟨o,e,q⟩:=x
 exact ⟨o,k o e,q⟩
end
def asc (z:Str):Prop:=∀ c∈z.cps.toList,c<128
section
variable {X:Cx}{W:Wd}{e o a b:Expr}{es:List Expr}{dA:DA}
theorem J9z:bootBuiltins "set" = some (.type "set"):=by decide +kernel
theorem J7i {s:Shared}{a:Addr}{its:List Value}(h:IsTup s.heap a its.toArray):s.heap.IsTuple a its.toArray:=h
def J5p (K:Fg):List V->Hp->VK->Prop:=fun xs H Q=>∃ (a:Addr) (ns:List Int),xs=[.ref a]/\SqT K H a (ns.map V.int)/\ns.length<=1000/\∀ (p:Addr) (S:Int->Bool),H p=none->Q (.ref p) (upd H p (.set S (met ns ns.length).length))
theorem YC (K:Fg)(hK:X.K=K)(hc:X.calm=true):AV X (.type "set") (J5p K):=by
 subst hK
 intro pins s σ H xs us Q I r h
 obtain ⟨a,ns,rfl,ha,hl,q⟩:=h
 obtain ⟨u,rfl,ru⟩:=ET r
 cases (show _=_ from ru)
 obtain ⟨its,rv,pt,_⟩:=I.tuple ha
 have el:its.length=ns.length:=by have:=rv.length;rw [List.length_map] at this;exact this.symm
 have sz:its.toArray.size=ns.length:=by rw [List.size_toArray];exact el
 refine QH (I.ok.hd hc) (J7i pt) (ns:=ns) (by simpa using UA rv) (by rw [sz];unfold scanBound;omega) fun h' tk full=>?_
 rw [sz] at full
 refine ⟨.ref s.heap.objs.size,_,I.laid (a:=s.heap.objs.size) (h':=h') (t':=tk) (o:=.set (fun x=>(met ns ns.length).any (·==x)) (met ns ns.length).length) (fun b o e=>full.2 b o (Heap.lt_size e) e) (Nat.le_refl _) full.1,rfl,q _ _ (I.hok.fresh (Nat.le_refl _))⟩
def UX:List V->Hp->VK->Prop:=fun xs H Q=>∃ (p:Addr) (S:Int->Bool) (n:Nat),xs=[.ref p]/\H p=some (.set S n)/\Q (.int n) H
theorem SN:AV X (.builtin "len") UX:=by
 intro pins s σ H xs us Q I r h
 obtain ⟨p,S,n,rfl,hp,q⟩:=h
 obtain ⟨u,rfl,ru⟩:=ET r
 cases (show _=_ from ru)
 obtain ⟨ob,es,ep,t,e1,e2,e3,_,_,e4,e5,rfl⟩:=I.hok p _ hp
 exact call_len_set e1 e2 e3 e5 (by unfold scanBound at e4;omega) ⟨.int es.size,H,I.tok _,⟨_,rfl⟩,q⟩
def J4w (dA:DA):DE:=fun ρ P=>dA ρ fun xs=>match xs with
 | [.tup ds]=>(DW ds).elim False fun ns=>ns.length<=1000/\P (.int (met ns ns.length).length)
 | _=>False
theorem TX (h:PE X e (tCB UX (J5n (tCB (J5p W.K) (dnA W dA)) Q0s))):JE X W e (J4w dA):=⟨h.mono fun σ H Q hh=>hh.elim fun pn M b ρ P st h k=>by
 refine ⟨pn,M,b,ρ,_,st,h,fun xs vs H1 hx rx k1 o1=>?_⟩
 match xs,hx with
 | [.tup ds],hx =>
   obtain ⟨v,rfl,r⟩:=rx1 rx
   obtain ⟨a,us,rfl,ha,rr⟩:=r
   have hx:(DW ds).elim False fun ns=>ns.length<=1000/\P (.int (met ns ns.length).length):=hx
   cases en:DW ds with
   | none=>rw [en] at hx;exact hx.elim
   | some ns =>
     rw [en] at hx
     have h7:ns.length<=1000/\P (.int (met ns ns.length).length):=hx
     cases DW.eq en
     cases rr.ints
     have st1:=st.step k1 o1
     refine ⟨a,ns,rfl,ha.sq,h7.1,fun p S hp=>?_⟩
     refine ⟨p,S,_,rfl,AA,k _ _ _ h7.2 (show _=_ from rfl) (k1.trans (Kp.upd hp)) (st1.toHs.okU hp)⟩⟩
theorem Q1k (a b c:Int):(met [a,b,c] 3).length=3↔(a≠b/\b≠c/\c≠a):=by
 show (step_dedup (step_dedup (step_dedup [] a) b) c).length=3↔_
 unfold step_dedup
 by_cases h1:a=b
 · subst h1
   by_cases h2:a=c
   · subst h2;simp
   · simp [h2]
 · by_cases h2:b=c
   · subst h2;simp [h1]
   · by_cases h3:c=a
     · subst h3;simp [h1]
     · have h3':¬ a=c:=fun z=>h3 z.symm
       simp [h1,h2,h3,h3']
end
section
variable {X:Cx}
theorem JR (K:Fg)(hK:X.K=K)(hc:X.calm=true):AV X (.builtin "min") (fun xs H Q=>∃ (p:Addr) (ns:List Int),xs=[.ref p]/\SqT K H p (ns.map V.int)/\0<ns.length/\∀ M:Int,M∈ns->(∀ a∈ns,M<=a)->Q (.int M) H):=by
 subst hK
 intro pins s σ H xs us Q I r h
 obtain ⟨p,ns,rfl,hq,hn,q⟩:=h
 obtain ⟨u,rfl,rx⟩:=ET r
 cases rx
 obtain ⟨its,rv,pl,hz⟩:=I.tuple hq
 obtain ⟨ps,e1,e2⟩:=HU rv
 subst e1
 have hlen:ps.length=ns.length:=by rw [<- e2,List.length_map]
 have hl:s.heap.IsTuple p _:=pl
 rw [<- FC] at hl
 refine TN (xs:=ps.toArray) (I.ok.hd hc) hl (by simp;omega) fun v h' tk hv k=>?_
 obtain ⟨t,e⟩:=intItems_at hv
 obtain ⟨b1,b2⟩:=argBest_lt (numAt ps.toArray) (ps.toArray.size - 1)
 subst e
 refine ⟨.int _,H,I.kept k,⟨t,rfl⟩,q _ ?_ ?_⟩
 · rw [DD,e2]
   have hj:argBest (fun i j=>decide (numAt ps.toArray i<numAt ps.toArray j)) (ps.toArray.size - 1)<ns.length:=by
    have:ps.toArray.size=ns.length:=by simp [hlen]
    omega
   rw [List.getElem?_eq_getElem hj]
   exact List.getElem_mem hj
 · intro a ha
   obtain ⟨j,hj,rfl⟩:=List.mem_iff_getElem.mp ha
   have:=b2 j (by simp;omega)
   rw [DD ps j,e2,List.getElem?_eq_getElem hj] at this
   exact this
end
abbrev Q3r:=List D->(Frg->D->Prop)->(Addr->Prop)->Prop
section
variable {W:Wd}{b c:Expr}{p:Pos}{k:Nat}
structure TpAt (W:Wd)(M:Addr->Prop)(b:Option Addr)(H:Hp)(v:V)(p:Addr)(rs:List Addr)(rows:List (List D)):Prop where
 ev:v=.ref p
 np:¬ M p
 hp:H p=some (.tup (rs.map V.ref))
 ho:∀ c∈rs,M c/\b≠some c/\W.H0 c=none/\¬ W.M0 c
 nd:rs.Nodup
 hr:RowsR W.K M H rs rows
theorem TpAt.get {b:Option Addr}{H:Hp}{v:V}{p:Addr}{rs:List Addr}{rows:List (List D)}{k:Nat}{row:List D}(t:TpAt W M b H v p rs rows)(er:rows[k]?=some row):∃ r us,rs[k]?=some r/\H r=some (.lst us)/\Reps W.K M H row us:=by
 have hk:k<rs.length:=by rw [<- t.hr.length];exact (List.getElem?_eq_some_iff.mp er).1
 obtain ⟨row',us,er',hh,rr⟩:=t.hr.at (List.getElem?_eq_getElem hk)
 rw [er] at er';cases er'
 exact ⟨_,us,List.getElem?_eq_getElem hk,hh,rr⟩
end
mutual
def wD:D->Nat
 | .non=>4
 | .bl _=>5
 | .int _=>1921
 | .str x=>(reprText x).length
 | .tup xs=>wDs xs+3
 | .lst xs=>wDs xs+3
 | _=>0
def wDs:List D->Nat
 | []=>0
 | d::ds=>wD d+2+wDs ds
end
mutual
def Y3:D->Bool
 | .non=>true
 | .bl _=>true
 | .int i=>decide (i.natAbs.log2<1920)
 | .str x=>PyData.strOk x
 | .tup xs=>HK xs
 | .lst xs=>HK xs
 | _=>false
def HK:List D->Bool
 | []=>true
 | d::ds=>Y3 d&&HK ds
end
mutual
theorem J5o:∀ (d:D) (p:PyData),Y3 d=true->Y9 d=some p->p.showable=true/\p.shown.length<=wD d
 | .non,p,_,e=>by cases e;exact ⟨rfl,by unfold wD;decide⟩
 | .bl b,p,_,e=>by cases e;exact ⟨by unfold PyData.showable;rfl,by unfold wD;cases b<;>decide⟩
 | .int i,p,h,e=>by
   cases e
   have h:i.natAbs.log2<1920:=by unfold Y3 at h;exact of_decide_eq_true h
   refine ⟨by unfold PyData.showable;exact decide_eq_true h,?_⟩
   unfold wD PyData.shown
   rw [PySem.ofString_length]
   exact int_text_length_le (k:=1920) (by decide) h
 | .str x,p,h,e=>by
   unfold Y9 at e
   split at e
   · cases e
     exact ⟨by unfold PyData.showable;rfl,by unfold wD PyData.shown;exact Nat.le_refl _⟩
   · cases e
 | .tup xs,p,h,e=>by
   unfold Y9 at e
   obtain ⟨ps,e2,rfl⟩:=Option.map_eq_some_iff.mp e
   obtain ⟨h1,h2⟩:=SX xs ps (by unfold Y3 at h;exact h) e2
   refine ⟨by unfold PyData.showable;exact h1,?_⟩
   unfold wD PyData.shown
   have:=tupleText_len_le (PyData.shownAll ps)
   omega
 | .lst xs,p,h,e=>by
   unfold Y9 at e
   obtain ⟨ps,e2,rfl⟩:=Option.map_eq_some_iff.mp e
   obtain ⟨h1,h2⟩:=SX xs ps (by unfold Y3 at h;exact h) e2
   refine ⟨by unfold PyData.showable;exact h1,?_⟩
   unfold wD PyData.shown
   have:=listText_len_le (PyData.shownAll ps)
   omega
 | .own _,p,h,e=>by unfold Y3 at h;cases h
 | .ty _,p,h,e=>by unfold Y3 at h;cases h
 | .adr _,p,h,e=>by unfold Y3 at h;cases h
 | .bag,p,h,e=>by unfold Y3 at h;cases h
 | .frg _ _,p,h,e=>by unfold Y3 at h;cases h
 | .scr _,p,h,e=>by unfold Y3 at h;cases h
 | .dct _ _ _,p,h,e=>by unfold Y3 at h;cases h
theorem SX:∀ (ds:List D) (ps:List PyData),HK ds=true->BE ds=some ps->PyData.showableAll ps=true/\((PyData.shownAll ps).map (·.length)).sum+2*(PyData.shownAll ps).length<=wDs ds
 | [],ps,_,e=>by cases e;exact ⟨rfl,by unfold wDs PyData.shownAll;exact Nat.le_refl _⟩
 | d::ds,ps,h,e=>by
   unfold BE at e
   obtain ⟨p,e1,e⟩:=Option.bind_eq_some_iff.mp e
   obtain ⟨qs,e2,rfl⟩:=Option.map_eq_some_iff.mp e
   unfold HK at h
   obtain ⟨h1,h2⟩:=(Bool.and_eq_true _ _).mp h
   obtain ⟨a1,a2⟩:=J5o d p h1 e1
   obtain ⟨b1,b2⟩:=SX ds qs h2 e2
   refine ⟨by unfold PyData.showableAll;rw [a1,b1];rfl,?_⟩
   unfold wDs PyData.shownAll
   simp only [List.map_cons,List.sum_cons,List.length_cons]
   omega
end
def J5q (K:Fg):List V->Hp->VK->Prop:=fun xs H Q=>∃ M d v p,xs=[v]/\Rep K M H d v/\Y9 d=some p/\p.depth<=60/\p.showable=true/\p.shown.length<=sizeLine/\Q (.str p.shown) H
theorem NX {X:Cx}(K:Fg)(hK:X.K=K)(hg:X.A.guards=some [])(hu:X.A.units+64<cLine):AV X (.builtin "repr") (J5q K):=by
 subst hK
 intro pins s σ H xs us Q I r h
 obtain ⟨M,d,v,p,rfl,hr,e,hd,hs,hl,q⟩:=h
 obtain ⟨u,rfl,r1⟩:=ET r
 obtain ⟨as,ra⟩:=GW I d v u p hr r1 e
 have hn:=PyData.hasDict_of_canLay p (Y9.lay d p e)
 have hsm:=PyData.noDict_hsm (as:=as) hn
 cases ra with
 | none=>exact PySem.P.repr_of_none ⟨.str _,H,I.tok _,⟨_,rfl⟩,q⟩
 | bool b =>
   refine PySem.P.repr_of_bool ⟨.str _,H,I.tok _,⟨_,rfl⟩,?_⟩
   exact q
 | int i t =>
   refine PySem.P.repr_of_int (by unfold PyData.showable at hs;exact of_decide_eq_true hs) ⟨.str _,H,I.tok _,⟨_,rfl⟩,?_⟩
   unfold PyData.shown at q;exact q
 | str x t =>
   refine PySem.P.repr_of_str ⟨.str _,H,I.tok _,⟨_,rfl⟩,?_⟩ (by unfold PyData.shown at hl;exact hl)
   unfold PyData.shown at q;exact q
 | list h1 h2 h3 h4=>exact repr_of_reads' (.list h1 h2 h3 h4) hs hsm hg (by omega) (fun _ _ z=>z) (fun h' u tk k=>⟨.str _,H,I.kept k,⟨_,rfl⟩,q⟩) hl
 | tuple h1 h2 h3 h4=>exact repr_of_reads' (.tuple h1 h2 h3 h4) hs hsm hg (by omega) (fun _ _ z=>z) (fun h' u tk k=>⟨.str _,H,I.kept k,⟨_,rfl⟩,q⟩) hl
 | dict h1 h2 h3 h4 h5=>simp [PyData.hasDict] at hn
def rpS (d:D):Str:=((Y9 d).map PyData.shown).getD Str.empty
inductive RpP (d:D)(P:D->Prop):Prop
 | mk (h:V6 60 d=true) (h2:Y3 d=true) (h3:wD d<=10000000) (hp:P (.str (rpS d))):RpP d P
def Q1e:List D->(D->Prop)->Prop
 | [d],P=>RpP d P
 | _,_=>False
theorem ZT {W:Wd} {H:Hp}{d:D}{v:V}(h:Y3 d=true)(r:RepX W M b H d v):Rep W.K M H d v:=by
 cases d<;>first|exact r|(unfold Y3 at h;cases h)
theorem WB {W:Wd}:DM W (J5q W.K) Q1e:=by
 intro M b H xs vs P Q hs rx ho k
 match xs,ho with
 | [d],ho =>
   obtain ⟨v,rfl,r⟩:=rx1 rx
   obtain ⟨h,h2,h3,hp⟩:=ho
   obtain ⟨p,e,hd,_⟩:=HE 60 d h
   obtain ⟨s1,s2⟩:=J5o d p h2 e
   refine ⟨M,d,v,p,rfl,ZT h2 r,e,hd,s1,Nat.le_trans s2 (Nat.le_trans h3 (by decide)),?_⟩
   have es:rpS d=p.shown:=by unfold rpS;rw [e];rfl
   exact k (.str p.shown) (.str p.shown) H (es▸hp) (show _=_ from rfl) (Kp.refl _ _) hs.ok
theorem WE:bootBuiltins "repr" = some (.builtin "repr"):=by decide +kernel
def Q3i (p:Addr)(xs:List V):Frg where
 ads:=[p]
 R:=fun M H v=>v=.ref p/\H p=some (.lst xs)
 keep:=fun M H H' v k h=>⟨h.1,k _ _ (.inr (by simp)) h.2⟩
 avoid:=fun M M' H v k h=>h
 ref:=fun M H v h=>⟨p,h.1⟩
 nt:=fun M H v h c m=>by
  obtain rfl:=List.mem_singleton.mp m
  exact ⟨_,h.2,fun vs=>by simp⟩
def J2e (p:Addr)(xs:List V):D:=.frg (Q3i p xs) (.adr p)
abbrev Wq (W:Wd)(H0:Hp)(M0:Addr->Prop):Wd:=⟨W.K,W.B,H0,M0,none⟩
section
variable {X:Cx}{W:Wd}{pn:List (D×V)}{M:Addr->Prop}{b:Option Addr}{H:Hp}{σ:St}{ρ:Ev}
theorem StS.toQ {p:Addr}{xs:List V}(s:StS W pn M (some p) H σ ρ){ib:Nat}(e:ρ[ib]?=some (some .bag))(hp:H p=some (.lst xs)) :
 StS (Wq W (noH (some p) W.H0) fun c=>W.M0 c/\c≠p) pn M none H σ ((AT ρ).set ib (some (J2e p xs))):=by
 obtain ⟨v0,ev0,p',ep,rfl⟩:=s.env ib _ e
 cases ep
 have Mp:=s.bagM p rfl
 have own:∀ {a:Addr},M a->(some p:Option Addr)≠some a->W.H0 a=none->¬ W.M0 a->M a/\(none:Option Addr)≠some a/\noH (some p) W.H0 a=none/\¬ (W.M0 a/\a≠p):=fun m n n0 m0=>⟨m,by simp,MF n0,fun z=>m0 z.1⟩
 have env1:∀ (i:Nat) d,(AT ρ)[i]?=some (some d)->∃ v,σ[i]?=some (some v)/\RepX W M (some p) H d v/\RepX (Wq W (noH (some p) W.H0) fun c=>W.M0 c/\c≠p) M none H d v:=fun i d e=>by
  obtain ⟨e1,nb⟩:=AX e
  obtain ⟨v,e2,r⟩:=s.env i d e1
  refine ⟨v,e2,r,?_⟩
  cases d
  case own xs =>
   obtain ⟨a,vs,rfl,m1,m2,m3,m4,hh,r'⟩:=r
   obtain ⟨q1,q2,q3,q4⟩:=own m1 m2 m3 m4
   exact ⟨a,vs,rfl,q1,q2,q3,q4,hh,r'⟩
  case bag=>exact absurd rfl nb
  case frg f _=>exact ⟨fun c m=>own (r.1 c m).1 (r.1 c m).2.1 (r.1 c m).2.2.1 (r.1 c m).2.2.2,r.2⟩
  all_goals exact r
 have slot:∀ (i:Nat) d,((AT ρ).set ib (some (J2e p xs)))[i]?=some (some d)->(i=ib/\d=J2e p xs)\/(i≠ib/\(AT ρ)[i]?=some (some d)):=fun i d e=>by
  by_cases z:ib=i
  · subst z
    rw [List.getElem?_set] at e
    simp at e
    exact .inl ⟨rfl,e.2.symm⟩
  · rw [List.getElem?_set_ne z] at e
    exact .inr ⟨fun y=>z y.symm,e⟩
 have nop:∀ (i:Nat) d v,(AT ρ)[i]?=some (some d)->σ[i]?=some (some v)->¬ EY d v p:=fun i d v e1 e2 m=>by
  obtain ⟨v',e3,r,_⟩:=env1 i d e1
  rw [e2] at e3;cases e3
  exact (r.mine m).2.1 rfl
 refine ⟨⟨⟨GG,fun q e=>(by cases e),s.dom,fun c m=>s.m0 c m.1⟩,fun c o _ e=>?_,.inl rfl,fun i d e'=>?_,by simp [AT,s.len],fun q hq=>?_⟩,fun i j d d2 v u c e1 e2 e3 e4 m1 m2=>?_,fun ys a hq i d v e1 e2 m=>?_⟩
 · have e:noH (some p) W.H0 c=some o:=e
   unfold noH at e
   split at e
   · cases e
   · rename_i nb
     refine s.kp c o (fun z=>?_) e
     rcases s.new with q|⟨q,_⟩
     · exact nb (q.trans z)
     · rw [q] at z;cases z
 · rcases slot i d e' with ⟨rfl,rfl⟩|⟨_,e1⟩
   · refine ⟨.ref p,ev0,fun c m=>?_,⟨rfl,hp⟩,rfl⟩
     obtain rfl:=List.mem_singleton.mp (show c∈[p] from m)
     exact ⟨Mp,by simp,by show noH (some c) W.H0 c=none;unfold noH;rw [if_pos rfl],fun z=>z.2 rfl⟩
   · obtain ⟨v,e2,_,r⟩:=env1 i d e1
     exact ⟨v,e2,r⟩
 · have q0:=s.pin q hq
   obtain ⟨d,v⟩:=q
   cases d
   case own xs =>
    obtain ⟨a,vs,rfl,m1,m2,m3,m4,hh,r'⟩:=q0
    obtain ⟨q1,q2,q3,q4⟩:=own m1 m2 m3 m4
    exact ⟨a,vs,rfl,q1,q2,q3,q4,hh,r'⟩
   all_goals exact q0
 · rcases slot i d e1 with ⟨rfl,rfl⟩|⟨z1,e1'⟩<;>rcases slot j d2 e2 with ⟨rfl,rfl⟩|⟨z2,e2'⟩
   · rfl
   · obtain rfl:=List.mem_singleton.mp (show c∈[p] from m1)
     exact absurd m2 (nop j d2 u e2' e4)
   · obtain rfl:=List.mem_singleton.mp (show c∈[p] from m2)
     exact absurd m1 (nop i d v e1' e3)
   · exact s.dj i j d d2 v u c (AX e1').1 (AX e2').1 e3 e4 m1 m2
 · rcases slot i d e1 with ⟨rfl,rfl⟩|⟨z1,e1'⟩
   · obtain rfl:=List.mem_singleton.mp (show a∈[p] from m)
     obtain ⟨a2,vs,ea,m1,m2,_⟩:=s.pin _ hq
     cases ea
     exact m2 rfl
   · exact s.lj ys a hq i d v (AX e1').1 e2 m
theorem StS.ofQ {p:Addr}{xs:List V}{H1:Hp}(s0:StS W pn M (some p) H1 σ ρ)(h1:H1 p=some (.lst xs)){M':Addr->Prop}{σ':St}{ρ':Ev}{b':Option Addr}(s:StS (Wq W (noH (some p) W.H0) fun c=>W.M0 c/\c≠p) pn M' b' H σ' ρ'){ib:Nat}(e:ρ'[ib]?=some (some (J2e p xs))) :
 H p=some (.lst xs)/\StS W pn M' (some p) H σ' ((AT ρ').set ib (some .bag)):=by
 obtain ⟨v0,ev0,rf⟩:=s.env ib _ e
 obtain ⟨rfl,hp⟩:v0=.ref p/\H p=some (.lst xs):=rf.2.1
 have Mp:M' p:=(rf.1 p (List.mem_singleton.mpr rfl)).1
 have own:∀ {a:Addr},a≠p->M' a->noH (some p) W.H0 a=none->¬ (W.M0 a/\a≠p)->M' a/\(some p:Option Addr)≠some a/\W.H0 a=none/\¬ W.M0 a:=fun {a} n m n0 m0=>⟨m,fun z=>n (by cases z;rfl),by
  unfold noH at n0
  rw [if_neg (fun z=>n (by cases z;rfl))] at n0
  exact n0,fun z=>m0 ⟨z,n⟩⟩
 have slot:∀ (i:Nat) d,((AT ρ').set ib (some .bag))[i]?=some (some d)->(i=ib/\d=.bag)\/(i≠ib/\(AT ρ')[i]?=some (some d)):=fun i d e=>by
  by_cases z:ib=i
  · subst z
    rw [List.getElem?_set] at e
    simp at e
    exact .inl ⟨rfl,e.2.symm⟩
  · rw [List.getElem?_set_ne z] at e
    exact .inr ⟨fun y=>z y.symm,e⟩
 refine ⟨hp,⟨⟨fun q z=>?_,fun q z=>by cases z;exact Mp,s.dom,fun c m=>?_⟩,fun c o n e=>?_,s0.new,fun i d e'=>?_,by simp [AT,s.len],fun q hq=>?_⟩,fun i j d d2 v u c e1 e2 e3 e4 m1 m2=>?_,fun ys a hq i d v e1 e2 m=>?_⟩
 · cases z
   exact W.B.st p H1 H (s0.ok p rfl) fun u z=>by rw [h1] at z;cases z;exact hp
 · by_cases z:c=p
   · rw [z];exact Mp
   · exact s.m0 c ⟨m,z⟩
 · refine s.kp c o (by simp) ?_
   show noH (some p) W.H0 c=some o
   unfold noH
   rw [if_neg]
   · exact e
   · intro z
     cases z
     rcases s0.new with q|⟨_,q⟩
     · exact n q.symm
     · rw [q p rfl] at e;cases e
 · rcases slot i d e' with ⟨rfl,rfl⟩|⟨z,e1⟩
   · exact ⟨.ref p,ev0,p,rfl,rfl⟩
   · obtain ⟨e1,nb⟩:=AX e1
     obtain ⟨v,e2,r⟩:=s.env i d e1
     refine ⟨v,e2,?_⟩
     have np:∀ c,EY d v c->c≠p:=fun c m y=>z (s.dj i ib d _ v _ c e1 e e2 ev0 m (by rw [y];exact List.mem_singleton.mpr rfl))
     cases d
     case own xs =>
      obtain ⟨a,vs,rfl,m1,m2,m3,m4,hh,r'⟩:=r
      obtain ⟨q1,q2,q3,q4⟩:=own (np a rfl) m1 m3 m4
      exact ⟨a,vs,rfl,q1,q2,q3,q4,hh,r'⟩
     case bag=>exact absurd rfl nb
     case frg f _=>exact ⟨fun c m=>own (np c m) (r.1 c m).1 (r.1 c m).2.2.1 (r.1 c m).2.2.2,r.2⟩
     all_goals exact r
 · have q0:=s.pin q hq
   obtain ⟨d,v⟩:=q
   cases d
   case own xs =>
    obtain ⟨a,vs,rfl,m1,m2,m3,m4,hh,r'⟩:=q0
    have np:a≠p:=fun y=>s.lj xs a hq ib _ _ e ev0 (by rw [y];exact List.mem_singleton.mpr rfl)
    obtain ⟨q1,q2,q3,q4⟩:=own np m1 m3 m4
    exact ⟨a,vs,rfl,q1,q2,q3,q4,hh,r'⟩
   all_goals exact q0
 · rcases slot i d e1 with ⟨rfl,rfl⟩|⟨z1,e1'⟩
   · exact m1.elim
   · rcases slot j d2 e2 with ⟨rfl,rfl⟩|⟨z2,e2'⟩
     · exact m2.elim
     · exact s.dj i j d d2 v u c (AX e1').1 (AX e2').1 e3 e4 m1 m2
 · rcases slot i d e1 with ⟨rfl,rfl⟩|⟨z1,e1'⟩
   · exact m.elim
   · exact s.lj ys a hq i d v (AX e1').1 e2 m
def c3J (ib:Nat)(d:DS):DS3:=fun F ρ n=>ρ[ib]?=some (some .bag)/\∀ B:D,d { nx:=fun ρ'=>ρ'[ib]?=some (some B)/\F.nx ((AT ρ').set ib (some .bag)) n,rt:=fun _=>False } ((AT ρ).set ib (some B))
theorem KH {st:Stmt}{d:DS}(ib:Nat)(hB:∀ p H,W.B.ok p H->∃ xs,H p=some (.lst xs))(h:∀ H0 M0,JS X (Wq W H0 M0) st d):CJS X W st (c3J ib d):=⟨fun pins sh σ H E I hh=>hh.elim fun pn M b ρ F s l hd=>by
 obtain ⟨e,hd⟩:=hd
 obtain ⟨v0,ev0,p,rfl,rfl⟩:=s.env ib _ e
 obtain ⟨xs,hp⟩:=hB p H (s.ok p rfl)
 refine (h (noH (some p) W.H0) fun c=>W.M0 c/\c≠p).h pins sh σ H E I ⟨pn,M,none,_,_,s.toQ e hp,⟨fun M' b' ρ' σ' H' s' h'=>?_,fun _ _ _ (z:False)=>z.elim,fun _ _ _ _ _ _ (z:False)=>z.elim,fun _ _ _ _ _ _ (z:False)=>z.elim,fun _ _ _ _ (z:False)=>z.elim⟩,hd (J2e p xs)⟩
 obtain ⟨e',hn⟩:=h'
 obtain ⟨hp',s2⟩:=s.ofQ hp s' e'
 refine l.nx _ _ _ _ _ s2 ?_
 have:cnt (some p) H'=cnt (some p) H:=by
  show GO p H'=GO p H
  unfold GO
  rw [hp,hp']
 rw [this]
 exact hn⟩
end
section
variable {X:Cx}{W:Wd}{c e:Expr}{dc:DT3}{db:DS3}{body:List Stmt}{pos:Pos}{dA:DA3}
inductive whI3 (dc:DT3)(db:DS3)(F:DEnds3)(ρ:Ev)(n:Nat):Prop
 | mk (I:Nat->Ev->Om) (m:Nat) (h0:I m ρ n) (hs:∀ m ρ n,I m ρ n->dc ρ (fun c n=>IfP c (db { F with nx:=fun ρ' n'=>∃ m',m'<m/\I m' ρ' n',ct:=fun ρ' n'=>∃ m',m'<m/\I m' ρ' n',bk:=F.nx } ρ n) (F.nx ρ n)) n):whI3 dc db F ρ n
def WC (dc:DT3)(db:DS3):DS3:=fun F ρ n=>whI3 dc db F ρ n
theorem XZ:∀ E σ H,sn3 W (WC dc db) E σ H->YR (cnT W dc) (sn3 W db) E σ H:=fun E σ H hh=>hh.elim fun pn M b ρ F s l h=>by
 obtain ⟨I,m0,i0,step⟩:=h
 refine ⟨fun m σ H=>∃ M b ρ,StS W pn M b H σ ρ/\I m ρ (cnt b H),⟨m0,M,b,ρ,s,i0⟩,?_⟩
 rintro m σ H ⟨M,b,ρ,s,i⟩
 refine ⟨pn,M,b,ρ,_,s.toSta,step m ρ _ i,fun c H1 h1 k1 o1=>?_⟩
 have s1:=s.step k1 o1
 cases h1 with
 | t e h1 =>
   dsimp only
   rw [if_pos e]
   exact ⟨fun σ' H'=>∃ m',m'<m/\∃ M b ρ,StS W pn M b H' σ' ρ/\I m' ρ (cnt b H'),fun σ' H' n=>n,pn,M,b,ρ,{ F with nx:=fun ρ' n'=>∃ m',m'<m/\I m' ρ' n',ct:=fun ρ' n'=>∃ m',m'<m/\I m' ρ' n',bk:=F.nx },s1,⟨fun M b ρ σ H s' ⟨m',lt,h'⟩=>⟨m',lt,M,b,ρ,s',h'⟩,l.rt,fun M b ρ σ H s' h'=>l.nx _ _ _ _ _ s' h',fun M b ρ σ H s' ⟨m',lt,h'⟩=>⟨m',lt,M,b,ρ,s',h'⟩,l.ro⟩,h1⟩
 | f e h1 =>
   dsimp only
   rw [if_neg (by rw [e];exact Bool.false_ne_true)]
   exact l.nx _ _ _ _ _ s1 h1
theorem YB (hp:PassesOwn (model X.prog X.w) X.A X.env X.xe)(hc:CJT X W c dc)(hb:CJSs X W body db):CJS X W (.While c body [] pos) (WC dc db):=⟨(ZG hp hc.h hb.h).mono XZ⟩
def UI (i:Nat)(gd:D->Ev->(Ev->Prop)->Prop)(dA:DA3):DS3:=fun F ρ n=>match ρ[i]? with
 | some (some (.own ys))=>dA ρ (fun xs n=>(match xs with
   | [.int k]=>(0<=k/\k<ys.length/\ys.length<=1000)/\(ys[k.toNat]?).elim False fun y=>gd y (ρ.set i (some (.own (ys.eraseIdx k.toNat)))) fun ρ'=>F.nx ρ' n
   | _=>False)) n
 | _=>False
theorem J1l {i:Nat}{g:TG}{gd:D->Ev->(Ev->Prop)->Prop}(hG:GD W g gd):∀ E σ H,sn3 W (UI i gd dA) E σ H->WQ (tBM W.K "list" OM (FI i) (cnA W dA)) g E σ H:=fun E σ H hh=>hh.elim fun pn M b ρ F s l h=>by
 unfold UI at h
 split at h
 case h_2=>exact h.elim
 case h_1 ys e =>
  obtain ⟨a,vs,ea,nb,hh,r⟩:=BA s.toSta e
  refine ⟨.ref a,ea,.inl ⟨rfl,vs,SqL.of hh⟩,pn,M,b,ρ,_,s.toSta,h,fun xs us H' hx rx k o=>?_⟩
  match xs,hx with
  | [.int n],hx =>
    obtain ⟨u,rfl,ru⟩:=rx1 rx
    cases (show _=_ from ru)
    obtain ⟨⟨h0,h1,h2⟩,hx⟩:=hx
    have s':=s.step k o
    obtain ⟨a',vs',ea',nb',hh',r'⟩:=BA s'.toSta e
    rw [ea] at ea';cases ea'
    have hl:=r'.length
    cases ey:ys[n.toNat]? with
    | none=>rw [ey] at hx;exact hx.elim
    | some y =>
      rw [ey] at hx
      obtain ⟨v,ev,rv⟩:=r'.get ey
      have st2:=s'.setOwn i e ea (r'.erase n.toNat)
      have rv2:Rep W.K M (upd H' a (.lst (vs'.eraseIdx n.toNat))) y v:=Rep.keep (fun c oo nn q=>by
       obtain ⟨v0,e1,a',us,evv,m1,_⟩:=s'.env i _ e
       rw [ea] at e1;cases e1;cases evv
       rw [V1 (show c≠a from fun z=>nn (by rw [z];exact m1))]
       exact q) _ _ rv
      have pl:plain y=true:=by
       cases y<;>first|rfl|exact rv.elim
      refine ⟨a,vs',n,n.toNat,v,rfl,rfl,hh',by omega,by omega,?_,ev,?_⟩
      · have hn:n.toNat<vs'.length:=by rw [hl];omega
        have e1:(if n<0 then n+(vs'.length:Int) else n)=n:=if_neg (by omega)
        have hz:n<(vs'.length:Int):=by omega
        unfold seqIndex?
        simp [e1,h0,hz]
      · exact hG pn M b _ σ _ y v _ _ st2.toSta rv2.x pl hx fun ρ' σ' hq st3 ho=>l.nx _ _ _ _ _ (st2.of st3 ho) (by rw [JQ nb];exact hq)
theorem J1r {i j:Nat}{x y:Str}{npos apos cpos pos':Pos}(hK:X.K=W.K)(hN:X.N.Nodup)(hi:X.N[j]?=some y)(hx:Loc X.env.scope y)(ha:CJA X W [e] dA)
 (h:PE X (.Call (.Attribute (.Name x npos) "pop" apos) [e] [] cpos) (tBM X.K "list" OM (FI i) (cnA W dA))) (hs:swapsWith (.Call (.Attribute (.Name x npos) "pop" apos) [e] [] cpos) (some (.Name y pos')) pos.line X.env=pure false:=by rfl) (hf:X.fn y=true\/X.env.scope.names.lookup y=some .local:=by first|exact .inl rfl|exact .inr rfl|assumption) :
 CJS X W (.Assign [.Name y pos'] (.Call (.Attribute (.Name x npos) "pop" apos) [e] [] cpos) pos) (UI i (gdN j) dA):=⟨(BR hN hi hx (by rw [hK] at h;exact h) hs hf).mono (J1l (V5 j))⟩
end
def J5l (N:List Str)(K:Fg)(Ba:Addr)(tb:XK->TS)(th:Addr->TS):TS:=fun D σ H=>∃ E:XK,tb E D σ H/\∀ C H' x,E (.ref C) none H'->H' x=none->PySem.W.subIn K (.ref C) (.ref Ba)=some true /\
 th x D (List.replicate N.length none) (upd H' x (ExcO x C))
theorem J3i {X:Cx}{body:List Stmt}{B:Str}{np hpos pos:Pos}{b₀:Stmt}{suite:List Stmt}{tb:XK->TS}{th:Addr->TS}{Ba:Addr}(K:Fg)(hK:X.K=K)(hst:X.stack=X.env::X.outer)(hfr:X.env.frame=some X.env.locals)(hg:Gl X B)(hm:X.mg B=some (.ref Ba))(F:XBase K Ba)
 (hb:∀ (xe:Value->Shared->Prop) (pn:List (Addr×Obj)) (E:XK),GS (CX1 X.prog X.w X.base) (X.re xe pn) E->PSs (X.re xe pn) body (tb E)) (hs:∀ x,PSs (X.marked x) (b₀::suite) (th x)) (hd:(B==("__debug__" : Str))=false:=by decide) :
 PS X (.Try body [.ExceptHandler (some (.Name B np)) none (b₀::suite) hpos] [] [] pos) (J5l X.N K Ba tb th):=by
 intro pins s σ H D I ⟨E,hbody,hcatch⟩
 subst hK
 refine wpAny_Try_except ?_
 have hp:GS (CX1 X.prog X.w X.base) (X.re (fun e s'=>∃ σ0 H0 s0,Inv X pins σ0 H0 s0/\CX1 X.prog X.w X.base X.stack H0 s0 E e s') (X.pn++pins)) E:=fun pins' σ' H1 s1 e s' I1 h=>⟨σ',H1,s1,I1.unre,h⟩
 refine wpAny_mono (hb _ _ E hp [] s σ H D (I.re _) hbody) (fun f s1 q=>?_) (fun e s1 hx=>?_)
 · cases f with
   | next=>obtain ⟨σ',H',I',q⟩:=q;exact wpAny_execs_nil ⟨σ',H',I'.unre,q⟩
   | brk=>obtain ⟨σ',H',I',q⟩:=q;exact ⟨σ',H',I'.unre,q⟩
   | cont=>obtain ⟨σ',H',I',q⟩:=q;exact ⟨σ',H',I'.unre,q⟩
   | ret u=>obtain ⟨v,σ',H',I',r,q⟩:=q;exact ⟨v,σ',H',I'.unre,r,q⟩
 obtain ⟨σ0,H0,s0,I0,x,C,H2,rfl,os,bare,U,hok,⟨hx0,hb0,hg0,ox,vs,T0,oT,ts',x1,xc,xn,xd,v1,v2,tx,hT0,bT0,gT0,t1,t2,t3⟩,q⟩:=hx
 obtain ⟨cB,hth⟩:=hcatch C H2 x q hx0
 have I2:Inv X pins σ0 H2 s1:=I0.raised os bare U hok
 have hfrm:X.A.frames=some (X.env::X.outer):=by rw [<- hst];exact I2.ok.frames
 have hstk:s1.heap.FunFrames X.base (X.env::X.outer):=by rw [<- hst];exact I2.stack
 refine WZ (base:=X.base) hfrm hstk hfr x1 xd v1 t1 t2 t3 tx fun h2 T g=>?_
 have hfs:(X.env::X.outer).filterMap (·.frame)=frs X.stack:=by rw [hst];rfl
 rw [hfs] at g
 have ne1:∀ b o,s0.heap.get? b=some o->b≠x/\b≠T0:=fun b o eb=>⟨fun z=>(by rw [z,hg0] at eb;cases eb),fun z=>(by rw [z,gT0] at eb;cases eb)⟩
 have nTo:∀ b o,s1.heap.get? b=some o->b≠T:=fun b o eb z=>by
  have h1:=Heap.lt_size eb
  rw [z] at h1
  exact absurd (Nat.lt_of_lt_of_le h1 g.new) (Nat.lt_irrefl _)
 have tH:H2 T=none:=by
  cases z:H2 T with
  | none=>rfl
  | some o =>
    obtain ⟨ob,eo⟩:=(hok T o z).ex
    exact absurd rfl (nTo T ob eo)
 have hTx:T≠x:=fun z=>nTo x ox x1 z.symm
 have dx:=Obj.data_mapFields xd (·.setIfInBounds 1 (Value.ref T))
 obtain ⟨oT',tv,g1,g2,g3⟩:=g.tr
 have mk:∀ h3:Heap,(∀ b o,b≠T->h2.get? b=some o->h3.get? b=some o)->Inv X pins σ0 (upd H2 x (ExcO x C)) { s1 with heap:=h3 }:=fun h3 k3=>by
  have nT0:∀ b o,s0.heap.get? b=some o->b≠T:=fun b o eb=>by
   obtain ⟨o',e'⟩:=U.there b o eb (by simp)
   exact nTo b o' e'
  have xg:h3.get? x=some (ox.mapFields (·.setIfInBounds 1 (Value.ref T))):=k3 _ _ (Ne.symm hTx) g.exc
  have hok3:HOk X.prog X.w (upd H2 x (ExcO x C)) h3:=fun b o eb=>by
   by_cases hbx:b=x
   · subst hbx
     rw [AA] at eb
     cases eb
     refine ExcO.ok xg ((Obj.cls_mapFields ..).trans xc) ((XU ..).trans xn) dx ?_
     rw [Array.getElem?_setIfInBounds_ne (by decide)]
     exact v2
   · rw [V1 hbx] at eb
     refine (hok b o eb).stay (fun c v hc ev=>k3 c v (nTo c v ev) (g.keep c v (fun hb=>?_) (fun z=>?_) (fun z=>?_) ev)) (fun c z=>?_) fun c xs z=>?_
     · have:=I2.stkFree c hb
       rcases hc with y|y
       · rw [y,eb] at this;cases this
       · rw [y] at this;cases this
     · rcases hc with y|y
       · exact hbx (y▸z)
       · rw [z,hx0] at y;cases y
     · have z:c=T0:=by simpa using z
       rcases hc with y|y
       · rw [<- y,z,hT0] at eb;cases eb
       · rw [z,hT0] at y;cases y
     · rw [V1 (V3 z hx0)];exact z
     · rw [V1 (V3 z hx0)];exact z
  refine I0.raised (s':={ s1 with heap:=h3 }) os bare ⟨fun b o eb n hb hx=>?_,fun b o eb n hb hx=>?_,fun b o eb n hx=>?_,fun b o eb hx=>?_,fun b xs e=>?_,fun b o u e=>?_,fun b ps e=>?_⟩ hok3
  · exact k3 b o (nT0 b o eb) (g.keep b o hb (ne1 b o eb).1 (by simpa using (ne1 b o eb).2) (U.keep b o eb n hb hx))
  · obtain ⟨z,e4⟩:=U.slot b o eb n hb hx
    obtain ⟨z',e5⟩:=g.slot b _ hb e4
    exact ⟨z',k3 b _ (nT0 b o eb) e5⟩
  · rw [V1 (ne1 b o eb).1]
    exact U.free b o eb n hx
  · obtain ⟨o',e4⟩:=U.there b o eb hx
    by_cases hb:b∈frs X.stack
    · obtain ⟨z,e5⟩:=g.slot b o' hb e4
      exact ⟨_,k3 b _ (nT0 b o eb) e5⟩
    · exact ⟨o',k3 b _ (nT0 b o eb) (g.keep b o' hb (ne1 b o eb).1 (by simpa using (ne1 b o eb).2) e4)⟩
  · have:=U.tups b xs e
    rw [V1 (V3 this hx0)];exact this
  · have:=U.frzs b o u e
    rw [V1 (V3 this hx0)];exact this
  · obtain ⟨more,this⟩:=U.tbls b ps e
    exact ⟨more,by rw [V1 (V3 this hx0)];exact this⟩
 have I3:=mk h2 fun _ _ _ e=>e
 obtain ⟨o3,hI3⟩:=I3.instAt (x:=x) (C:=C) AA
 refine wpAny_handleBy_cons (codeAny_handlers_test (LD (X:=X.marked x) (I3.marked x) hg hm ?_ hd)) (by intro z;cases z)
 refine J4g I3.kIn hI3 F.cls F.typ F.exc cB ?_
 show codeAny _ _ (.handlers (.ref x) [.ExceptHandler none none (b₀::suite) hpos] X.env) _ _
 refine codeAny_handlers_suite ?_
 unfold setFlight
 refine wpAny_bind (wpAny_field g.exc dx (x:=.ref T) (by have:=(Array.getElem?_eq_some_iff.mp v1).1;simp [this]) ?_);rw [if_pos (show (Value.ref T != Value.none)=true from by simp)]
 refine wpAny_setField g1 g2 (Array.getElem?_eq_some_iff.mp g3).1 ?_
 have I4:=(mk _ fun b o hb e=>(Heap.get?_update_other h2 (Obj.mapFields (·.setIfInBounds 3 Value.none)) (Ne.symm hb)).trans e).marked x
 have I5:Inv (X.marked x) pins (List.replicate X.N.length none) _ _:=I4.weak (σ':=List.replicate X.N.length none) (by rw [List.length_replicate];exact I4.len.symm) fun j v e=>by
  rw [List.getElem?_replicate] at e
  split at e<;>cases e
 refine wpAny_mono (hs x pins _ _ _ _ I5 hth) (fun f s6 q6=>?_) fun _ _ z=>False.elim z
 cases f with
 | next=>obtain ⟨σ',H',I',q⟩:=q6;exact ⟨_,_,I'.unmarked I.ok,q⟩
 | brk=>obtain ⟨σ',H',I',q⟩:=q6;exact ⟨_,_,I'.unmarked I.ok,q⟩
 | cont=>obtain ⟨σ',H',I',q⟩:=q6;exact ⟨_,_,I'.unmarked I.ok,q⟩
 | ret u=>obtain ⟨v,σ',H',I',r,q⟩:=q6;exact ⟨v,_,_,I'.unmarked I.ok,r,q⟩
section
variable {X:Cx}{W:Wd}{e:Expr}{pos:Pos}{dA:DA}
def J6g (i:Nat)(dA:DA):DS:=fun F ρ=>match ρ[i]? with
 | some (some (.own ys))=>dA ρ fun xs=>(match xs with
   | [.int k]=>(0<=k/\k<ys.length/\ys.length<=1000)/\F.nx (ρ.set i (some (.own (ys.eraseIdx k.toNat))))
   | _=>False)
 | _=>False
theorem J0d {i:Nat}{x:Str}{npos apos cpos:Pos}(hK:X.K=W.K)(ha:JA X W [e] dA)
 (h:PE X (.Call (.Attribute (.Name x npos) "pop" apos) [e] [] cpos) (tBM X.K "list" OM (FI i) (dnA W dA))) (hs:swapsWith (.Call (.Attribute (.Name x npos) "pop" apos) [e] [] cpos) none pos.line X.env=pure false:=by rfl) :
 JS X W (.Expr (.Call (.Attribute (.Name x npos) "pop" apos) [e] [] cpos) pos) (J6g i dA):=⟨(FP (by rw [hK] at h;exact h) hs).mono fun E σ H hh=>hh.elim fun pn M b ρ F s l h=>by
 unfold J6g at h
 split at h
 case h_2=>exact h.elim
 case h_1 ys e =>
  obtain ⟨a,vs,ea,nb,hh,r⟩:=BA s.toSta e
  refine ⟨.ref a,ea,.inl ⟨rfl,vs,SqL.of hh⟩,pn,M,b,ρ,_,s.toSta,h,fun xs us H' hx rx k o=>?_⟩
  match xs,hx with
  | [.int n],hx =>
    obtain ⟨u,rfl,ru⟩:=rx1 rx
    cases (show _=_ from ru)
    obtain ⟨⟨h0,h1,h2⟩,hx⟩:=hx
    have s':=s.step k o
    obtain ⟨a',vs',ea',nb',hh',r'⟩:=BA s'.toSta e
    rw [ea] at ea';cases ea'
    have hl:=r'.length
    have hlt:n.toNat<ys.length:=by omega
    obtain ⟨v,ev,rv⟩:=r'.get (List.getElem?_eq_getElem hlt)
    have st2:=s'.setOwn i e ea (r'.erase n.toNat)
    refine ⟨a,vs',n,n.toNat,v,rfl,rfl,hh',by omega,by omega,?_,ev,l.nx _ _ _ _ _ st2 hx⟩
    have hn:n.toNat<vs'.length:=by rw [hl];omega
    have e1:(if n<0 then n+(vs'.length:Int) else n)=n:=if_neg (by omega)
    have hz:n<(vs'.length:Int):=by omega
    unfold seqIndex?
    simp [e1,h0,hz]⟩
def J6d (i:Nat)(de dj dk:DE):DS:=fun F ρ=>match ρ[i]? with
 | some (some (.own ys))=>de ρ fun x=>∃ p q,x=.tup [p,q]/\dj ρ fun y=>∃ j:Int,y=.int j/\(ixN ys.length j).elim False fun j=>dk (ρ.set i (some (.own (ys.set j p)))) fun z=>∃ k:Int,z=.int k/\(ixN ys.length k).elim False fun k=>F.nx (ρ.set i (some (.own ((ys.set j p).set k q))))
 | _=>False
theorem J0a {i:Nat}{x:Str}{de dj dk:DE}{n1 n2:Expr}{np1 np2 tp1 tp2 pt:Pos}{kt:Nat}(hK:X.K=W.K)(he:JE X W e de)
 (hg:PG X (.Tuple [.Subscript (.Name x np1) n1 tp1,.Subscript (.Name x np2) n2 tp2] kt pt) (J4e W.K 2 (VN (J0o (FI i) (dn W dj) RB) (VN (J0o (FI i) (dn W dk) RB) J8n))))
 (hs:swapsWithSole [.Tuple [.Subscript (.Name x np1) n1 tp1,.Subscript (.Name x np2) n2 tp2] kt pt] e pos.line X.env=pure false:=by rfl) (hw:swappedStores [.Tuple [.Subscript (.Name x np1) n1 tp1,.Subscript (.Name x np2) n2 tp2] kt pt] e X.env=pure none:=by rfl)
 (h1:(assignEach [.Tuple [.Subscript (.Name x np1) n1 tp1,.Subscript (.Name x np2) n2 tp2] kt pt] X.env).map (·.2)=[assign (.Tuple [.Subscript (.Name x np1) n1 tp1,.Subscript (.Name x np2) n2 tp2] kt pt) X.env]:=by rfl) :
 JS X W (.Assign [.Tuple [.Subscript (.Name x np1) n1 tp1,.Subscript (.Name x np2) n2 tp2] kt pt] e pos) (J6d i de dj dk):=⟨(IY he.h hg hs hw h1).mono fun E σ H hh=>hh.elim fun pn M b ρ F s l h=>by
 unfold J6d at h
 split at h
 case h_2=>exact h.elim
 case h_1 ys e =>
  obtain ⟨a,vs,ea,nb,hh,r⟩:=BA s.toSta e
  refine ⟨pn,M,b,ρ,_,s.toSta,h,fun x v H1 hx rx k1 o1=>?_⟩
  obtain ⟨p,q,rfl,hj⟩:=hx
  obtain ⟨t,us,rfl,ht,rr⟩:=(rx:Rep W.K M H1 (.tup [p,q]) v)
  obtain ⟨u,r0,rfl,ru,w,r1,rfl,rw',rfl⟩:=rr
  refine ⟨t,[u,w],rfl,?_,rfl,u,[w],rfl,.ref a,ea,pn,M,b,ρ,_,s.toSta.step k1 o1,hj,fun y uy H2 hy ry k2 o2=>?_⟩
  · exact ht.elim (fun z=>SqT.of z.2) fun z=>.inr z
  obtain ⟨j,rfl,hy⟩:=hy
  cases (show _=_ from ry)
  have s2:=(s.step k1 o1).step k2 o2
  obtain ⟨a',vs',ea',nb',hh',r'⟩:=BA s2.toSta e
  rw [ea] at ea';cases ea'
  cases ej:ixN ys.length j with
  | none=>rw [ej] at hy;exact hy.elim
  | some jj =>
    rw [ej] at hy
    have ru2:Rep W.K M H2 p u:=Rep.keep (fun c o n e=>k2 c o (fun z=>n (s.bagM c z)) e) _ _ ru
    have rw2:Rep W.K M H2 q w:=Rep.keep (fun c o n e=>k2 c o (fun z=>n (s.bagM c z)) e) _ _ rw'
    refine ⟨a,vs',j,jj,rfl,rfl,hh',by rw [r'.length];exact ej,w,[],rfl,.ref a,ea,pn,M,b,_,_,(s2.setOwn i e ea (Reps.set ru2 jj r')).toSta,hy,fun z uz H3 hz rz k3 o3=>?_⟩
    obtain ⟨k,rfl,hz⟩:=hz
    cases (show _=_ from rz)
    have Ma:M a:=by
     obtain ⟨v0,e1,a',us,evv,m1,_⟩:=s2.env i _ e
     rw [ea] at e1;cases e1;cases evv
     exact m1
    have s3:=(s2.setOwn i e ea (Reps.set ru2 jj r')).step k3 o3
    have ei:(ρ.set i (some (.own (ys.set jj p))))[i]?=some (some (.own (ys.set jj p))):=by
     rw [List.getElem?_set];simp;exact (List.getElem?_eq_some_iff.mp e).1
    obtain ⟨a3,vs3,ea3,nb3,hh3,r3⟩:=BA s3.toSta ei
    rw [ea] at ea3;cases ea3
    have rw3:Rep W.K M H3 q w:=Rep.keep (fun c o n e=>k3 c o (fun z=>n (s.bagM c z)) (by rw [V1 (show c≠a from fun z=>n (by rw [z];exact Ma))];exact e)) _ _ rw2
    cases ek:ixN ys.length k with
    | none=>rw [ek] at hz;exact hz.elim
    | some kk =>
      rw [ek] at hz
      have s4:=s3.setOwn i ei ea (Reps.set rw3 kk r3)
      rw [List.set_set] at s4
      exact ⟨a,vs3,k,kk,rfl,rfl,hh3,by rw [r3.length,List.length_set];exact ek,rfl,l.nx _ _ _ _ _ s4 hz⟩⟩
end
end L2
namespace PySem.MeetsSeq
open AutoSeq1 (wpAny_loadPart')
theorem MY (l:Addr)(items:Array Value)(n:Nat)(x:Value)(e:Value->Bool)(j:Nat)(hj:j<items.size)(hit:e items[j]=true)(k:Nat)(hs1:items.size<=sizeLine) :
 ∀ i:Nat,j - i=k->i<=j->(∀ m (hm:m<items.size),i<=m->m<j->e items[m]=false)->Meets (Builtin.«list.remove.loop» ⟨[.ref l,x,rawInt i],[]⟩)
  (fun A R s=>s.heap.get? l=some { cls:=.type "list",dict:=none,data:=.seq items n,slots:=#[] }/\(∀ y,y∈items->SeqAt.EqAt A.in1 s y x (e y))/\R (.ok (.ret .none)) { s with heap:=s.heap.update l (Obj.mapSeq fun xs=>xs.eraseIdxIfInBounds j) }):=by
 induction k with
 | zero =>
   intro i hk hij hno prog w A R s h
   obtain ⟨hp,g,d,tk,os⟩:=s;obtain ⟨hl,he,h⟩:=h
   have hij':i=j:=by omega
   subst hij'
   wp_walk using wpAny_loadPart' hl
   have hi:items[((i:Nat):Int).toNat]?=some items[i]:=by simp [hj]
   rw [hi]
   refine wpAny_bind (he _ (Array.getElem_mem hj) prog w _ _ ?_)
   rw [hit]
   have hz':(items.eraseIdxIfInBounds i).size<=sizeLine+1:=Nat.le_trans (size_erased items _) (Nat.le_succ_of_le hs1)
   wp_walk using (wpAny_updateSeq hl rfl (hz:=hs1) (_hz':=hz')),wpAny_loadPart' hl
   simpa using h
 | succ k ih =>
   intro i hk hij hno prog w A R s h
   obtain ⟨hp,g,d,tk,os⟩:=s;obtain ⟨hl,he,h⟩:=h
   have hlt:i<items.size:=by omega
   wp_walk using wpAny_loadPart' hl
   have hi:items[((i:Nat):Int).toNat]?=some items[i]:=by simp [hlt]
   have hc:((i:Int)+1)=((i+1:Nat):Int):=by push_cast;rfl
   rw [hi]
   refine wpAny_bind (he _ (Array.getElem_mem hlt) prog w _ _ ?_)
   rw [hno i hlt (Nat.le_refl _) (by omega)]
   wp_walk
   rw [hc]
   exact ⟨plainId_quiet plain_remove_loop _,codeAny_builtin entry_remove_loop (by
    rw [Around.under_plainId plain_remove_loop _]
    exact ih (i+1) (by omega) (by omega) (fun m hm h1 h2=>hno m hm (by omega) h2) prog w A R _ ⟨hl,he,h⟩)⟩
theorem list_removeAt (l:Addr)(items:Array Value)(n:Nat)(x:Value)(e:Value->Bool)(j:Nat)(hj:j<items.size)
 (hit:e items[j]=true) (hno:∀ m (hm:m<items.size),m<j->e items[m]=false) (hs1:items.size<=sizeLine:=by size_fits) :
 Meets (Builtin.«list.remove» ⟨[.ref l,x],[]⟩)
  (fun A R s=>s.heap.get? l=some { cls:=.type "list",dict:=none,data:=.seq items n,slots:=#[] }/\(∀ y,y∈items->SeqAt.EqAt A.in1 s y x (e y))/\R (.ok (.ret .none)) { s with heap:=s.heap.update l (Obj.mapSeq fun xs=>xs.eraseIdxIfInBounds j) }):=by
 intro prog w A R s h
 obtain ⟨hp,g,d,tk,os⟩:=s;obtain ⟨hl,he,h⟩:=h
 wp_walk using wpAny_loadPart' hl
 exact ⟨plainId_quiet plain_remove_loop _,codeAny_builtin entry_remove_loop (by
  rw [Around.under_plainId plain_remove_loop _]
  exact MY l items n x e j hj hit _ hs1 0 rfl (Nat.zero_le _) (fun m hm _ h2=>hno m hm h2) prog w A R _ ⟨hl,he,h⟩)⟩
end PySem.MeetsSeq
namespace L2
open PySem PySem.Spec PyProof.Rows
def RC (K:Fg):V->List V->Hp->VK->Prop:=fun x vs H Q=>∃ (l:Addr) (xs:List V) (y:V) (M:Addr->Prop) (ds:List D) (dy:D) (ps:List PyData) (p:PyData) (k:Nat),x=.ref l/\vs=[y]/\H l=some (.lst xs)/\Reps K M H ds xs/\J2l K M H dy y/\BE ds=some ps/\Y9 dy=some p/\min (PyData.depthAll ps) p.depth<=60/\(∃ q,ps[k]?=some q/\PyData.eqv q p=true)/\(∀ m q,m<k->ps[m]?=some q->PyData.eqv q p=false)/\Q .non (upd H l (.lst (xs.eraseIdx k)))
theorem TM {X:Cx}(K:Fg)(hK:X.K=K)(hu:X.A.units+64<cLine):MtM X "list.remove" (RC K):=by
 subst hK
 intro pins s σ H x vs v us Q I rx rv h
 obtain ⟨l,xs,y,M,ds,dy,ps,p,k,rfl,rfl,hH,rs,ry,e1,e2,hd,⟨q0,ek,hk⟩,hlt,q⟩:=h
 cases rx
 obtain ⟨u,rfl,ru⟩:=rv.one
 obtain ⟨z,its,n,r,hl,e⟩:=I.lstM hH
 obtain ⟨as,ra⟩:=EE I ds xs its ps rs r e1
 obtain ⟨bs,rb⟩:=EF I ry ru e2
 have lay:PyData.canLayAll0 ps=true:=J8g (q:=.list ps) (ps:=ps) (Y9.lay (.lst ds) _ (by unfold Y9;rw [e1];rfl)) rfl
 have em:=SeqAt.readsAll_map ps its as lay ra
 have at_:∀ m (hm:m<its.toArray.size),∃ q,ps[m]?=some q/\PyData.eqv (SeqAt.readOf s.heap its.toArray[m]) p=PyData.eqv q p:=fun m hm=>by
  have hm':m<its.length:=by simpa using hm
  refine ⟨SeqAt.readOf s.heap its[m],?_,by simp⟩
  rw [<- em,List.getElem?_map,List.getElem?_eq_getElem hm']
  rfl
 have hks:k<its.toArray.size:=by
  have:=(List.getElem?_eq_some_iff.mp ek).1
  rw [<- em,List.length_map] at this
  simpa using this
 refine call_meets F.slot_list_remove ⟨_,e,rfl⟩ F.entry_list_remove (F.args_list_remove_2 _ _)
  (MeetsSeq.list_removeAt l its.toArray n u (fun v=>PyData.eqv (SeqAt.readOf s.heap v) p) k hks ?_ (fun m hm hlt'=>?_) (by rw [List.size_toArray];omega)) ⟨e,SeqAt.items_eqAt (vs:=its.toArray) (xs:=ps) (by simpa using ra) rb lay (Y9.lay _ _ e2) (by omega),?_⟩
 · obtain ⟨q1,e3,e4⟩:=at_ k hks
   rw [ek] at e3;cases e3
   show PyData.eqv (SeqAt.readOf s.heap its.toArray[k]) p=true
   rw [e4];exact hk
 · obtain ⟨q1,e3,e4⟩:=at_ m hm
   show PyData.eqv (SeqAt.readOf s.heap its.toArray[m]) p=false
   rw [e4];exact hlt m q1 hlt' e3
 · refine ⟨.non,_,I.lset (its':=its.eraseIdx k) hH e ?_ (r.eraseIdx k) ?_,rfl,q⟩
   · show its.toArray.eraseIdxIfInBounds k=(its.eraseIdx k).toArray
     rw [List.eraseIdxIfInBounds_toArray]
   · have:=JH xs k
     omega
section
variable {X:Cx}{W:Wd}{e:Expr}{pos:Pos}{dA:DA}
inductive RemG (ys:List D)(y:D)(P:List D->Prop):Prop
 | mk (ps:List PyData) (p:PyData) (k:Nat) (e1:BE ys=some ps) (e2:Y9 y=some p) (hd:min (PyData.depthAll ps) p.depth<=60) (hk:∃ q,ps[k]?=some q/\PyData.eqv q p=true) (hl:∀ m q,m<k->ps[m]?=some q->PyData.eqv q p=false) (h:P (ys.eraseIdx k)):RemG ys y P
def J6f (i:Nat)(dA:DA):DS:=fun F ρ=>match ρ[i]? with
 | some (some (.own ys))=>dA ρ fun xs=>∃ y,xs=[y]/\RemG ys y fun zs=>F.nx (ρ.set i (some (.own zs)))
 | _=>False
theorem TU {i:Nat}{x:Str}{npos apos cpos:Pos}(hK:X.K=W.K)(ha:JA X W [e] dA)
 (h:PE X (.Call (.Attribute (.Name x npos) "remove" apos) [e] [] cpos) (tBM X.K "list" (RC X.K) (FI i) (dnA W dA))) (hs:swapsWith (.Call (.Attribute (.Name x npos) "remove" apos) [e] [] cpos) none pos.line X.env=pure false:=by rfl) :
 JS X W (.Expr (.Call (.Attribute (.Name x npos) "remove" apos) [e] [] cpos) pos) (J6f i dA):=⟨(FP (by rw [hK] at h;exact h) hs).mono fun E σ H hh=>hh.elim fun pn M b ρ F s l h=>by
 unfold J6f at h
 split at h
 case h_2=>exact h.elim
 case h_1 ys e =>
  obtain ⟨a,vs,ea,nb,hh,r⟩:=BA s.toSta e
  refine ⟨.ref a,ea,.inl ⟨rfl,vs,SqL.of hh⟩,pn,M,b,ρ,_,s.toSta,h,fun xs us H' hx rx k o=>?_⟩
  obtain ⟨y,rfl,ps,p,kk,e1,e2,hd,hk,hlt,hn⟩:=hx
  obtain ⟨u,rfl,ru⟩:=rx1 rx
  have s':=s.step k o
  obtain ⟨a',vs',ea',nb',hh',r'⟩:=BA s'.toSta e
  rw [ea] at ea';cases ea'
  exact ⟨a,vs',u,M,ys,y,ps,p,kk,rfl,rfl,hh',r',ru.g e2,e1,e2,hd,hk,hlt,l.nx _ _ _ _ _ (s'.setOwn i e ea (r'.erase kk)) hn⟩⟩
end
section
variable {X:Cx}{W:Wd}{st:Stmt}
def HDN (W:Wd)(N:List Str)(K:Fg)(Ba:Addr)(th:Addr->TS)(hd:Addr->DEnds->Prop):Prop:=∀ C x H' E F pn,Link W pn E F->hd C F->Kp W.b0 W.H0 H'->okB W.B W.b0 H'->H' x=none->PySem.W.subIn K (.ref C) (.ref Ba)=some true/\th x E (List.replicate N.length none) (upd H' x (ExcO x C))
theorem ZZ {N:List Str} {Ba:Addr}{th:Addr->TS}{hd:Addr->DEnds->Prop}{db:DS}(Ed:Addr->Prop)(hHD:HDN W N K Ba th hd)(h:PS X st (J5l N K Ba (fun E D σ H=>KM W E Ed/\sn W db D σ H) th)):JS X W st (Q3e db Ed hd):=⟨h.mono fun E σ H hh=>hh.elim fun pn M b ρ F s l q=>by
 refine ⟨fun Cv _ H'=>∃ C,Cv=.ref C/\Ed C/\Kp W.b0 W.H0 H'/\okB W.B W.b0 H',⟨fun C H' e k o=>⟨C,rfl,e,k,o⟩,pn,M,b,ρ,F,s,l,q.1⟩,fun C H' x hC hx=>?_⟩
 obtain ⟨C',e,hE,k,o⟩:=hC
 cases e
 exact hHD C x H' E F pn l (q.2 C hE) k o hx⟩
end
inductive TyS (K:Fg)(H:Hp):V->String->Prop where
 | non:TyS K H .non "NoneType"
 | bl (x:Bool):TyS K H (.bl x) "bool"
 | int (i:Int):TyS K H (.int i) "int"
 | str (x:Str):TyS K H (.str x) "str"
 | lst {a:Addr} {xs:List V} (h:SqL K H a xs):TyS K H (.ref a) "list"
 | tup {a:Addr} {xs:List V} (h:SqT K H a xs):TyS K H (.ref a) "tuple"
def J5r (K:Fg):List V->Hp->VK->Prop:=fun xs H Q=>∃ (y:V) (a:Addr) (c1 c2 t:String) (b:Bool),xs=[y,.ref a]/\SqT K H a [.ty c1,.ty c2]/\TyS K H y t/\PySem.W.kitAny K (.type t) [.type c1,.type c2]=some b/\Q (.bl b) H
theorem QK {X:Cx}(K:Fg)(hK:X.K=K):AV X (.builtin "isinstance") (J5r K):=by
 subst hK
 intro pins s σ H xs us Q I r h
 obtain ⟨y,a,c1,c2,t,b,rfl,ht,ty,e,q⟩:=h
 obtain ⟨u,w',rfl,r1,r2⟩:=LL r
 cases (show w'=Value.ref a from r2)
 obtain ⟨its,rv,⟨o,h1,h2,n,h3⟩,hz⟩:=I.tuple ht
 obtain ⟨v1,v2,rfl,s1,s2⟩:=LL rv
 cases (show v1=Value.type c1 from s1)
 cases (show v2=Value.type c2 from s2)
 have ho:o=⟨.type "tuple",o.dict,.seq [Value.type c1,Value.type c2].toArray n,o.slots⟩:=by
  cases o;cases h2;cases h3;rfl
 rw [ho] at h1
 have fin:∀ tk,EP X pins σ Q (.bool b) { s with toks:=tk }:=fun tk=>⟨.bl b,H,I.tok _,rfl,q⟩
 cases ty with
 | non=>cases (show u=Value.none from r1);exact PySem.W.kia_tup PySem.W.kitx_none I.kIn True.intro h1 e (fun z=>nomatch z) fin
 | bl y=>cases (show u=Value.bool y from r1);exact PySem.W.kia_tup PySem.W.kitx_bool I.kIn True.intro h1 e (fun z=>nomatch z) fin
 | int i=>obtain ⟨t,q⟩:=(show ∃ t,u=Value.int i t from r1);cases q;exact PySem.W.kia_tup PySem.W.kitx_int I.kIn True.intro h1 e (fun z=>nomatch z) fin
 | str y=>obtain ⟨t,q⟩:=(show ∃ t,u=Value.str y t from r1);cases q;exact PySem.W.kia_tup PySem.W.kitx_str I.kIn True.intro h1 e (fun z=>nomatch z) fin
 | lst hl =>
   cases (show u=Value.ref _ from r1)
   obtain ⟨_,_,⟨o',n',p1,p2,_⟩,_⟩:=I.list hl
   exact PySem.W.kia_tup PySem.W.kitx_list I.kIn ⟨o',p1,p2⟩ h1 e (fun z=>nomatch z) fin
 | tup ht' =>
   cases (show u=Value.ref _ from r1)
   obtain ⟨_,_,⟨o',p1,p2,_⟩,_⟩:=I.tuple ht'
   exact PySem.W.kia_tup PySem.W.kitx_tuple I.kIn ⟨o',p1,p2⟩ h1 e (fun z=>nomatch z) fin
def J5t (K:Fg):List D->(D->Prop)->Prop
 | [x,.tup [.ty c1,.ty c2]],P=>match YQ x with|some t=>∃ b,PySem.W.kitAny K (.type t) [.type c1,.type c2]=some b/\P (.bl b)|none=>False
 | _,_=>False
theorem UG {B:BagT}{H0:Hp}{M0:Addr->Prop}{b0:Option Addr}:DM ⟨K,B,H0,M0,b0⟩ (J5r K) (J5t K):=by
 intro M b H xs vs P Q hs rx ho k
 unfold J5t at ho
 split at ho
 case h_2=>exact ho.elim
 case h_1 x c1 c2 =>
  obtain ⟨v,u,rfl,r1,r2⟩:=rx2 rx
  obtain ⟨a,vs,rfl,ht,rr⟩:=(r2:Rep K M H (.tup [.ty c1,.ty c2]) u)
  obtain ⟨w1,rr1,rfl,e1,w2,rr2,rfl,e2,rfl⟩:=rr
  cases (show w1=V.ty c1 from e1)
  cases (show w2=V.ty c2 from e2)
  have sq:SqT K H a [.ty c1,.ty c2]:=ht.elim (fun z=>SqT.of z.2) fun z=>.inr z
  split at ho
  case h_2=>exact ho.elim
  case h_1 t et =>
   obtain ⟨b',e,hp⟩:=ho
   refine ⟨v,a,c1,c2,t,b',rfl,sq,?_,e,k _ _ H hp (show _=_ from rfl) (Kp.refl _ _) hs.ok⟩
   cases x<;>(try (cases et;done))
   case non=>cases et;cases (show v=V.non from r1);exact .non
   case bl y=>cases et;cases (show v=V.bl y from r1);exact .bl _
   case int y=>cases et;cases (show v=V.int y from r1);exact .int _
   case str y=>cases et;cases (show v=V.str y from r1);exact .str _
   case tup ys =>
    cases et
    obtain ⟨a2,vs2,rfl,h2,_⟩:=(r1:Rep K M H (.tup ys) v)
    exact .tup (xs:=vs2) (h2.elim (fun z=>SqT.of z.2) fun z=>.inr z)
   case lst ys =>
    cases et
    obtain ⟨a2,vs2,rfl,h2,_⟩:=(r1:Rep K M H (.lst ys) v)
    exact .lst (SqL.of h2.2)
   case own ys =>
    cases et
    obtain ⟨a2,vs2,rfl,_,_,_,_,h2,_⟩:=r1
    exact .lst (SqL.of h2)
   case frg f d =>
    cases d<;>(try (cases et;done))
    cases et
    obtain ⟨a2,vs2,rfl,h2,_⟩:=(r1.2.2:Rep K _ H (.lst _) v)
    exact .lst (SqL.of h2.2)
section
variable {X:Cx}{W:Wd}{dA:DA}
theorem J0g {i:Nat} {x:Str} {e:Expr} {npos apos cpos pos:Pos} (hK:X.K=W.K) (ha:JA X W [e] dA) (hN:X.N[i]?=some x:=by rfl) (hv:Vis X.env.scope x:=by first|exact Or.inl rfl|exact Or.inr (Or.inl rfl)|exact Or.inr (Or.inr rfl))
 (hd:(x==("__debug__" : Str))=false:=by decide) (hcd:(x==("__classdict__" : Str))=false:=by decide)
 (hbase:attributeBase (.Name x npos) "append" X.env (eval (.Name x npos) X.env)=eval (.Name x npos) X.env:=by rfl)
 (hfew:((backTo cpos (starEach [e] X.env)).all (fun x=>!x.1)&&(backToKw cpos (keywordEach [] X.env)).all (fun x=>x.1.isSome)
  && decide (([e]:List Expr).length+([]:List Keyword).length+(if ([]:List Keyword).isEmpty then 0 else 1)<30))=true:=by rfl)
 (hline:(apos.endLine==cpos.line)=true:=by rfl) (hs:starEach [e] X.env=(false,eval e X.env)::starEach [] X.env:=by rfl) (hplain:(backTo cpos (starEach [] X.env)).any (·.1)=false:=by rfl)
 (hw:swapsWith (.Call (.Attribute (.Name x npos) "append" apos) [e] [] cpos) none pos.line X.env=pure false:=by rfl) :
 JS X W (.Expr (.Call (.Attribute (.Name x npos) "append" apos) [e] [] cpos) pos) (J1h i dA) :=
 TW hK hN hv ha (GC PySem.F.plainAttrs_list PySem.F.slot_list_append PySem.F.type_list_append GY (OS hN hv hd hcd) ha.h hbase hfew hline hs hplain) hw
end
end L2
namespace K
open PySem PySem.Spec PyProof.Rows L2
local macro_rules | `(tactic| walk_at "o") => `(tactic| first | exact Or.inl rfl | exact Or.inr rfl)
local macro_rules | `(tactic| walk_at "v") => `(tactic| first | exact Or.inl rfl | exact Or.inr (Or.inl rfl) | exact Or.inr (Or.inr rfl))
local macro_rules | `(tactic| walk_at "bg") => `(tactic| first | assumption | exact Bag.same (by walk_at "bg") (Same.upd (by assumption)) | exact Bag.same (by walk_at "bg") (by assumption))
local macro_rules | `(tactic| walk_at "hp") => `(tactic| first | assumption | exact AA | (refine Same.get (Same.upd (by assumption)) ?_; walk_at "hp") | (refine Same.get (by assumption) ?_; walk_at "hp") | (refine Keep.tup (by assumption) (by walk_at "bg") ?_; (walk_at "hp")))
local macro_rules | `(tactic| walk_at "sm") => `(tactic| first | exact Same.refl _ | assumption | (refine Same.trans ?_ (Same.upd (by assumption)); walk_at "sm") | (refine Same.trans ?_ (by assumption); walk_at "sm"))
local macro_rules | `(tactic| walk_at "kp") => `(tactic| first | exact Keep.refl _ _ | assumption | (refine Keep.trans ?_ (Same.keep (Same.upd (by assumption))); walk_at "kp") | (refine Keep.trans ?_ (by assumption); walk_at "kp") | (refine Keep.trans ?_ (Same.keep (by assumption)); walk_at "kp"))
local macro_rules | `(tactic| walk_at "bd") => `(tactic| first | assumption | exact Bd.mul (by walk_at "bd") (by walk_at "bd") | exact Bd.add (by walk_at "bd") (by walk_at "bd") | exact Bd.sub (by walk_at "bd") (by walk_at "bd") | exact Bd.neg (by walk_at "bd") | exact Bd.num _ (by decide))
local macro_rules | `(tactic| walk_at "rd1") => `(tactic| first | refine ⟨_,_,rfl,rfl,?_⟩ | refine ⟨_,rfl,?_⟩ | (refine' ⟨_,?xs,_,?vv,rfl,rfl,SqT.of ?ia,?ib,?_⟩; (case ia => walk_at "hp"); (case ib => rfl)) | refine And.intro (CMulB.right (Bd.num _ (by decide))) ?_ | (refine' rd_mul ?m1 ?m2 ?m3 ?_; (case m1 => walk_at "bd"); (case m2 => walk_at "bd"); (case m3 => first | decide | omega)) | refine ⟨rfl,?_⟩)
local macro_rules | `(tactic| walk_at "rd") => `(tactic| repeat (walk_at "rd1"))
local macro_rules | `(tactic| walk_at "al") => `(tactic| (refine ⟨(Nat.le_trans (Nat.le_of_ble_eq_true rfl) BS),?_⟩; intro p en))
local macro_rules | `(tactic| walk_at "w") => `(tactic| (conv => whnf))
local macro_rules | `(tactic| walk_at "go1") => `(tactic| first | refine And.intro (by exact rfl) ?_ | refine IfP.t (by exact rfl) ?_ | refine IfP.f (by exact rfl) ?_ | refine And.intro (by exact Nat.le_of_ble_eq_true rfl) ?_ | refine And.intro (by decide) ?_ | refine And.intro (by dsimp only; decide) ?_ | refine And.intro (CMulB.right (Bd.num _ (by decide))) ?_ | refine And.intro (Or.inl ⟨_,_,by walk_at "bd",by walk_at "bd",by first | decide | omega⟩) ?_| refine And.intro ⟨by decide,by decide⟩ ?_)
local macro_rules | `(tactic| walk_at "g") => `(tactic| ((conv => whnf); repeat (walk_at "go1"; (conv => whnf))))
local macro_rules | `(tactic| walk_at "nz") => `(tactic| simp only [BQ,List.map_cons,List.map_nil,List.length_cons,List.length_nil,List.replicate,List.cons_append,List.nil_append,List.set_cons_succ,List.set_cons_zero,IQ,List.getElem?_cons_succ,List.getElem?_cons_zero,Option.bind_some,Option.bind_none,Option.join_some,Option.join_none,LP,Nat.reduceAdd,Nat.reduceSub,Int.reduceAdd,Nat.zero_add])
local macro_rules | `(tactic| walk_at "gr") => `(tactic| ((try walk_at "nz"); refine for_rec ?_; walk_at "g"))
local macro_rules | `(tactic| walk_at "gc") => `(tactic| ((try walk_at "nz"); refine J1m ?_; walk_at "g"))
local macro_rules | `(tactic| walk_at "sp") => `(tactic| (refine IfP.of (fun h => ?_) (fun h => ?_) <;> (try simp only [decide_eq_true_eq,Bool.bne_false,Bool.bne_true,Bool.not_eq_true',decide_eq_false_iff_not,Bool.not_true,Bool.not_false,Bool.not_eq_false',bne_iff_ne,ne_eq,Bool.not_not] at h)))
local macro_rules | `(tactic| walk_at "gr3") => `(tactic| ((try walk_at "nz"); refine for_rec3 ?_; walk_at "g"))
local macro_rules | `(tactic| walk_at "gc3") => `(tactic| ((try walk_at "nz"); refine YA ?_; walk_at "g"))
def top (i:Nat):Stmt:=PySem.Challenge.pw_onceshade_k67_papers_of_fellows.main.body.getD i (.Pass ⟨0,0,0,0⟩)
structure Bi (mg:Str->Option Value):Prop where
 abs_:mg "abs" = none
 len_:mg "len" = none
 max_:mg "max" = none
 min_:mg "min" = none
 range_:mg "range" = none
 isinstance_:mg "isinstance" = none
 int_:mg "int" = none
 bool_:mg "bool" = none
 tuple_:mg "tuple" = none
 all_:mg "all" = none
 list_:mg "list" = none
 sorted_:mg "sorted" = none
 set_:mg "set" = none
 repr_:mg "repr" = none
 str_:mg "str" = none
 LONGEST_:∃ t,mg "LONGEST" = some (.int 16 t)
 MOST_:∃ t,mg "MOST" = some (.int 24 t)
 GREATEST_COORDINATE_:∃ t,mg "GREATEST_COORDINATE" = some (.int 999999 t)
structure Cs where
 ShadeError:Addr
 NoBody:Addr
 NoFlat:Addr
 NoFace:Addr
 NoBoard:Addr
structure Ex (K:Fg)(mg:Str->Option Value)(base:Heap)(c:Cs):Prop where
 g_ShadeError:mg "ShadeError" = some (.ref c.ShadeError)
 g_NoBody:mg "NoBody" = some (.ref c.NoBody)
 g_NoFlat:mg "NoFlat" = some (.ref c.NoFlat)
 g_NoFace:mg "NoFace" = some (.ref c.NoFace)
 g_NoBoard:mg "NoBoard" = some (.ref c.NoBoard)
 o_NoBody:OwnCls "NoBody" c.NoBody bmV "ValueError.__new__" mg base
 x_NoBody:XCls K c.NoBody
 v_NoBody:PySem.W.subIn K (.ref c.NoBody) (.type "ValueError")=some true
 s_NoBody:PySem.W.subIn K (.ref c.NoBody) (.ref c.ShadeError)=some true
 n_NoBody_NoFlat:PySem.W.kin_not K c.NoBody c.NoFlat=true
 n_NoBody_NoFace:PySem.W.kin_not K c.NoBody c.NoFace=true
 n_NoBody_NoBoard:PySem.W.kin_not K c.NoBody c.NoBoard=true
 sh:XBase K c.ShadeError
 xb_NoBody:XBase K c.NoBody
 xs_NoBody:PySem.W.subIn K (.ref c.NoBody) (.ref c.NoBody)=some true
def Bag3 (n:Nat)(H:Hp)(p:Addr):Prop:=∃ f m st:Int,H p=some (.lst [.int f,.int m,.int st])/\0<=f/\0<=m/\m<4294967296/\0<=st/\st<=n
theorem Bag3.ne {n:Nat}{H:Hp}{p a:Addr}{xs:List V}(b:Bag3 n H p)(h:H a=some (.tup xs)):a≠p:=by
 obtain ⟨f,m,st,e,_⟩:=b
 exact ZX h e (by intro z;cases z)
abbrev FL:Stmt:=top 63
abbrev xl1:List Str:=["_law_script","_law_k"]
theorem FY:FnScope ["_law_script","_law_k","_law_cell"] xl1 (J5 FL):=⟨rfl,rfl,rfl,by decide +kernel,rfl,by decide +kernel,by decide +kernel⟩
def YU (K:Fg):Sp:=fun vs H Q _=>∃ (a:Addr) (ns:List Int) (i:Nat),vs=[.ref a,.int i]/\SqL K H a (ns.map V.int)/\i<=1000/\∀ p H',H p=none->Same H H'->Bag3 0 H' p->Q (.ref p) H'
theorem PD {w:World} {f:Addr} (F:Fun K "_law_bag" "_law_bag" FL f fd) (Z:Bi mg) {c:Cs} (Y:Ex K mg base c):FnOk P w K mg base CX0 1 f fd xl1 (YU K):=by
 refine F.ok FY (fun vs H Q E h=>?_) (fun cdv A outer s H vs Q E hr h=>?_)
 · obtain ⟨a,ns,i,rfl,hS,hi,k⟩:=h
   rfl
 · obtain ⟨a,ns,i,rfl,hS,hi,k⟩:=h
   refine ⟨_,(AW (BR (i:=2) FY.nd rfl (by walk_at "o") (AQ BB (AQ EO Z7 (pv 1)) Z7))
    (AW (UZ (LB KB (pv 1) (EG (J8 K (by rfl)) rfl Z.len_ Z5 (CA (pv 0) ES)) (Q9 _)) (FN (BR (i:=2) FY.nd rfl (by walk_at "o") (GB (DL K (by rfl)) (pv 0) (pv 1) (fun _ _=>rfl)))) LC)
    (FN (HR (LY (CA (AQ EO (EG MT rfl Z.abs_ UK (CA (pv 2) ES)) (EV YF rfl Z.int_ UJ (CA (VD ZR (EG MT rfl Z.abs_ UK (CA (pv 2) ES)) (AQ LZ Z7 Z7) (Q9 _)) ES))) (CA (AQ BB (AQ GE (pv 2) Z7) (AQ EO Z7 (pv 1))) (CA Z7 ES)))))))),?_⟩
   have bi:Bd 64 (i:Int):=Bd.of (by omega) (by omega)
   have fin:∀ c:Int,∀ x:Int,0<=x->∀ p,H p=none->Q (.ref p) (upd H p (.lst [.int x,.int (c % 2147483647+31*(i:Int)),.int 0])):=fun c x hx p hp=>by
    have h1:=Int.emod_nonneg c (show (2147483647:Int)≠0 by decide)
    have h2:=Int.emod_lt_of_pos c (show (0:Int)<2147483647 by decide)
    exact k p _ hp (Same.upd hp) ⟨_,_,_,AA,hx,by omega,by omega,by decide,by decide⟩
   have hab:∀ c:Int,0<=(if c<0 then -c else c):=fun c=>by split<;>omega
   have body:∀ c:Int,∀ b:Bool,0<=(if c<0 then -c else c)*(if b=true then 1 else 0):=fun c b=>Int.mul_nonneg (hab c) (by split<;>decide)
   walk_at "rd"
   refine ⟨_,_,rfl,.inl hS,?_⟩
   walk_at "rd"
   refine Q1m (fun h=>?_) (fun h=>?_)
   · have h:(i:Int)<((ns.map V.int).length:Nat):=J6b h
     have hi:i<ns.length:=by rw [List.length_map] at h;omega
     walk_at "rd"
     refine ⟨_,_,_,_,rfl,rfl,hS,CC (v:=V.int ns[i]) (by rw [List.getElem?_map,List.getElem?_eq_getElem hi];rfl),?_⟩
     walk_at "rd"
     refine ⟨⟨by decide,by decide,by decide⟩,?_⟩
     walk_at "rd"
     refine .inr ⟨_,rfl,?_⟩
     walk_at "rd"
     refine ⟨CMulB.right (Bd.of (by split<;>omega) (by split<;>omega)),?_⟩
     walk_at "rd"
     refine ⟨(by show (0:Int)<2147483647;decide),?_⟩
     walk_at "rd"
     refine ⟨(Nat.le_trans (Nat.le_of_ble_eq_true rfl) BS),?_⟩
     exact fin _ _ (body _ _)
   · walk_at "rd"
     refine ⟨⟨by decide,by decide,by decide⟩,?_⟩
     walk_at "rd"
     refine .inr ⟨_,rfl,?_⟩
     walk_at "rd"
     refine ⟨CMulB.right (Bd.of (by split<;>omega) (by split<;>omega)),?_⟩
     walk_at "rd"
     refine ⟨(by show (0:Int)<2147483647;decide),?_⟩
     walk_at "rd"
     refine ⟨(Nat.le_trans (Nat.le_of_ble_eq_true rfl) BS),?_⟩
     exact fin _ _ (body _ _)
abbrev CG:Stmt:=top 64
abbrev xl2:List Str:=["_law_bag_here","_law_many","_law_digit","_law_primes","_law_step","_law_base","_law_found","_law_prime"]
abbrev xl3:List Str:=["_law_bag_here","_law_many"]
theorem AY:FnScope xl2 xl3 (J5 CG):=⟨rfl,rfl,rfl,by decide +kernel,rfl,by decide +kernel,by decide +kernel⟩
def UV:Sp:=fun vs H Q _=>∃ (p:Addr) (many:Int) (n:Nat),vs=[.ref p,.int many]/\Bag3 n H p/\n<=9000/\0<many/\many<18446744073709551616/\∀ (r:Int) H',0<=r->r<many->Bag3 (n+1) H' p->Keep p H H'->Q (.int r) H'
abbrev xc1 (P:Program) (w:World) (K:Fg) (mg:Str → Option Value) (base:Heap) (f:Addr) (cdv:Value) (A:Around) (outer:List Env) (s:Shared) (H:Hp) (E:XK):Cx:=CI CX0 P w K mg base xl2 "_law_take" (J5 CG) f cdv A outer s H E
theorem NC {w:World} {f:Addr} (F:Fun K "_law_take" "_law_take" CG f fd) (Z:Bi mg) {c:Cs} (Y:Ex K mg base c):FnOk P w K mg base CX0 1 f fd xl3 UV:=by
 refine F.ok AY (fun vs H Q E h=>?_) (fun cdv A outer s H vs Q E hr h=>?_)
 · obtain ⟨p,many,n,rfl,⟨dg,m,st,hp,hf,hm,hm2,h0,h1⟩,hn,mp,mb,k⟩:=h
   rfl
 · obtain ⟨p,many,n,rfl,⟨dg,m,st,hp,hf,hm,hm2,h0,h1⟩,hn,mp,mb,k⟩:=h
   obtain ⟨es1,hes1⟩:∃ es:List Expr,es=List.map (fun c:Int×Nat×Pos=>Expr.Constant (.int c.1) c.2.1 c.2.2) [(2147483647,0,⟨250,19,250,29⟩),(2147483629,0,⟨250,31,250,41⟩),(2147483587,0,⟨250,43,250,53⟩),(2147483579,0,⟨250,55,250,65⟩),(2147483563,0,⟨250,67,250,77⟩),(2147483549,0,⟨250,79,250,89⟩),(2147483543,0,⟨250,91,250,101⟩),(2147483497,0,⟨250,103,250,113⟩),(2147483489,0,⟨250,115,250,125⟩),(2147483477,0,⟨250,127,250,137⟩),(2147483423,0,⟨250,139,250,149⟩),(2147483399,0,⟨250,151,250,161⟩)]:=⟨_,rfl⟩
   have hT1:=BR (X:=(xc1 P w K mg base f cdv A outer s H E).nox) (i:=3) (x:="_law_primes") (pos':=⟨250,4,250,15⟩) (pos:=⟨250,4,250,162⟩) AY.nd rfl (by walk_at "o") (TH (x1:=0) (pos:=⟨250,18,250,162⟩) [(2147483647,0,⟨250,19,250,29⟩),(2147483629,0,⟨250,31,250,41⟩),(2147483587,0,⟨250,43,250,53⟩),(2147483579,0,⟨250,55,250,65⟩),(2147483563,0,⟨250,67,250,77⟩),(2147483549,0,⟨250,79,250,89⟩),(2147483543,0,⟨250,91,250,101⟩),(2147483497,0,⟨250,103,250,113⟩),(2147483489,0,⟨250,115,250,125⟩),(2147483477,0,⟨250,127,250,137⟩),(2147483423,0,⟨250,139,250,149⟩),(2147483399,0,⟨250,151,250,161⟩)] hes1) rfl (.inl rfl)
   generalize hst1:Stmt.Assign [Expr.Name "_law_primes" ⟨250,4,250,15⟩] (Expr.Tuple es1 0 ⟨250,18,250,162⟩) ⟨250,4,250,162⟩=st1 at hT1
   have hR1:=((AW (IY (AQ BB (GB (DL K (by rfl)) (pv 0) Z7 (fun _ _=>rfl)) Z7) (LW (pv 0) Z7 FX))
    (AW (BR (i:=4) AY.nd rfl (by walk_at "o") (GB (DL K (by rfl)) (pv 0) Z7 (fun _ _=>rfl)))
    (AW (BR (i:=5) AY.nd rfl (by walk_at "o") (AQ BB (AQ BB (AQ EO (GB (DL K (by rfl)) (pv 0) Z7 (fun _ _=>rfl)) (AQ BB (AQ EO Z7 (pv 4)) Z7)) (AQ EO (AQ EO Z7 (pv 4)) (pv 4))) Z7))
    (AW (BR (i:=6) AY.nd rfl (by walk_at "o") (AQ GE (AQ LZ (pv 5) Z7) (GB (PN K (by rfl)) (pv 3) (AQ GE (pv 4) Z7) (fun _ _=>rfl))))
    (AW (BR (i:=7) AY.nd rfl (by walk_at "o") (GB (PN K (by rfl)) (pv 3) (AQ GE (AQ BB (pv 4) Z7) Z7) (fun _ _=>rfl)))
    (FN (HR (AQ GE (AQ MA (AQ GE (AQ EO (pv 6) (AQ BB (AQ MA (pv 6) Z7) Z7)) (pv 7)) Z7) (pv 1))))))))):PSs (xc1 P w K mg base f cdv A outer s H E).nox ((BP CG).drop 2) _)
   have hV1:=@ZF _ _ _ (AW hT1 hR1)
   refine ⟨_,(AW (UZ (LB RF (GB (DL K (by rfl)) (pv 0) Z7 (fun _ _=>rfl)) Z7 (Q9 _)) (AW (BR (i:=2) AY.nd rfl (by walk_at "o") (AQ GE (GB (DL K (by rfl)) (pv 0) Z7 (fun _ _=>rfl)) (pv 1)))
    (AW (IY (AQ MA (GB (DL K (by rfl)) (pv 0) Z7 (fun _ _=>rfl)) (pv 1)) (LW (pv 0) Z7 FX))
    (FN (HR (pv 2))))) LC)
    hV1),?_⟩
   have md:∀ x:Int,0<=x % many/\x % many<many:=fun x=>⟨Int.emod_nonneg _ (by omega),Int.emod_lt_of_pos _ mp⟩
   have bmany:Bd 64 many:=Bd.of (by omega) (by omega)
   walk_at "rd"
   refine ⟨_,_,_,_,rfl,rfl,SqL.of hp,rfl,?_⟩
   walk_at "rd"
   refine Q1m (fun h=>?_) (fun h=>?_)
   · have h:0<dg:=J6b h
     walk_at "rd"
     refine ⟨_,_,_,_,rfl,rfl,SqL.of hp,rfl,?_⟩
     walk_at "rd"
     refine ⟨mp,?_⟩
     walk_at "rd"
     refine ⟨_,_,_,_,rfl,rfl,SqL.of hp,rfl,?_⟩
     walk_at "rd"
     refine ⟨⟨mp,64,bmany,by decide⟩,?_⟩
     walk_at "rd"
     refine ⟨_,_,_,0,rfl,rfl,hp,rfl,?_⟩
     walk_at "rd"
     exact k _ _ (md dg).1 (md dg).2 ⟨_,_,_,AA,Int.ediv_nonneg hf (by omega),hm,hm2,h0,by omega⟩ Keep.upd
   · walk_at "rd"
     refine ⟨by rw [<- hst1,hes1];rfl,?_⟩
     walk_at "al"
     rename_i pr npr
     generalize hH1:upd H pr _=H1
     have S1:Same H H1:=by rw [<- hH1];exact Same.upd npr
     have epr:H1 pr=some (HO.tup [.int 2147483647,.int 2147483629,.int 2147483587,.int 2147483579,.int 2147483563,.int 2147483549,.int 2147483543,.int 2147483497,.int 2147483489,.int 2147483477,.int 2147483423,.int 2147483399]):=by rw [<- hH1];exact AA
     have hp1:=S1 _ _ hp
     have npp:pr≠p:=ZX epr hp1 (by intro z;cases z)
     clear hH1
     walk_at "rd"
     refine ⟨_,_,_,_,rfl,rfl,SqL.of hp1,rfl,?_⟩
     walk_at "rd"
     refine ⟨_,_,_,2,rfl,rfl,hp1,rfl,?_⟩
     generalize hH2:upd H1 p _=H2
     have hp2:H2 p=some (HO.lst [.int dg,.int m,.int (st+1)]):=by rw [<- hH2];exact AA
     have epr2:H2 pr=some (HO.tup [.int 2147483647,.int 2147483629,.int 2147483587,.int 2147483579,.int 2147483563,.int 2147483549,.int 2147483543,.int 2147483497,.int 2147483489,.int 2147483477,.int 2147483423,.int 2147483399]):=by rw [<- hH2,V1 npp];exact epr
     have K2:Keep p H H2:=by rw [<- hH2];exact S1.keep.trans Keep.upd
     clear hH2
     have b1:Bd 32 m:=Bd.of (by omega) (by omega)
     have b2:Bd 15 (st+1):=Bd.of (by omega) (by omega)
     walk_at "rd"
     refine ⟨_,_,_,_,rfl,rfl,SqL.of hp2,rfl,?_⟩
     walk_at "rd"
     refine ⟨_,_,_,_,rfl,rfl,SqL.of hp2,rfl,?_⟩
     walk_at "rd"
     have pw:(m*(2*(st+1)+1)+7919*(st+1)*(st+1)+17).natAbs<2 ^ 64:=by
      have q1:0<=m*(2*(st+1)+1)/\m*(2*(st+1)+1)<=4294967296*20000:=⟨Int.mul_nonneg hm (by omega),Int.mul_le_mul (by omega) (by omega) (by omega) (by decide)⟩
      have q2:0<=7919*(st+1)*(st+1)/\7919*(st+1)*(st+1)<=7919*10000*10000:=⟨Int.mul_nonneg (by omega) (by omega),Int.mul_le_mul (by omega) (by omega) (by omega) (by decide)⟩
      omega
     refine ⟨⟨by decide,by decide,pw⟩,?_⟩
     walk_at "rd"
     refine ⟨(by show (0:Int)<12;decide),?_⟩
     have ixp:∀ j:Int,∃ q:Int,atI [.int 2147483647,.int 2147483629,.int 2147483587,.int 2147483579,.int 2147483563,.int 2147483549,.int 2147483543,.int 2147483497,.int 2147483489,.int 2147483477,.int 2147483423,.int 2147483399] (j % 12)=some (V.int q)/\0<q/\q<=2147483647:=fun j=>by
      obtain ⟨v,ev,mv⟩:=J2f (xs:=[.int 2147483647,.int 2147483629,.int 2147483587,.int 2147483579,.int 2147483563,.int 2147483549,.int 2147483543,.int 2147483497,.int 2147483489,.int 2147483477,.int 2147483423,.int 2147483399]) (i:=j % 12) (Int.emod_nonneg _ (by decide)) (Int.emod_lt_of_pos _ (by decide))
      simp only [List.mem_cons,List.not_mem_nil,or_false] at mv
      rcases mv with e|e|e|e|e|e|e|e|e|e|e|e<;>exact ⟨_,e▸ev,by decide,by decide⟩
     obtain ⟨q1,x1,q10,q11⟩:=ixp (st+1)
     obtain ⟨q2,x2,q20,q21⟩:=ixp (st+1+5)
     refine ⟨_,_,_,_,rfl,rfl,SqT.of epr2,x1,?_⟩
     walk_at "rd"
     refine ⟨q10,?_⟩
     have fb:=Int.emod_lt_of_pos ((m*(2*(st+1)+1)+7919*(st+1)*(st+1)+17) ^ (3:Int).toNat) q10
     have f0:=Int.emod_nonneg ((m*(2*(st+1)+1)+7919*(st+1)*(st+1)+17) ^ (3:Int).toNat) (show q1≠0 by omega)
     have bfd:Bd 32 ((m*(2*(st+1)+1)+7919*(st+1)*(st+1)+17) ^ (3:Int).toNat % q1):=Bd.of (by omega) (by omega)
     have bfq:Bd 40 ((m*(2*(st+1)+1)+7919*(st+1)*(st+1)+17) ^ (3:Int).toNat % q1 / 4096+5):=Bd.of (by omega) (by omega)
     walk_at "rd"
     refine ⟨(by show (0:Int)<12;decide),?_⟩
     refine ⟨_,_,_,_,rfl,rfl,SqT.of epr2,x2,?_⟩
     walk_at "rd"
     refine ⟨⟨by decide,64,Bd.num _ (by decide),by decide⟩,?_⟩
     walk_at "rd"
     refine ⟨q20,?_⟩
     walk_at "rd"
     refine ⟨⟨by decide,64,Bd.num _ (by decide),by decide⟩,?_⟩
     walk_at "rd"
     refine ⟨mp,?_⟩
     exact k _ _ (md _).1 (md _).2 ⟨_,_,_,hp2,hf,hm,hm2,by omega,by omega⟩ K2
def BT:BagT:=⟨fun p H=>∃ f m st:Int,H p=some (.lst [.int f,.int m,.int st])/\0<=f/\0<=m/\m<4294967296/\0<=st,fun p H H' b k=>by
 obtain ⟨f,m,q,e,r⟩:=b
 exact ⟨f,m,q,k _ e,r⟩,fun p H b=>by
 obtain ⟨f,m,q,e,r⟩:=b
 exact ⟨_,e⟩⟩
theorem J3x {p:Addr}{H H':Hp}(k:Keep p H H'):Kp (some p) H H':=fun c o n e=>k c o (fun z=>n (by rw [z])) e
theorem Bag3.ok {n:Nat}{H:Hp}{p:Addr}(b:Bag3 n H p):BT.ok p H/\GO p H<=n:=by
 obtain ⟨f,m,st,e,h1,h2,h3,h4,h5⟩:=b
 refine ⟨⟨f,m,st,e,h1,h2,h3,h4⟩,?_⟩
 unfold GO
 rw [e]
 show st.toNat<=n
 omega
theorem Bag3.of {H:Hp}{p:Addr}(b:BT.ok p H):Bag3 (GO p H) H p:=by
 obtain ⟨f,m,st,e,h1,h2,h3,h4⟩:=b
 refine ⟨f,m,st,e,h1,h2,h3,h4,?_⟩
 unfold GO
 rw [e]
 show st<=((st.toNat:Nat):Int)
 omega
def OP:List D->Prop:=fun ds=>∃ (ns:List Int) (i:Nat),ds=[.scr ns,.int i]/\i<=1000
theorem QU:∀ vs H Q E,(QP K BT OP) vs H Q E->(YU K) vs H Q E:=by
 rintro vs H Q E ⟨M,b,ds,hr,⟨ns,i,rfl,hi⟩,k⟩
 obtain ⟨v,r,rfl,⟨a,rfl,hS⟩,u,r',rfl,h2,h3⟩:=hr
 cases (show _=_ from h2)
 cases (show _=_ from h3)
 exact ⟨a,ns,i,rfl,hS.imp (·.2) id,hi,fun p H' hp S b=>k p H' hp S b.ok.1 (by have:=b.ok.2;omega)⟩
theorem RJ {w:World} {f:Addr} (F:Fun K "_law_bag" "_law_bag" FL f fd) (Z:Bi mg) {c:Cs} (Y:Ex K mg base c):FnOk P w K mg base CX0 1 f fd xl1 (QP K BT OP):=FnOk.imp (PD F Z Y) QU
def HZ:MV:=fun ds P n=>∃ (many:Int),ds=[.bag,.int many]/\n<=9000/\0<many/\many<18446744073709551616/\∀ (r:Int) (n':Nat),0<=r->r<many->n'<=n+1->P (.int r) n'
theorem OF:∀ vs H Q E,(AG K BT HZ) vs H Q E->UV vs H Q E:=by
 rintro vs H Q E ⟨M,b,ds,P,⟨many,rfl,hn,h0,h1,hP⟩,⟨v,r,rfl,⟨p,rfl,rfl⟩,u,r',rfl,h2,h3⟩,ho,hb,hd,hq⟩
 cases (show _=_ from h2)
 cases (show _=_ from h3)
 exact ⟨p,many,GO p H,rfl,Bag3.of (ho p rfl),hn,h0,h1,fun r H' r0 r1 b' k=>hq _ _ H' (hP r _ r0 r1 b'.ok.2) rfl (J3x k) fun q e=>by cases e;exact b'.ok.1⟩
theorem OY {w:World} {f:Addr} (F:Fun K "_law_take" "_law_take" CG f fd) (Z:Bi mg) {c:Cs} (Y:Ex K mg base c):FnOk P w K mg base CX0 1 f fd xl3 (AG K BT HZ):=FnOk.imp (NC F Z Y) OF
theorem AD {d:D}(h:Y3 d=true):AH d=true:=by cases d<;>first|rfl|(unfold Y3 at h;cases h)
theorem okRp_pl {d:D}(h:Y3 d=true):plain d=true:=by cases d<;>first|rfl|(unfold Y3 at h;cases h)
theorem JD:∀ {ds:List D},HK ds=true->∀ d∈ds,Y3 d=true
 | d::ds,h,e,m=>by
   unfold HK at h
   obtain ⟨h1,h2⟩:=(Bool.and_eq_true _ _).mp h
   rcases List.mem_cons.mp m with rfl|m
   · exact h1
   · exact JD h2 e m
theorem DI {xs:List D}(h:Y3 (.tup xs)=true):∀ d∈xs,Y3 d=true:=JD (by unfold Y3 at h;exact h)
theorem EX {xs:List D}(h:Y3 (.lst xs)=true):∀ d∈xs,Y3 d=true:=JD (by unfold Y3 at h;exact h)
theorem XF {α:Type}{xs:List α}(h:xs.length=2):∃ a b,xs=[a,b]:=match xs,h with | [a,b],_=>⟨a,b,rfl⟩
theorem J8e {α:Type}{xs:List α}(h:xs.length=3):∃ a b c,xs=[a,b,c]:=match xs,h with | [a,b,c],_=>⟨a,b,c,rfl⟩
def whD:D->Bool
 | .int _=>true
 | _=>false
def wtD (n:Nat):D->Bool
 | .tup xs=>decide (xs.length=n)&&xs.all whD
 | _=>false
theorem IB {d:D}(h:whD d=true):∃ i,d=.int i:=by cases d<;>first|exact ⟨_,rfl⟩|cases h
theorem wt3 {d:D}(h:wtD 3 d=true):∃ x y z:Int,d=.tup [.int x,.int y,.int z]:=by
 cases d<;>try (simp [wtD] at h;done)
 rename_i xs
 obtain ⟨h1,h2⟩:=(Bool.and_eq_true _ _).mp h
 obtain ⟨a,b,c,rfl⟩:=J8e (of_decide_eq_true h1)
 have hw:=List.all_eq_true.mp h2
 obtain ⟨x,rfl⟩:=IB (hw a (by simp))
 obtain ⟨y,rfl⟩:=IB (hw b (by simp))
 obtain ⟨z,rfl⟩:=IB (hw c (by simp))
 exact ⟨x,y,z,rfl⟩
abbrev HP:Stmt:=top 7
abbrev xl4:List Str:=["thing"]
theorem QZ:FnScope xl4 xl4 (J5 HP):=⟨rfl,rfl,rfl,by decide +kernel,rfl,by decide +kernel,by decide +kernel⟩
def IR:DSp:=fun ds P _=>∃ d,ds=[d]/\Y3 d=true/\P (.bl (whD d))
theorem RH {w:World} {f:Addr} (F:Fun K "is_whole" "is_whole" HP f fd) (Z:Bi mg) {c:Cs} (Y:Ex K mg base c):FnOk P w K mg base CX0 1 f fd xl4 (Q6 K BT IR):=by
 refine F.okD QZ (fun ds PP Ed h=>?_) (fun cdv A outer s H E M bg ds PP Ed hr hS_=>?_)
 · obtain ⟨d,rfl,hd,hP⟩:=h
   rfl
 · obtain ⟨d,rfl,hd,hP⟩:=hS_
   refine ⟨_,(Q3 (V8 (AL (J4 (Q8 K (by rfl)) Y8 rfl Z.isinstance_ Q5 (J0 (jdv 0) (J0 (Z2 rfl Z.int_ UJ) J1))) (CQ (VI (J4 (Q8 K (by rfl)) Y8 rfl Z.isinstance_ Q5 (J0 (jdv 0) (J0 (Z2 rfl Z.bool_ QN) J1)))))))),?_⟩
   cases d<;>(try (simp [Y3] at hd;done))
   all_goals first
    | (walk_at "g";refine ⟨false,by rfl,?_⟩;walk_at "g";exact hP)
    | (walk_at "g";refine ⟨true,by rfl,?_⟩;walk_at "g";refine ⟨true,by rfl,?_⟩;walk_at "g";exact hP)
    | (walk_at "g";refine ⟨true,by rfl,?_⟩;walk_at "g";refine ⟨false,by rfl,?_⟩;walk_at "g";exact hP)
abbrev BN:Stmt:=top 8
abbrev xl5:List Str:=["thing","many"]
theorem IC:FnScope xl5 xl5 (J5 BN):=⟨rfl,rfl,rfl,by decide +kernel,rfl,by decide +kernel,by decide +kernel⟩
def HY:DSp:=fun ds P _=>∃ (d:D) (n:Nat),ds=[d,.int n]/\Y3 d=true/\n<=100/\P (.bl (wtD n d))
structure C_is_whole_tuple (P:Program)(w:World)(K:Fg)(mg:Str->Option Value)(base:Heap)(c:Cs):Prop where
 is_whole_:Callee P w K mg base CX0 "is_whole" 1 xl4 (Q6 K BT IR)
abbrev xc2 (P:Program) (w:World) (K:Fg) (mg:Str → Option Value) (base:Heap) (f:Addr) (cdv:Value) (A:Around) (outer:List Env) (s:Shared) (H:Hp) (E:XK):Cx:=CI CX0 P w K mg base xl5 "is_whole_tuple" (J5 BN) f cdv A outer s H E
theorem IG {w:World} {f:Addr} (F:Fun K "is_whole_tuple" "is_whole_tuple" BN f fd) (Z:Bi mg) {c:Cs} (Y:Ex K mg base c) (G:C_is_whole_tuple P w K mg base c):FnOk P w K mg base CX0 2 f fd xl5 (Q6 K BT HY):=by
 refine F.okD IC (fun ds PP Ed h=>?_) (fun cdv A outer s H E M bg ds PP Ed hr hS_=>?_)
 · obtain ⟨d,n,rfl,hd,hn1,hP⟩:=h
   rfl
 · obtain ⟨d,n,rfl,hd,hn1,hP⟩:=hS_
   refine ⟨_,(Q3 (V8 (AL (J4 (Q8 K (by rfl)) Y8 rfl Z.isinstance_ Q5 (J0 (jdv 0) (J0 (Z2 rfl Z.tuple_ AO) J1))) (AL (AJ DH BJ (J4 (J8 K (by rfl)) AC rfl Z.len_ Z5 (J0 (jdv 0) J1)) (jdv 1) (Q9 _)) (CQ (J4 (AI K (by rfl) (by rfl)) CS rfl Z.all_ CU (J0 (AB (X:=(xc2 P w K mg base f cdv A outer s H E).nox) (V5 0) (FH (X:=(xc2 P w K mg base f cdv A outer s H E).nox) (N':=["part"]) (map:=[none]) (by rfl) (by rfl) (by decide +kernel) (by rfl) True.intro (gkeep_name rfl) fun cl0 C0 fp0 s0 H0=>⟨(pg_name (X:=(Q0 (xc2 P w K mg base f cdv A outer s H E).nox ["part"] _ cl0 C0 fp0 s0 H0)) (i:=0) (V9 ["part"] (by decide +kernel)) rfl (by walk_at "o")),Z1,(Y1 (X:=(Q0 (xc2 P w K mg base f cdv A outer s H E).nox ["part"] _ cl0 C0 fp0 s0 H0)) G.is_whole_ hr.m rfl (J0 (jdv 0) J1))⟩) (Z4 (by rfl) (jdv 0))) J1))))))),?_⟩
   by_cases ht:∃ xs,d=.tup xs
   · obtain ⟨xs,rfl⟩:=ht
     have ha:=DI hd
     have key:∀ b:Bool,b=wtD n (.tup xs)->PP (.bl b):=fun b h=>by rw [h];exact hP
     walk_at "g"
     refine ⟨true,by rfl,?_⟩
     walk_at "g"
     walk_at "sp"
     · rename_i hn
       walk_at "g"
       refine And.intro (by omega) ?_
       refine AN (fun x=>.bl (whD x)) (fun x Q hx q=>?_) (fun _ _=>rfl) ?_
       · have t:=ha x hx
         walk_at "g"
         exact ⟨by show (AH x&&true)=true;rw [AD t];rfl,x,rfl,t,q⟩
       · have eb:FG (xs.map fun x=>D.bl (whD x))=some (xs.map whD):=by
          have:=JV (xs.map whD)
          rw [List.map_map] at this
          exact this
         walk_at "g"
         rw [eb]
         walk_at "g"
         refine key _ ?_
         show _=(decide (xs.length=n)&&xs.all whD)
         rw [decide_eq_true (by omega)]
         simp [List.all_map]
     · rename_i hn
       walk_at "g"
       refine key _ ?_
       show _=(decide (xs.length=n)&&xs.all whD)
       rw [decide_eq_false (by omega)]
       simp
   · have ew:wtD n d=false:=by
      cases d<;>first|rfl|exact absurd ⟨_,rfl⟩ ht
     rw [ew] at hP
     cases d<;>(try (exact absurd ⟨_,rfl⟩ ht))<;>(try (simp [Y3] at hd;done))
     all_goals
      walk_at "g"
      refine ⟨false,by rfl,?_⟩
      walk_at "g"
      exact hP
abbrev EM:Stmt:=top 23
theorem OJ:FnScope xl4 xl4 (J5 EM):=⟨rfl,rfl,rfl,by decide +kernel,rfl,by decide +kernel,by decide +kernel⟩
def in6 (a:Int):Bool:=decide (-1000000<a/\a<1000000)
def HW:D->Bool
 | .tup [.int a,.int b,.int c]=>in6 a&&(in6 b&&in6 c)
 | _=>false
theorem VY {d:D}(h:wtD 3 d=false):HW d=false:=by
 unfold HW
 split
 · cases h
 · rfl
theorem PR (a:Int):decide ((if a<0 then -a else a)<=999999)=in6 a:=by
 unfold in6
 by_cases h:a<0
 · rw [if_pos h];exact decide_eq_decide.mpr ⟨fun _=>⟨by omega,by omega⟩,fun _=>by omega⟩
 · rw [if_neg h];exact decide_eq_decide.mpr ⟨fun _=>⟨by omega,by omega⟩,fun _=>by omega⟩
def J2k:DSp:=fun ds P _=>∃ d:D,ds=[d]/\Y3 d=true/\P (.bl (HW d))
structure C_is_corner (P:Program)(w:World)(K:Fg)(mg:Str->Option Value)(base:Heap)(c:Cs):Prop where
 is_whole_tuple_:Callee P w K mg base CX0 "is_whole_tuple" 2 xl5 (Q6 K BT HY)
abbrev xc3 (P:Program) (w:World) (K:Fg) (mg:Str → Option Value) (base:Heap) (f:Addr) (cdv:Value) (A:Around) (outer:List Env) (s:Shared) (H:Hp) (E:XK):Cx:=CI CX0 P w K mg base xl4 "is_corner" (J5 EM) f cdv A outer s H E
theorem OX {w:World} {f:Addr} (F:Fun K "is_corner" "is_corner" EM f fd) (Z:Bi mg) {c:Cs} (Y:Ex K mg base c) (G:C_is_corner P w K mg base c):FnOk P w K mg base CX0 3 f fd xl4 (Q6 K BT J2k):=by
 refine F.okD OJ (fun ds PP Ed h=>?_) (fun cdv A outer s H E M bg ds PP Ed hr hS_=>?_)
 · obtain ⟨d,rfl,hd,hP⟩:=h
   rfl
 · obtain ⟨d,rfl,hd,hP⟩:=hS_
   refine ⟨_,(Q3 (V8 (AL (Y1 G.is_whole_tuple_ hr.m rfl (J0 (jdv 0) (J0 J3 J1))) (CQ (J4 (AI K (by rfl) (by rfl)) CS rfl Z.all_ CU (J0 (AB (X:=(xc3 P w K mg base f cdv A outer s H E).nox) (V5 0) (FH (X:=(xc3 P w K mg base f cdv A outer s H E).nox) (N':=["number"]) (map:=[none]) (by rfl) (by rfl) (by decide +kernel) (by rfl) True.intro (gkeep_name rfl) fun cl0 C0 fp0 s0 H0=>⟨(pg_name (X:=(Q0 (xc3 P w K mg base f cdv A outer s H E).nox ["number"] _ cl0 C0 fp0 s0 H0)) (i:=0) (V9 ["number"] (by decide +kernel)) rfl (by walk_at "o")),Z1,(AJ (X:=(Q0 (xc3 P w K mg base f cdv A outer s H E).nox ["number"] _ cl0 C0 fp0 s0 H0)) KC BV (J4 MT J9u rfl Z.abs_ UK (J0 (jdv 0) J1)) (JL rfl Z.GREATEST_COORDINATE_) (Q9 _))⟩) (Z4 (by rfl) (jdv 0))) J1)))))),?_⟩
   walk_at "g"
   refine ⟨by show (AH d&&true)=true;rw [AD hd];rfl,d,3,rfl,hd,by decide,?_⟩
   cases hw:wtD 3 d
   · rw [VY hw] at hP
     walk_at "g"
     exact hP
   · obtain ⟨x,y,z,rfl⟩:=wt3 hw
     walk_at "g"
     walk_at "gc"
     have hP:PP (.bl (in6 x&&(in6 y&&in6 z))):=hP
     rw [<- PR,<- PR,<- PR,<- Bool.and_true (decide ((if z<0 then -z else z)<=999999))] at hP
     exact hP
abbrev IV:Stmt:=top 24
theorem CD:FnScope ["thing","many","i","j","k"] xl5 (J5 IV):=⟨rfl,rfl,rfl,by decide +kernel,rfl,by decide +kernel,by decide +kernel⟩
def IL (a b c n:Int):Bool:=decide (a≠b/\b≠c/\c≠a/\(0<=a/\0<=b/\0<=c)/\a<n/\b<n/\c<n)
def EL (n:Int):D->Bool
 | .tup [.int a,.int b,.int c]=>IL a b c n
 | _=>false
theorem VP {d:D}{n:Int}(h:wtD 3 d=false):EL n d=false:=by
 unfold EL
 split
 · cases h
 · rfl
def J2j:DSp:=fun ds P _=>∃ (d:D) (n:Int),ds=[d,.int n]/\Y3 d=true/\P (.bl (EL n d))
structure C_is_face (P:Program)(w:World)(K:Fg)(mg:Str->Option Value)(base:Heap)(c:Cs):Prop where
 is_whole_tuple_:Callee P w K mg base CX0 "is_whole_tuple" 2 xl5 (Q6 K BT HY)
theorem TK {w:World} {f:Addr} (F:Fun K "is_face" "is_face" IV f fd) (Z:Bi mg) {c:Cs} (Y:Ex K mg base c) (G:C_is_face P w K mg base c):FnOk P w K mg base CX0 3 f fd xl5 (Q6 K BT J2j):=by
 refine F.okD CD (fun ds PP Ed h=>?_) (fun cdv A outer s H E M bg ds PP Ed hr hS_=>?_)
 · obtain ⟨d,n,rfl,hd,hP⟩:=h
   rfl
 · obtain ⟨d,n,rfl,hd,hP⟩:=hS_
   refine ⟨_,(Q2 (AR (Y4 (Q7 (by rfl) (Y1 G.is_whole_tuple_ hr.m rfl (J0 (jdv 0) (J0 J3 J1))) (fun _=>rfl))) (Q3 (V8 AK)) Z0)
    (Q2 (GZ (DX [2,3,4]) (jdv 0) (PG.or (BO (n:=3) K (by rfl) (by rfl) (J7 (pg_name (i:=2) CD.nd rfl (by walk_at "o")) (J7 (pg_name (i:=3) CD.nd rfl (by walk_at "o")) (J7 (pg_name (i:=4) CD.nd rfl (by walk_at "o")) Z3)))) (BZ (n:=3) K (by rfl) (by rfl) (J7 (pg_name (i:=2) CD.nd rfl (by walk_at "o")) (J7 (pg_name (i:=3) CD.nd rfl (by walk_at "o")) (J7 (pg_name (i:=4) CD.nd rfl (by walk_at "o")) Z3))))))
    (Q3 (V8 (AL (AJ KA GH (jdv 2) (jdv 3) (Q9 _)) (AL (AJ KA GH (jdv 3) (jdv 4) (Q9 _)) (AL (AJ KA GH (jdv 4) (jdv 2) (Q9 _)) (AL (AJ ZR BV (J4 (JR K (by rfl) (by rfl)) HG rfl Z.min_ QL (J0 (jdv 0) J1)) J3 (Q9 _)) (CQ (AJ KB BV (J4 (JU K (by rfl) (by rfl)) HG rfl Z.max_ QM (J0 (jdv 0) J1)) (jdv 1) (Q9 _))))))))))),?_⟩
   walk_at "g"
   refine ⟨by show (AH d&&true)=true;rw [AD hd];rfl,d,3,rfl,hd,by decide,?_⟩
   cases hw:wtD 3 d
   · rw [VP hw] at hP
     walk_at "g"
     exact hP
   · obtain ⟨a,b,c,rfl⟩:=wt3 hw
     have hP:PP (.bl (IL a b c n)):=hP
     have hf:(¬ (a≠b/\b≠c/\c≠a/\(0<=a/\0<=b/\0<=c)/\a<n/\b<n/\c<n))->PP (.bl false):=fun q=>by
      unfold IL at hP
      rw [decide_eq_false q] at hP
      exact hP
     walk_at "g"
     by_cases e1:a=b
     · refine IfP.f (by rw [decide_eq_true e1];rfl) ?_
       exact hf fun q=>q.1 e1
     refine IfP.t (by rw [decide_eq_false e1];rfl) ?_
     walk_at "g"
     by_cases e2:b=c
     · refine IfP.f (by rw [decide_eq_true e2];rfl) ?_
       exact hf fun q=>q.2.1 e2
     refine IfP.t (by rw [decide_eq_false e2];rfl) ?_
     walk_at "g"
     by_cases e3:c=a
     · refine IfP.f (by rw [decide_eq_true e3];rfl) ?_
       exact hf fun q=>q.2.2.1 e3
     refine IfP.t (by rw [decide_eq_false e3];rfl) ?_
     walk_at "g"
     intro m hm hle
     have hm0:m=a\/m=b\/m=c:=by simpa using hm
     have la:=hle a (by simp)
     have lb:=hle b (by simp)
     have lc:=hle c (by simp)
     walk_at "g"
     by_cases e4:0<=m
     · refine IfP.t (decide_eq_true e4) ?_
       walk_at "g"
       intro M hM hge
       have hM0:M=a\/M=b\/M=c:=by simpa using hM
       have ga:=hge a (by simp)
       have gb:=hge b (by simp)
       have gc:=hge c (by simp)
       walk_at "g"
       have:IL a b c n=decide (M<n):=by
        unfold IL
        exact decide_eq_decide.mpr ⟨fun q=>by omega,fun q=>⟨e1,e2,e3,⟨by omega,by omega,by omega⟩,by omega,by omega,by omega⟩⟩
       rw [this] at hP
       exact hP
     · refine IfP.f (decide_eq_false e4) ?_
       exact hf fun q=>e4 (by omega)
abbrev DY:Stmt:=top 25
theorem BU:FnScope ["thing","corners","faces"] xl4 (J5 DY):=⟨rfl,rfl,rfl,by decide +kernel,rfl,by decide +kernel,by decide +kernel⟩
def GR (cs fs:List D):Bool:=decide (1<=cs.length)&&(decide (cs.length<=24)&&(cs.all HW&&(decide (fs.length<=24)&&fs.all (EL cs.length))))
def BW:D->Bool
 | .tup [.lst cs,.lst fs]=>GR cs fs
 | _=>false
theorem EK (f:D->Bool)(xs:List D):FG (xs.map fun x=>D.bl (f x))=some (xs.map f):=by
 have:=JV (xs.map f)
 rw [List.map_map] at this
 exact this
theorem CY (f:D->Bool)(xs:List D):(xs.map f).all id=xs.all f:=by rw [List.all_map];rfl
def J6v (c:Cs):DSp:=fun ds P Ed=>∃ d:D,ds=[d]/\Y3 d=true/\(BW d=false->Ed c.NoBody)/\(BW d=true->P .non)
structure C_check_body (P:Program)(w:World)(K:Fg)(mg:Str->Option Value)(base:Heap)(c:Cs):Prop where
 is_corner_:Callee P w K mg base CX0 "is_corner" 3 xl4 (Q6 K BT J2k)
 is_face_:Callee P w K mg base CX0 "is_face" 3 xl5 (Q6 K BT J2j)
abbrev xc4 (P:Program) (w:World) (K:Fg) (mg:Str → Option Value) (base:Heap) (f:Addr) (cdv:Value) (A:Around) (outer:List Env) (s:Shared) (H:Hp) (E:XK):Cx:=CI (CX1 P w base) P w K mg base ["thing","corners","faces"] "check_body" (J5 DY) f cdv A outer s H E
theorem MZ {w:World} {f:Addr} (F:Fun K "check_body" "check_body" DY f fd) (Z:Bi mg) {c:Cs} (Y:Ex K mg base c) (G:C_check_body P w K mg base c):FnOk P w K mg base (CX1 P w base) 4 f fd xl4 (Q6 K BT (J6v c)):=by
 refine F.okDX BU (fun ds PP Ed h=>?_) (fun cdv A outer s H E M bg ds PP Ed hr hE hS_=>?_)
 · obtain ⟨d,rfl,hd,h0,h1⟩:=h
   rfl
 · obtain ⟨d,rfl,hd,h0,h1⟩:=hS_
   refine ⟨_,(Q2 (AR (DV (Y4 (Q7 (by rfl) (J4 (Q8 K (by rfl)) Y8 rfl Z.isinstance_ Q5 (J0 (jdv 0) (J0 (Z2 rfl Z.tuple_ AO) J1))) (fun _=>rfl))) (CB (Y5 KA GH (J4 (J8 K (by rfl)) AC rfl Z.len_ Z5 (J0 (jdv 0) J1)) J3 (Q9 _)))) (Q3 (EZ hE (EU Y.o_NoBody rfl))) Z0)
    (Q2 (GZ (DX [1,2]) (jdv 0) (PG.or (BO (n:=2) K (by rfl) (by rfl) (J7 (pg_name (i:=1) BU.nd rfl (by walk_at "o")) (J7 (pg_name (i:=2) BU.nd rfl (by walk_at "o")) Z3))) (BZ (n:=2) K (by rfl) (by rfl) (J7 (pg_name (i:=1) BU.nd rfl (by walk_at "o")) (J7 (pg_name (i:=2) BU.nd rfl (by walk_at "o")) Z3)))))
    (Q2 (AR (DV (Y4 (Q7 (by rfl) (J4 (Q8 K (by rfl)) Y8 rfl Z.isinstance_ Q5 (J0 (jdv 1) (J0 (Z2 rfl Z.list_ FS) J1))) (fun _=>rfl))) (JK (Y5 KB BV (J4 (J8 K (by rfl)) AC rfl Z.len_ Z5 (J0 (jdv 1) J1)) J3 (Q9 _)) (CB (Y5 RF BV (J4 (J8 K (by rfl)) AC rfl Z.len_ Z5 (J0 (jdv 1) J1)) (JL rfl Z.MOST_) (Q9 _))))) (Q3 (EZ hE (EU Y.o_NoBody rfl))) Z0)
    (Q2 (AR (Y4 (Q7 (by rfl) (J4 (AI K (by rfl) (by rfl)) CS rfl Z.all_ CU (J0 (AB (X:=(xc4 P w K mg base f cdv A outer s H E)) (V5 0) (FH (X:=(xc4 P w K mg base f cdv A outer s H E)) (N':=["corner"]) (map:=[none]) (by rfl) (by rfl) (by decide +kernel) (by rfl) True.intro (gkeep_name rfl) fun cl0 C0 fp0 s0 H0=>⟨(pg_name (X:=(Q0 (xc4 P w K mg base f cdv A outer s H E) ["corner"] _ cl0 C0 fp0 s0 H0)) (i:=0) (V9 ["corner"] (by decide +kernel)) rfl (by walk_at "o")),Z1,(Y1 (X:=(Q0 (xc4 P w K mg base f cdv A outer s H E) ["corner"] _ cl0 C0 fp0 s0 H0)) G.is_corner_ hr.m rfl (J0 (jdv 0) J1))⟩) (Z4 (by rfl) (jdv 1))) J1)) (fun _=>rfl))) (Q3 (EZ hE (EU Y.o_NoBody rfl))) Z0)
    (Q2 (AR (DV (Y4 (Q7 (by rfl) (J4 (Q8 K (by rfl)) Y8 rfl Z.isinstance_ Q5 (J0 (jdv 2) (J0 (Z2 rfl Z.list_ FS) J1))) (fun _=>rfl))) (CB (Y5 RF BV (J4 (J8 K (by rfl)) AC rfl Z.len_ Z5 (J0 (jdv 2) J1)) (JL rfl Z.MOST_) (Q9 _)))) (Q3 (EZ hE (EU Y.o_NoBody rfl))) Z0)
    (Q3 (AR (Y4 (Q7 (by rfl) (J4 (AI K (by rfl) (by rfl)) CS rfl Z.all_ CU (J0 (AB (X:=(xc4 P w K mg base f cdv A outer s H E)) (V5 0) (FH (X:=(xc4 P w K mg base f cdv A outer s H E)) (N':=["face","corners"]) (map:=[none,some 1]) (by rfl) (by rfl) (by decide +kernel) (by rfl) ⟨⟨rfl,rfl,rfl,by walk_at "o"⟩,True.intro⟩ (gkeep_name rfl) fun cl0 C0 fp0 s0 H0=>⟨(pg_name (X:=(Q0 (xc4 P w K mg base f cdv A outer s H E) ["face","corners"] _ cl0 C0 fp0 s0 H0)) (i:=0) (V9 ["face","corners"] (by decide +kernel)) rfl (by walk_at "o")),Z1,(Y1 (X:=(Q0 (xc4 P w K mg base f cdv A outer s H E) ["face","corners"] _ cl0 C0 fp0 s0 H0)) G.is_face_ hr.m rfl (J0 (jdv 0) (J0 (J4 (J8 K (by rfl)) AC rfl Z.len_ Z5 (J0 (jdv 1) J1)) J1)))⟩) (Z4 (by rfl) (jdv 2))) J1)) (fun _=>rfl))) (Q3 (EZ hE (EU Y.o_NoBody rfl))) Z0))))))),?_⟩
   by_cases ht:∃ xs,d=.tup xs
   case neg =>
    have e0:=h0 (by cases d<;>first|rfl|exact absurd ⟨_,rfl⟩ ht)
    cases d<;>(try (exact absurd ⟨_,rfl⟩ ht))<;>(try (simp [Y3] at hd;done))
    all_goals
     walk_at "g"
     refine ⟨false,by rfl,?_⟩
     walk_at "g"
     exact e0
   obtain ⟨xs,rfl⟩:=ht
   have ha:=DI hd
   by_cases l2:xs.length=2
   case neg =>
    have e0:=h0 (by unfold BW;split<;>first|rfl|(rename_i e;cases e;exact absurd rfl l2))
    walk_at "g"
    refine ⟨true,by rfl,?_⟩
    walk_at "g"
    refine IfP.t (by simp;omega) ?_
    walk_at "g"
    exact e0
   obtain ⟨a,b,rfl⟩:=XF l2
   have oa:=ha a (by simp)
   have ob:=ha b (by simp)
   clear ha l2 hd
   by_cases hta:∃ cs,a=.lst cs
   case neg =>
    have e0:=h0 (by unfold BW;split<;>first|rfl|(rename_i e;cases e;exact absurd ⟨_,rfl⟩ hta))
    cases a<;>(try (exact absurd ⟨_,rfl⟩ hta))<;>(try (simp [Y3] at oa;done))
    all_goals
     walk_at "g"
     refine ⟨true,by rfl,?_⟩
     walk_at "g"
     refine ⟨false,by rfl,?_⟩
     walk_at "g"
     exact e0
   obtain ⟨cs,rfl⟩:=hta
   have oc:=EX oa
   have key:∀ fs,b=.lst fs->BW (.tup [.lst cs,b])=GR cs fs:=fun fs e=>by rw [e];rfl
   have bad:(decide (1<=cs.length)&&(decide (cs.length<=24)&&cs.all HW))=false->Ed c.NoBody:=fun e=>h0 (by
    unfold BW
    split
    · rename_i z
      cases z
      unfold GR
      rw [<- Bool.and_assoc (decide (_<=24)),<- Bool.and_assoc,e]
      rfl
    · rfl)
   walk_at "g"
   refine ⟨true,by rfl,?_⟩
   walk_at "g"
   refine ⟨true,by rfl,?_⟩
   walk_at "g"
   by_cases l0:cs.length<1
   · refine IfP.t (by simp;omega) ?_
     walk_at "g"
     exact bad (by rw [decide_eq_false (by omega)];rfl)
   refine IfP.f (by simp;omega) ?_
   walk_at "g"
   by_cases l1:cs.length<=24
   case neg =>
    refine IfP.t (by simp;omega) ?_
    walk_at "g"
    exact bad (by rw [decide_eq_false l1,Bool.false_and,Bool.and_false])
   refine IfP.f (by simp;omega) ?_
   walk_at "g"
   refine And.intro (by omega) ?_
   refine L2.AN (fun x=>.bl (HW x)) (fun x Q hx hQ=>?_) (fun x hx=>rfl) ?_
   · walk_at "g"
     exact ⟨by show (AH x&&true)=true;rw [AD (oc x hx)];rfl,x,rfl,oc x hx,hQ⟩
   walk_at "g"
   rw [EK HW]
   walk_at "g"
   cases l3:cs.all HW
   · refine IfP.t (by show (!(cs.map HW).all id)=true;rw [CY,l3];rfl) ?_
     walk_at "g"
     exact bad (by rw [l3,Bool.and_false,Bool.and_false])
   refine IfP.f (by show (!(cs.map HW).all id)=false;rw [CY,l3];rfl) ?_
   by_cases htb:∃ fs,b=.lst fs
   case neg =>
    have e0:=h0 (by unfold BW;split<;>first|rfl|(rename_i e;cases e;exact absurd ⟨_,rfl⟩ htb))
    cases b<;>(try (exact absurd ⟨_,rfl⟩ htb))<;>(try (simp [Y3] at ob;done))
    all_goals
     walk_at "g"
     refine ⟨false,by rfl,?_⟩
     walk_at "g"
     exact e0
   obtain ⟨fs,rfl⟩:=htb
   have of:=EX ob
   have kb:=key fs rfl
   unfold GR at kb
   rw [decide_eq_true (by omega:1<=cs.length),decide_eq_true l1,l3,Bool.true_and,Bool.true_and,Bool.true_and] at kb
   rw [kb] at h0 h1
   walk_at "g"
   refine ⟨true,by rfl,?_⟩
   walk_at "g"
   by_cases l4:fs.length<=24
   case neg =>
    refine IfP.t (by simp;omega) ?_
    walk_at "g"
    exact h0 (by rw [decide_eq_false l4];rfl)
   refine IfP.f (by simp;omega) ?_
   walk_at "g"
   refine And.intro (by omega) ?_
   refine L2.AN (fun x=>.bl (EL cs.length x)) (fun x Q hx hQ=>?_) (fun x hx=>rfl) ?_
   · walk_at "g"
     exact ⟨by show (AH x&&true)=true;rw [AD (of x hx)];rfl,x,cs.length,rfl,of x hx,hQ⟩
   walk_at "g"
   rw [EK (EL cs.length)]
   walk_at "g"
   cases l5:fs.all (EL cs.length)
   · refine IfP.t (by show (!(fs.map (EL cs.length)).all id)=true;rw [CY,l5];rfl) ?_
     walk_at "g"
     exact h0 (by rw [l5,Bool.and_false])
   refine IfP.f (by show (!(fs.map (EL cs.length)).all id)=false;rw [CY,l5];rfl) ?_
   walk_at "g"
   exact h1 (by rw [decide_eq_true l4,l5];rfl)
abbrev IW:Stmt:=top 26
theorem SW:FnScope xl4 xl4 (J5 IW):=⟨rfl,rfl,rfl,by decide +kernel,rfl,by decide +kernel,by decide +kernel⟩
def SS:DSp:=fun ds P _=>∃ d:D,ds=[d]/\Y3 d=true/\P (.bl (BW d))
structure C_is_body (P:Program)(w:World)(K:Fg)(mg:Str->Option Value)(base:Heap)(c:Cs):Prop where
 check_body_:Callee P w K mg base (CX1 P w base) "check_body" 4 xl4 (Q6 K BT (J6v c))
theorem TL {w:World} {f:Addr} (F:Fun K "is_body" "is_body" IW f fd) (Z:Bi mg) {c:Cs} (Y:Ex K mg base c) (G:C_is_body P w K mg base c):FnOk P w K mg base CX0 5 f fd xl4 (Q6 K BT SS):=by
 refine F.okD SW (fun ds PP Ed h=>?_) (fun cdv A outer s H E M bg ds PP Ed hr hS_=>?_)
 · obtain ⟨d,rfl,hd,hP⟩:=h
   rfl
 · obtain ⟨d,rfl,hd,hP⟩:=hS_
   refine ⟨_,(Q2 (ZZ (fun C=>C=c.NoBody/\BW d=false) (hd:=fun C F=>C=c.NoBody/\F.rt (.bl false)) (by
    intro C x H' E F pn l hd k o hx
    obtain ⟨rfl,hd⟩:=hd
    refine ⟨Y.xs_NoBody,?_⟩
    exact l.rt (.bl false) (.bl false) _ hd rfl (Kp.trans k (Kp.same (Same.upd hx))) (okB.same o (Same.upd hx))) (J3i K (by rfl) (by rfl) (by rfl) rfl Y.g_NoBody Y.xb_NoBody (fun xe pn E1 hp=>PSs.withE fun hE1=>JSs.h (Q3 (J0f (J0i hE1 hp G.check_body_ hr.m rfl (J0 (jdv 0) J1))))) (fun y=>(FN (HR J5s)))))
    (Q3 (V8 AK))),?_⟩
   refine ⟨?_,fun C e=>⟨e.1,by rw [e.2] at hP;exact hP⟩⟩
   walk_at "g"
   refine ⟨by show (AH d&&true)=true;rw [AD hd];rfl,d,rfl,hd,fun e=>⟨rfl,e⟩,fun e=>?_⟩
   rw [e] at hP
   walk_at "g"
   exact hP
structure R3 where
 x:Int
 y:Int
 z:Int
abbrev R3.d (r:R3):D:=t3 r.x r.y r.z
structure F3i where
 i:Nat
 j:Nat
 k:Nat
abbrev F3i.d (f:F3i):D:=t3 f.i f.j f.k
def F3i.has (f:F3i)(n:Nat):Prop:=n=f.i\/n=f.j\/n=f.k
theorem EqG.mk2 {a b x y:Int}{neg:Bool}{P:D->Prop}(h:P (.bl ((decide (a=x)&&decide (b=y))!=neg))):EqG neg (t2 a b) (t2 x y) P:=by
 refine ⟨_,_,rfl,rfl,Nat.le_of_ble_eq_true rfl,?_⟩
 have:PyData.eqv (.tuple [.int a,.int b]) (.tuple [.int x,.int y])=(decide (a=x)&&decide (b=y)):=by
  simp only [PyData.eqv,PyData.eqvAll,Bool.and_true]
  rfl
 show P (.bl (PyData.eqv (.tuple [.int a,.int b]) (.tuple [.int x,.int y])!=neg))
 rw [this]
 exact h
def sdR (f:F3i):List (List Int):=[[(f.i:Int),(f.j:Int)],[(f.j:Int),(f.k:Int)],[(f.k:Int),(f.i:Int)]]
def NE:List Int->List Int
 | [a,b]=>[b,a]
 | r=>r
structure Cnt (L:List (List Int))(ks:List (List Int))(xs:List D):Prop where
 len:ks.length=xs.length
 nd:ks.Nodup
 get:∀ r,J0p ks xs r=if r∈L then some (.int (L.count r)) else none
 mem:∀ r,r∈ks↔r∈L
theorem Cnt.nil:Cnt [] [] []:=⟨rfl,List.nodup_nil,fun r=>by simp [J0p],fun r=>Iff.rfl⟩
theorem XA (rows:List (List Int)):PH (rows.map AF)=true:=by
 induction rows with
 | nil=>rfl
 | cons r rows ih =>
   rw [List.map_cons]
   unfold PH
   rw [ih]
   have:noL (AF r)=true:=by
    unfold AF noL
    induction r with
    | nil=>rfl
    | cons a r ih=>rw [List.map_cons];unfold PH;rw [ih];rfl
   rw [this];rfl
theorem HD (rows:List (List Int)):AM 2 (rows.map AF)=true:=by
 induction rows with
 | nil=>rfl
 | cons r rows ih =>
   rw [List.map_cons]
   unfold AM
   rw [ih]
   have:V6 2 (AF r)=true:=by
    unfold AF V6
    induction r with
    | nil=>rfl
    | cons a r ih=>rw [List.map_cons];unfold AM;rw [ih];rfl
   rw [this];rfl
abbrev HN:Stmt:=top 27
theorem BH:FnScope ["face","i","j","k"] ["face"] (J5 HN):=⟨rfl,rfl,rfl,by decide +kernel,rfl,by decide +kernel,by decide +kernel⟩
def Q2k:DSp:=fun ds P _=>∃ f:F3i,ds=[f.d]/\P (.lst ((sdR f).map AF))
theorem RG {w:World} {f:Addr} (F:Fun K "sides_of" "sides_of" HN f fd) (Z:Bi mg) {c:Cs} (Y:Ex K mg base c):FnOk P w K mg base CX0 1 f fd ["face"] (Q6 K BT Q2k):=by
 refine F.okD BH (fun ds PP Ed h=>?_) (fun cdv A outer s H E M bg ds PP Ed hr hS_=>?_)
 · obtain ⟨f_,rfl,hP⟩:=h
   rfl
 · obtain ⟨f_,rfl,hP⟩:=hS_
   refine ⟨_,(Q2 (GZ (DX [1,2,3]) (jdv 0) (PG.or (BO (n:=3) K (by rfl) (by rfl) (J7 (pg_name (i:=1) BH.nd rfl (by walk_at "o")) (J7 (pg_name (i:=2) BH.nd rfl (by walk_at "o")) (J7 (pg_name (i:=3) BH.nd rfl (by walk_at "o")) Z3)))) (BZ (n:=3) K (by rfl) (by rfl) (J7 (pg_name (i:=1) BH.nd rfl (by walk_at "o")) (J7 (pg_name (i:=2) BH.nd rfl (by walk_at "o")) (J7 (pg_name (i:=3) BH.nd rfl (by walk_at "o")) Z3))))))
    (Q3 (V8 (Y7 (J0 (J9 (J0 (jdv 1) (J0 (jdv 2) J1))) (J0 (J9 (J0 (jdv 2) (J0 (jdv 3) J1))) (J0 (J9 (J0 (jdv 3) (J0 (jdv 1) J1))) J1))))))),?_⟩
   walk_at "g"
   exact hP
abbrev LS:Stmt:=top 28
theorem WT:FnScope ["pair"] ["pair"] (J5 LS):=⟨rfl,rfl,rfl,by decide +kernel,rfl,by decide +kernel,by decide +kernel⟩
def J6u:DSp:=fun ds P _=>∃ a b:Int,ds=[t2 a b]/\P (t2 b a)
theorem WY {w:World} {f:Addr} (F:Fun K "fellow" "fellow" LS f fd) (Z:Bi mg) {c:Cs} (Y:Ex K mg base c):FnOk P w K mg base CX0 1 f fd ["pair"] (Q6 K BT J6u):=by
 refine F.okD WT (fun ds PP Ed h=>?_) (fun cdv A outer s H E M bg ds PP Ed hr hS_=>?_)
 · obtain ⟨a,b,rfl,hP⟩:=h
   rfl
 · obtain ⟨a,b,rfl,hP⟩:=hS_
   refine ⟨_,(Q3 (V8 (J9 (J0 (Y0 (V2 K (by rfl)) Y6 (jdv 0) J3 (fun _ _=>rfl)) (J0 (Y0 (V2 K (by rfl)) Y6 (jdv 0) J3 (fun _ _=>rfl)) J1))))),?_⟩
   walk_at "g"
   exact hP
structure F3i.ok (f:F3i)(n:Nat):Prop where
 i:f.i<n
 j:f.j<n
 k:f.k<n
 ij:f.i≠f.j
 jk:f.j≠f.k
 ki:f.k≠f.i
def TD (n:Nat)(f p:Int):Bool:=decide (0<=f/\f<n/\0<=p/\p<=2)
def plB (n:Nat):D->Bool
 | .tup [.int f,.int p]=>TD n f p
 | _=>false
theorem wt2 {d:D}(h:wtD 2 d=true):∃ x y:Int,d=.tup [.int x,.int y]:=by
 cases d<;>try (simp [wtD] at h;done)
 rename_i xs
 obtain ⟨h1,h2⟩:=(Bool.and_eq_true _ _).mp h
 obtain ⟨a,b,rfl⟩:=XF (of_decide_eq_true h1)
 have hw:=List.all_eq_true.mp h2
 obtain ⟨x,rfl⟩:=IB (hw a (by simp))
 obtain ⟨y,rfl⟩:=IB (hw b (by simp))
 exact ⟨x,y,rfl⟩
theorem TF {d:D}{n:Nat}(h:wtD 2 d=false):plB n d=false:=by
 unfold plB
 split
 · cases h
 · rfl
abbrev DQ:Stmt:=top 54
theorem IU:FnScope xl5 xl5 (J5 DQ):=⟨rfl,rfl,rfl,by decide +kernel,rfl,by decide +kernel,by decide +kernel⟩
def J6q:DSp:=fun ds P _=>∃ (d:D) (n:Nat),ds=[d,.int n]/\Y3 d=true/\P (.bl (plB n d))
structure C_is_side_place (P:Program)(w:World)(K:Fg)(mg:Str->Option Value)(base:Heap)(c:Cs):Prop where
 is_whole_tuple_:Callee P w K mg base CX0 "is_whole_tuple" 2 xl5 (Q6 K BT HY)
theorem JB {w:World} {f:Addr} (F:Fun K "is_side_place" "is_side_place" DQ f fd) (Z:Bi mg) {c:Cs} (Y:Ex K mg base c) (G:C_is_side_place P w K mg base c):FnOk P w K mg base CX0 3 f fd xl5 (Q6 K BT J6q):=by
 refine F.okD IU (fun ds PP Ed h=>?_) (fun cdv A outer s H E M bg ds PP Ed hr hS_=>?_)
 · obtain ⟨d,n,rfl,hd,hP⟩:=h
   rfl
 · obtain ⟨d,n,rfl,hd,hP⟩:=hS_
   refine ⟨_,(Q3 (V8 (AL (Y1 G.is_whole_tuple_ hr.m rfl (J0 (jdv 0) (J0 J3 J1))) (AL (HA KC KB BV BV J3 (Y0 (V2 K (by rfl)) Y6 (jdv 0) J3 (fun _ _=>rfl)) (jdv 1)) (CQ (HA KC KC BV BV J3 (Y0 (V2 K (by rfl)) Y6 (jdv 0) J3 (fun _ _=>rfl)) J3)))))),?_⟩
   walk_at "g"
   refine ⟨by show (AH d&&true)=true;rw [AD hd];rfl,d,2,rfl,hd,by decide,?_⟩
   cases hw:wtD 2 d
   · rw [TF hw] at hP
     walk_at "g"
     exact hP
   · obtain ⟨f_,p,rfl⟩:=wt2 hw
     have hP:PP (.bl (TD n f_ p)):=hP
     have hf:(¬ (0<=f_/\f_<n/\0<=p/\p<=2))->PP (.bl false):=fun q=>by
      unfold TD at hP
      rw [decide_eq_false q] at hP
      exact hP
     walk_at "g"
     by_cases e1:0<=f_
     case neg =>
      refine IfP.f (decide_eq_false e1) ?_
      walk_at "g"
      exact hf fun q=>e1 q.1
     refine IfP.t (decide_eq_true e1) ?_
     walk_at "g"
     by_cases e2:f_<n
     case neg =>
      refine IfP.f (decide_eq_false e2) ?_
      exact hf fun q=>e2 q.2.1
     refine IfP.t (decide_eq_true e2) ?_
     walk_at "g"
     by_cases e3:0<=p
     case neg =>
      refine IfP.f (decide_eq_false e3) ?_
      exact hf fun q=>e3 q.2.2.1
     refine IfP.t (decide_eq_true e3) ?_
     walk_at "g"
     have:TD n f_ p=decide (p<=2):=decide_eq_decide.mpr ⟨fun q=>q.2.2.2,fun q=>⟨e1,e2,e3,q⟩⟩
     rw [this] at hP
     exact hP
def AE (fl:List F3i):D->List Int
 | .tup [.int f,.int p]=>((sdR ((fl[f.toNat]?).getD ⟨0,0,0⟩))[p.toNat]?).getD []
 | _=>[]
def prB (fl:List F3i):D->Bool
 | .tup [a,b]=>plB fl.length a&&(plB fl.length b&&decide (AE fl a=NE (AE fl b)))
 | _=>false
theorem IZ {n:Nat}{d:D}(h:plB n d=true):∃ f p:Nat,d=.tup [.int f,.int p]/\f<n/\p<=2:=by
 unfold plB at h
 split at h
 · rename_i f p
   have:=of_decide_eq_true h
   exact ⟨f.toNat,p.toNat,by rw [Int.toNat_of_nonneg (by omega),Int.toNat_of_nonneg (by omega)],by omega,by omega⟩
 · cases h
theorem CJ {fl:List F3i}{f p:Nat}(hf:f<fl.length)(hp:p<=2):∃ a b:Nat,AE fl (.tup [.int f,.int p])=[(a:Int),(b:Int)]/\(sdR fl[f])[p]?=some [(a:Int),(b:Int)]:=by
 have e:(fl[f]?).getD ⟨0,0,0⟩=fl[f]:=by rw [List.getElem?_eq_getElem hf];rfl
 have key:∃ a b:Nat,(sdR fl[f])[p]?=some [(a:Int),(b:Int)]:=by
  have:p=0\/p=1\/p=2:=by omega
  rcases this with rfl|rfl|rfl<;>exact ⟨_,_,rfl⟩
 obtain ⟨a,b,h⟩:=key
 refine ⟨a,b,?_,h⟩
 show ((sdR ((fl[((f:Nat):Int).toNat]?).getD ⟨0,0,0⟩))[((p:Nat):Int).toNat]?).getD []=_
 rw [Int.toNat_natCast,Int.toNat_natCast,e,h]
 rfl
abbrev CZ:Stmt:=top 55
theorem BI:FnScope ["thing","faces","one","other"] ["thing","faces"] (J5 CZ):=⟨rfl,rfl,rfl,by decide +kernel,rfl,by decide +kernel,by decide +kernel⟩
def J6x:DSp:=fun ds P _=>∃ (d:D) (fl:List F3i),ds=[d,.lst (fl.map F3i.d)]/\Y3 d=true/\P (.bl (prB fl d))
structure C_are_fellows (P:Program)(w:World)(K:Fg)(mg:Str->Option Value)(base:Heap)(c:Cs):Prop where
 fellow_:Callee P w K mg base CX0 "fellow" 1 ["pair"] (Q6 K BT J6u)
 sides_of_:Callee P w K mg base CX0 "sides_of" 1 ["face"] (Q6 K BT Q2k)
 is_side_place_:Callee P w K mg base CX0 "is_side_place" 3 xl5 (Q6 K BT J6q)
abbrev xc5 (P:Program) (w:World) (K:Fg) (mg:Str → Option Value) (base:Heap) (f:Addr) (cdv:Value) (A:Around) (outer:List Env) (s:Shared) (H:Hp) (E:XK):Cx:=CI CX0 P w K mg base ["thing","faces","one","other"] "are_fellows" (J5 CZ) f cdv A outer s H E
abbrev xl6:List Str:=["face","place","faces"]
theorem MB {w:World} {f:Addr} (F:Fun K "are_fellows" "are_fellows" CZ f fd) (Z:Bi mg) {c:Cs} (Y:Ex K mg base c) (G:C_are_fellows P w K mg base c):FnOk P w K mg base CX0 4 f fd ["thing","faces"] (Q6 K BT J6x):=by
 refine F.okD BI (fun ds PP Ed h=>?_) (fun cdv A outer s H E M bg ds PP Ed hr hS_=>?_)
 · obtain ⟨d,fl,rfl,hd,hP⟩:=h
   rfl
 · obtain ⟨d,fl,rfl,hd,hP⟩:=hS_
   refine ⟨_,(Q2 (AR (DV (Y4 (Q7 (by rfl) (J4 (Q8 K (by rfl)) Y8 rfl Z.isinstance_ Q5 (J0 (jdv 0) (J0 (Z2 rfl Z.tuple_ AO) J1))) (fun _=>rfl))) (CB (Y5 KA GH (J4 (J8 K (by rfl)) AC rfl Z.len_ Z5 (J0 (jdv 0) J1)) J3 (Q9 _)))) (Q3 (V8 AK)) Z0)
    (Q2 (AR (Y4 (Q7 (by rfl) (J4 (AI K (by rfl) (by rfl)) CS rfl Z.all_ CU (J0 (AB (X:=(xc5 P w K mg base f cdv A outer s H E).nox) (V5 0) (FH (X:=(xc5 P w K mg base f cdv A outer s H E).nox) (N':=["place","faces"]) (map:=[none,some 1]) (by rfl) (by rfl) (by decide +kernel) (by rfl) ⟨⟨rfl,rfl,rfl,by walk_at "o"⟩,True.intro⟩ (gkeep_name rfl) fun cl0 C0 fp0 s0 H0=>⟨(pg_name (X:=(Q0 (xc5 P w K mg base f cdv A outer s H E).nox ["place","faces"] _ cl0 C0 fp0 s0 H0)) (i:=0) (V9 ["place","faces"] (by decide +kernel)) rfl (by walk_at "o")),Z1,(Y1 (X:=(Q0 (xc5 P w K mg base f cdv A outer s H E).nox ["place","faces"] _ cl0 C0 fp0 s0 H0)) G.is_side_place_ hr.m rfl (J0 (jdv 0) (J0 (J4 (J8 K (by rfl)) AC rfl Z.len_ Z5 (J0 (jdv 1) J1)) J1)))⟩) (Z4 (by rfl) (jdv 0))) J1)) (fun _=>rfl))) (Q3 (V8 AK)) Z0)
    (Q2 (GZ (DX [2,3]) (AB (X:=(xc5 P w K mg base f cdv A outer s H E).nox) (DX [0,1]) (FH (X:=(xc5 P w K mg base f cdv A outer s H E).nox) (N':=xl6) (map:=[none,none,some 1]) (by rfl) (by rfl) (by decide +kernel) (by rfl) ⟨⟨rfl,rfl,rfl,by walk_at "o"⟩,True.intro⟩ (JN (js:=[0,1]) (by decide)) fun cl0 C0 fp0 s0 H0=>⟨(PG.or (BO (n:=2) K (by rfl) (by rfl) (J7 (pg_name (i:=0) (V9 xl6 (by decide +kernel)) rfl (by walk_at "o")) (J7 (pg_name (i:=1) (V9 xl6 (by decide +kernel)) rfl (by walk_at "o")) Z3))) (BZ (n:=2) K (by rfl) (by rfl) (J7 (pg_name (i:=0) (V9 xl6 (by decide +kernel)) rfl (by walk_at "o")) (J7 (pg_name (i:=1) (V9 xl6 (by decide +kernel)) rfl (by walk_at "o")) Z3)))),Z1,(Y0 (X:=(Q0 (xc5 P w K mg base f cdv A outer s H E).nox xl6 _ cl0 C0 fp0 s0 H0)) (V2 K (by rfl)) Y6 (Y1 G.sides_of_ hr.m rfl (J0 (Y0 (V2 K (by rfl)) Y6 (jdv 2) (jdv 0) (fun _ _=>rfl)) J1)) (jdv 1) (fun _ _=>rfl))⟩) (Z4 (by rfl) (jdv 0))) (PG.or (BO (n:=2) K (by rfl) (by rfl) (J7 (pg_name (i:=2) BI.nd rfl (by walk_at "o")) (J7 (pg_name (i:=3) BI.nd rfl (by walk_at "o")) Z3))) (BZ (n:=2) K (by rfl) (by rfl) (J7 (pg_name (i:=2) BI.nd rfl (by walk_at "o")) (J7 (pg_name (i:=3) BI.nd rfl (by walk_at "o")) Z3)))))
    (Q3 (V8 (AJ (GF K (by rfl) hr.units) DR (jdv 2) (Y1 G.fellow_ hr.m rfl (J0 (jdv 3) J1)) (Q9 _))))))),?_⟩
   by_cases ht:∃ xs,d=.tup xs
   case neg =>
    have e0:PP (.bl false):=by
     have:prB fl d=false:=by cases d<;>first|rfl|exact absurd ⟨_,rfl⟩ ht
     rw [this] at hP;exact hP
    cases d<;>(try (exact absurd ⟨_,rfl⟩ ht))<;>(try (simp [Y3] at hd;done))
    all_goals
     walk_at "g"
     refine ⟨false,by rfl,?_⟩
     walk_at "g"
     exact e0
   obtain ⟨xs,rfl⟩:=ht
   have ha:=DI hd
   walk_at "g"
   refine ⟨true,by rfl,?_⟩
   walk_at "g"
   by_cases l2:xs.length=2
   case neg =>
    have e0:PP (.bl false):=by
     have:prB fl (.tup xs)=false:=by unfold prB;split<;>first|rfl|(rename_i e;cases e;exact absurd rfl l2)
     rw [this] at hP;exact hP
    refine IfP.t (by simp;omega) ?_
    walk_at "g"
    exact e0
   refine IfP.f (by simp;omega) ?_
   obtain ⟨a,b,rfl⟩:=XF l2
   have oa:=ha a (by simp)
   have ob:=ha b (by simp)
   have hP:PP (.bl (plB fl.length a&&(plB fl.length b&&decide (AE fl a=NE (AE fl b))))):=hP
   clear ha l2 hd
   walk_at "g"
   refine AN (fun x=>.bl (plB fl.length x)) (fun x Q hx hQ=>?_) (fun _ _=>rfl) ?_
   · have ox:Y3 x=true:=by
      simp only [List.mem_cons,List.not_mem_nil,or_false] at hx
      rcases hx with rfl|rfl<;>assumption
     walk_at "g"
     refine ⟨by show (AH x&&true)=true;rw [AD ox];rfl,x,fl.length,by rw [List.length_map],ox,hQ⟩
   walk_at "g"
   cases ea:plB fl.length a
   · refine IfP.t rfl ?_
     walk_at "g"
     rw [ea] at hP
     exact hP
   cases eb:plB fl.length b
   · refine IfP.t rfl ?_
     walk_at "g"
     rw [ea,eb] at hP
     exact hP
   refine IfP.f rfl ?_
   rw [ea,eb] at hP
   obtain ⟨f1,p1,rfl,hf1,hp1⟩:=IZ ea
   obtain ⟨f2,p2,rfl,hf2,hp2⟩:=IZ eb
   obtain ⟨a1,b1,s1,t1⟩:=CJ hf1 hp1
   obtain ⟨a2,b2,s2,t2_⟩:=CJ hf2 hp2
   rw [s1,s2] at hP
   have i1:atI (fl.map F3i.d) (f1:Int)=some fl[f1].d:=CC (j:=f1) (by rw [List.getElem?_map,List.getElem?_eq_getElem hf1];rfl)
   have i2:atI (fl.map F3i.d) (f2:Int)=some fl[f2].d:=CC (j:=f2) (by rw [List.getElem?_map,List.getElem?_eq_getElem hf2];rfl)
   have j1:atI ((sdR fl[f1]).map AF) (p1:Int)=some (t2 a1 b1):=CC (j:=p1) (by rw [List.getElem?_map,t1];rfl)
   have j2:atI ((sdR fl[f2]).map AF) (p2:Int)=some (t2 a2 b2):=CC (j:=p2) (by rw [List.getElem?_map,t2_];rfl)
   walk_at "g"
   walk_at "gc"
   rw [i1]
   walk_at "g"
   refine ⟨fl[f1],rfl,?_⟩
   walk_at "g"
   rw [j1]
   walk_at "g"
   rw [i2]
   walk_at "g"
   refine ⟨fl[f2],rfl,?_⟩
   walk_at "g"
   rw [j2]
   walk_at "g"
   refine ⟨a2,b2,rfl,?_⟩
   walk_at "g"
   refine EqG.mk2 ?_
   have:decide ([(a1:Int),(b1:Int)]=NE [(a2:Int),(b2:Int)])=(decide ((a1:Int)=b2)&&decide ((b1:Int)=a2)):=by
    show decide ([(a1:Int),(b1:Int)]=[(b2:Int),(a2:Int)])=_
    by_cases z1:(a1:Int)=b2<;>by_cases z2:(b1:Int)=a2<;>simp [z1,z2]
   rw [this] at hP
   rw [Bool.bne_false]
   exact hP
theorem GN:∀ s r:List Int,PyData.eqvAll (s.map PyData.int) (r.map PyData.int)=decide (s=r)
 | [],[]=>by simp [PyData.eqvAll]
 | [],_::_=>by simp [PyData.eqvAll]
 | _::_,[]=>by simp [PyData.eqvAll]
 | a::s,b::r=>by
   simp only [List.map_cons]
   unfold PyData.eqvAll
   rw [GN s r]
   have:PyData.eqv (.int a) (.int b)=decide (a=b):=by simp only [PyData.eqv];rfl
   rw [this]
   by_cases h1:a=b<;>by_cases h2:s=r<;>simp [h1,h2]
theorem LU:∀ L:List (List Int),BE (L.map AF)=some (L.map fun s=>PyData.tuple (s.map PyData.int))
 | []=>rfl
 | r::L=>by
   rw [List.map_cons]
   unfold BE
   rw [LU L]
   have:Y9 (AF r)=some (.tuple (r.map PyData.int)):=by unfold AF Y9;rw [LV];rfl
   rw [this]
   rfl
def NF:D->F3i
 | .tup [.int a,.int b,.int c]=>⟨a.toNat,b.toNat,c.toNat⟩
 | _=>⟨0,0,0⟩
theorem J8p {x:D}{n:Nat}(h:EL n x=true):(NF x).d=x/\(NF x).ok n:=by
 unfold EL at h
 split at h
 · rename_i a b c
   have q:=of_decide_eq_true h
   refine ⟨?_,⟨?_,?_,?_,?_,?_,?_⟩⟩
   · show t3 (a.toNat:Int) (b.toNat:Int) (c.toNat:Int)=t3 a b c
     rw [Int.toNat_of_nonneg q.2.2.2.1.1,Int.toNat_of_nonneg q.2.2.2.1.2.1,Int.toNat_of_nonneg q.2.2.2.1.2.2]
   all_goals
    show (_:Prop)
    first
     | (show a.toNat<n;omega)
     | (show b.toNat<n;omega)
     | (show c.toNat<n;omega)
     | (show a.toNat≠b.toNat;omega)
     | (show b.toNat≠c.toNat;omega)
     | (show c.toNat≠a.toNat;omega)
 · cases h
theorem J0q {n:Nat}:∀ {fs:List D},fs.all (EL n)=true->(fs.map NF).map F3i.d=fs
 | [],_=>rfl
 | x::fs,h=>by
   obtain ⟨h1,h2⟩:=(Bool.and_eq_true _ _).mp (by simpa using h:(EL n x&&fs.all (EL n))=true)
   rw [List.map_cons,List.map_cons,(J8p h1).1,J0q h2]
theorem SR {d:D}(h:BW d=true):∃ cs fs,d=.tup [.lst cs,.lst fs]/\cs.length<=24/\fs.length<=24/\fs.all (EL cs.length)=true:=by
 unfold BW at h
 split at h
 · rename_i cs fs
   unfold GR at h
   simp only [Bool.and_eq_true,decide_eq_true_eq] at h
   exact ⟨cs,fs,rfl,h.2.1,h.2.2.2.1,h.2.2.2.2⟩
 · cases h
theorem J7o {n:Nat}(h:n<=100):BM (n:Int):=by
 unfold BM
 omega
theorem KF:∀ A B:List (List Int),PyData.eqvAll (A.map fun s=>PyData.tuple (s.map PyData.int)) (B.map fun s=>PyData.tuple (s.map PyData.int))=decide (A=B)
 | [],[]=>by simp [PyData.eqvAll]
 | [],_::_=>by simp [PyData.eqvAll]
 | _::_,[]=>by simp [PyData.eqvAll]
 | a::A,b::B=>by
   simp only [List.map_cons]
   unfold PyData.eqvAll
   rw [KF A B]
   have:PyData.eqv (.tuple (a.map PyData.int)) (.tuple (b.map PyData.int))=decide (a=b):=by rw [<- GN];unfold PyData.eqv;rfl
   rw [this]
   by_cases h1:a=b<;>by_cases h2:A=B<;>simp [h1,h2]
theorem RW {A B:List (List Int)}{neg:Bool}{P:D->Prop}(h:P (.bl (decide (A=B)!=neg))):EqG neg (.lst (A.map AF)) (.lst (B.map AF)) P:=by
 have e:∀ A:List (List Int),Y9 (.lst (A.map AF))=some (.list (A.map fun s=>PyData.tuple (s.map PyData.int))):=fun A=>by
  unfold Y9
  rw [LU]
  rfl
 obtain ⟨p,e1,d1,_⟩:=HE 3 (.lst (A.map AF)) (by unfold V6;exact HD A)
 rw [e A] at e1
 cases e1
 refine ⟨_,_,e A,e B,by omega,?_⟩
 have:PyData.eqv (.list (A.map fun s=>PyData.tuple (s.map PyData.int))) (.list (B.map fun s=>PyData.tuple (s.map PyData.int)))=decide (A=B):=by rw [<- KF];unfold PyData.eqv;rfl
 rw [this]
 exact h
def prR:D->List (List Int)
 | .tup [.tup [.int f,.int p],.tup [.int g,.int q]]=>[[f,p],[g,q]]
 | _=>[]
def DG (ps:List D):List (List Int):=ps.flatMap prR
def CV (n:Nat):List (List Int):=(List.range n).flatMap fun f:Nat=>[[(f:Int),0],[(f:Int),1],[(f:Int),2]]
theorem FT (n:Nat):CV (n+1)=CV n++[[(n:Int),0],[(n:Int),1],[(n:Int),2]]:=by
 unfold CV
 rw [List.range_succ,List.flatMap_append]
 simp
theorem YG:∀ n,n<=24->(CV n).Pairwise fun x y=>CH 0 x<=CH 0 y:=by
 have key:∀ n:Fin 25,(CV n.val).Pairwise fun x y=>CH 0 x<=CH 0 y:=by decide +kernel
 exact fun n h=>key ⟨n,by omega⟩
theorem YH {n:Nat}(hn:n<=24){r:List Int}(h:r∈CV n):r.length=2/\∀ z∈r,BM z:=by
 obtain ⟨f,hf,hr⟩:=List.mem_flatMap.mp h
 have hf:=List.mem_range.mp hf
 simp only [List.mem_cons,List.not_mem_nil,or_false] at hr
 rcases hr with rfl|rfl|rfl
 all_goals
  refine ⟨rfl,fun z hz=>?_⟩
  simp only [List.mem_cons,List.not_mem_nil,or_false] at hz
  rcases hz with rfl|rfl<;>(unfold BM;omega)
def fhB:D->D->Bool
 | .tup [.lst cs,.lst fs],.lst ps=>BW (.tup [.lst cs,.lst fs])&&(ps.all (prB (fs.map NF))&&decide ((DG ps).Perm (CV fs.length)))
 | _,_=>false
theorem RV {d e:D}(h:BW d=false):fhB d e=false:=by
 unfold fhB
 split
 · rw [h];rfl
 · rfl
theorem RD {ps:List D}{i:Nat}{x:D}(e:ps[i]?=some x):DG (ps.take (i+1))=DG (ps.take i)++prR x:=by
 unfold DG
 rw [List.take_add_one,e,Option.toList_some,List.flatMap_append]
 simp
theorem SZ {fl:List F3i}{x:D}(h:prB fl x=true):∃ f p g q:Nat,x=.tup [.tup [.int f,.int p],.tup [.int g,.int q]]/\f<fl.length/\p<=2/\g<fl.length/\q<=2:=by
 unfold prB at h
 split at h
 · rename_i a b
   simp only [Bool.and_eq_true] at h
   obtain ⟨f1,p1,rfl,h1,h2⟩:=IZ h.1
   obtain ⟨f2,p2,rfl,h3,h4⟩:=IZ h.2.1
   exact ⟨f1,p1,f2,p2,rfl,h1,h2,h3,h4⟩
 · cases h
theorem OR (ps:List D):(DG ps).length<=2*ps.length:=by
 induction ps with
 | nil=>exact Nat.le_refl _
 | cons x ps ih =>
   have:(prR x).length<=2:=by
    unfold prR
    split
    · exact Nat.le_refl 2
    · exact Nat.zero_le _
   show (prR x++DG ps).length<=_
   rw [List.length_append,List.length_cons]
   omega
theorem OQ {fl:List F3i}{ps:List D}(hl:fl.length<=24)(h:∀ x∈ps,prB fl x=true){r:List Int}(m:r∈DG ps):r.length=2/\∀ z∈r,BM z:=by
 obtain ⟨x,hx,hr⟩:=List.mem_flatMap.mp m
 obtain ⟨f,p,g,q,rfl,h1,h2,h3,h4⟩:=SZ (h x hx)
 have hr:r∈[[(f:Int),(p:Int)],[(g:Int),(q:Int)]]:=hr
 simp only [List.mem_cons,List.not_mem_nil,or_false] at hr
 rcases hr with rfl|rfl
 all_goals
  refine ⟨rfl,fun z hz=>?_⟩
  simp only [List.mem_cons,List.not_mem_nil,or_false] at hz
  rcases hz with rfl|rfl<;>exact J7o (by omega)
theorem VA {fl:List F3i}{ps:List D}{n:Nat}(hl:fl.length<=24)(h:∀ x∈ps,prB fl x=true){ks:List (List Int)}(pk:ks.Perm (DG ps))(sk:ks.Pairwise fun x y=>CH 0 x<=CH 0 y)(hn:n<=24):decide (ks=CV n)=decide ((DG ps).Perm (CV n)):=by
 refine decide_eq_decide.mpr ⟨fun e=>by rw [<- e];exact pk.symm,fun p=>?_⟩
 refine List.Perm.eq_of_pairwise (le:=fun r s=>CH 0 r<=CH 0 s) (fun a b ha hb h1 h2=>?_) sk (YG n hn) (pk.trans p)
 have a1:=OQ hl h (pk.mem_iff.mp ha)
 have b1:=YH hn hb
 exact (RY a b 0 0 (by rw [a1.1,b1.1]) a1.2 b1.2 (Int.le_antisymm h1 h2)).2
abbrev CK:Stmt:=top 56
theorem DP:FnScope ["body","pairs","faces","places"] ["body","pairs"] (J5 CK):=⟨rfl,rfl,rfl,by decide +kernel,rfl,by decide +kernel,by decide +kernel⟩
def Q2l:DSp:=fun ds P _=>∃ d e:D,ds=[d,e]/\Y3 d=true/\Y3 e=true/\(∀ ps,e=.lst ps->ps.length<=31)/\P (.bl (fhB d e))
structure C_fellows_hold (P:Program)(w:World)(K:Fg)(mg:Str->Option Value)(base:Heap)(c:Cs):Prop where
 is_body_:Callee P w K mg base CX0 "is_body" 5 xl4 (Q6 K BT SS)
 are_fellows_:Callee P w K mg base CX0 "are_fellows" 4 ["thing","faces"] (Q6 K BT J6x)
abbrev xc6 (P:Program) (w:World) (K:Fg) (mg:Str → Option Value) (base:Heap) (f:Addr) (cdv:Value) (A:Around) (outer:List Env) (s:Shared) (H:Hp) (E:XK):Cx:=CI CX0 P w K mg base ["body","pairs","faces","places"] "fellows_hold" (J5 CK) f cdv A outer s H E
abbrev xl7:List Str:=["pair","place"]
abbrev xl8:List Str:=["face","place"]
theorem KP {w:World} {f:Addr} (F:Fun K "fellows_hold" "fellows_hold" CK f fd) (Z:Bi mg) {c:Cs} (Y:Ex K mg base c) (G:C_fellows_hold P w K mg base c):FnOk P w K mg base CX0 6 f fd ["body","pairs"] (Q6 K BT Q2l):=by
 refine F.okD DP (fun ds PP Ed h=>?_) (fun cdv A outer s H E M bg ds PP Ed hr hS_=>?_)
 · obtain ⟨d,e,rfl,hd,he,hs,hP⟩:=h
   rfl
 · obtain ⟨d,e,rfl,hd,he,hs,hP⟩:=hS_
   refine ⟨_,(Q2 (AR (DV (Y4 (Q7 (by rfl) (Y1 G.is_body_ hr.m rfl (J0 (jdv 0) J1)) (fun _=>rfl))) (CB (Y4 (Q7 (by rfl) (J4 (Q8 K (by rfl)) Y8 rfl Z.isinstance_ Q5 (J0 (jdv 1) (J0 (Z2 rfl Z.list_ FS) J1))) (fun _=>rfl))))) (Q3 (V8 AK)) Z0)
    (Q2 (FR (i:=2) DP.nd rfl (by walk_at "o") (Y0 (V2 K (by rfl)) Y6 (jdv 0) J3 (fun _ _=>rfl)))
    (Q2 (AR (Y4 (Q7 (by rfl) (J4 (AI K (by rfl) (by rfl)) CS rfl Z.all_ CU (J0 (AB (X:=(xc6 P w K mg base f cdv A outer s H E).nox) (V5 0) (FH (X:=(xc6 P w K mg base f cdv A outer s H E).nox) (N':=["pair","faces"]) (map:=[none,some 2]) (by rfl) (by rfl) (by decide +kernel) (by rfl) ⟨⟨rfl,rfl,rfl,by walk_at "o"⟩,True.intro⟩ (gkeep_name rfl) fun cl0 C0 fp0 s0 H0=>⟨(pg_name (X:=(Q0 (xc6 P w K mg base f cdv A outer s H E).nox ["pair","faces"] _ cl0 C0 fp0 s0 H0)) (i:=0) (V9 ["pair","faces"] (by decide +kernel)) rfl (by walk_at "o")),Z1,(Y1 (X:=(Q0 (xc6 P w K mg base f cdv A outer s H E).nox ["pair","faces"] _ cl0 C0 fp0 s0 H0)) G.are_fellows_ hr.m rfl (J0 (jdv 0) (J0 (jdv 1) J1)))⟩) (Z4 (by rfl) (jdv 1))) J1)) (fun _=>rfl))) (Q3 (V8 AK)) Z0)
    (Q2 (FR (i:=3) DP.nd rfl (by walk_at "o") (VL (NV (X:=(xc6 P w K mg base f cdv A outer s H E).nox) (J0 (JM (X:=(xc6 P w K mg base f cdv A outer s H E).nox) (V5 0) (V5 1) (J2c (X:=(xc6 P w K mg base f cdv A outer s H E).nox) (N':=xl7) (map:=[none,none]) (mp2:=[some 0,none]) (by rfl) (by rfl) (by decide +kernel) (by rfl) True.intro (gkeep_name rfl) (gkeep_name rfl) rfl rfl fun cl0 C0 fp0 s0 H0=>⟨(pg_name (X:=(Q0 (xc6 P w K mg base f cdv A outer s H E).nox xl7 _ cl0 C0 fp0 s0 H0).nox) (i:=0) (V9 xl7 (by decide +kernel)) rfl (by walk_at "o")),(Z4 (X:=(Q0 (xc6 P w K mg base f cdv A outer s H E).nox xl7 _ cl0 C0 fp0 s0 H0).nox) (by rfl) (jdv 0)),(pg_name (X:=(Q0 (xc6 P w K mg base f cdv A outer s H E).nox xl7 _ cl0 C0 fp0 s0 H0).nox) (i:=1) (V9 xl7 (by decide +kernel)) rfl (by walk_at "o")),Z1,(jdv (X:=(Q0 (xc6 P w K mg base f cdv A outer s H E).nox xl7 _ cl0 C0 fp0 s0 H0).nox) 1)⟩) (Z4 (by rfl) (jdv 1))) J1) (EG (MS K (by rfl) (by rfl)) rfl Z.sorted_ NY (JA.h (J0 (JM (X:=(xc6 P w K mg base f cdv A outer s H E).nox) (V5 0) (V5 1) (J2c (X:=(xc6 P w K mg base f cdv A outer s H E).nox) (N':=xl7) (map:=[none,none]) (mp2:=[some 0,none]) (by rfl) (by rfl) (by decide +kernel) (by rfl) True.intro (gkeep_name rfl) (gkeep_name rfl) rfl rfl fun cl0 C0 fp0 s0 H0=>⟨(pg_name (X:=(Q0 (xc6 P w K mg base f cdv A outer s H E).nox xl7 _ cl0 C0 fp0 s0 H0).nox) (i:=0) (V9 xl7 (by decide +kernel)) rfl (by walk_at "o")),(Z4 (X:=(Q0 (xc6 P w K mg base f cdv A outer s H E).nox xl7 _ cl0 C0 fp0 s0 H0).nox) (by rfl) (jdv 0)),(pg_name (X:=(Q0 (xc6 P w K mg base f cdv A outer s H E).nox xl7 _ cl0 C0 fp0 s0 H0).nox) (i:=1) (V9 xl7 (by decide +kernel)) rfl (by walk_at "o")),Z1,(jdv (X:=(Q0 (xc6 P w K mg base f cdv A outer s H E).nox xl7 _ cl0 C0 fp0 s0 H0).nox) 1)⟩) (Z4 (by rfl) (jdv 1))) J1))))))
    (Q3 (V8 (AJ (GF K (by rfl) hr.units) DR (jdv 3) (JM (X:=(xc6 P w K mg base f cdv A outer s H E).nox) (V5 0) (V5 1) (J2c (X:=(xc6 P w K mg base f cdv A outer s H E).nox) (N':=xl8) (map:=[none,none]) (mp2:=[some 0,none]) (by rfl) (by rfl) (by decide +kernel) (by rfl) True.intro (gkeep_name rfl) (gkeep_name rfl) rfl rfl fun cl0 C0 fp0 s0 H0=>⟨(pg_name (X:=(Q0 (xc6 P w K mg base f cdv A outer s H E).nox xl8 _ cl0 C0 fp0 s0 H0).nox) (i:=0) (V9 xl8 (by decide +kernel)) rfl (by walk_at "o")),(AU (X:=(Q0 (xc6 P w K mg base f cdv A outer s H E).nox xl8 _ cl0 C0 fp0 s0 H0).nox) rfl Z.range_ (J0 J3 J1)),(pg_name (X:=(Q0 (xc6 P w K mg base f cdv A outer s H E).nox xl8 _ cl0 C0 fp0 s0 H0).nox) (i:=1) (V9 xl8 (by decide +kernel)) rfl (by walk_at "o")),Z1,(J9 (X:=(Q0 (xc6 P w K mg base f cdv A outer s H E).nox xl8 _ cl0 C0 fp0 s0 H0).nox) (J0 (jdv 0) (J0 (jdv 1) J1)))⟩) (AU rfl Z.range_ (J0 (J4 (J8 K (by rfl)) AC rfl Z.len_ Z5 (J0 (jdv 2) J1)) J1))) (Q9 _)))))))),?_⟩
   have nod:(AH d&&(AH e&&true))=true:=by rw [AD hd,AD he];rfl
   walk_at "g"
   refine ⟨by show (AH d&&true)=true;rw [AD hd];rfl,d,rfl,hd,?_⟩
   cases hb:BW d
   · have e0:PP (.bl false):=by rw [RV hb] at hP;exact hP
     walk_at "g"
     exact e0
   obtain ⟨cs,fs,rfl,lc,lf,hfs⟩:=SR hb
   walk_at "g"
   by_cases hte:∃ ps,e=.lst ps
   case neg =>
    have e0:PP (.bl false):=by
     have:fhB (.tup [.lst cs,.lst fs]) e=false:=by unfold fhB;split<;>first|rfl|(rename_i z1 z2 z3;exact absurd ⟨_,rfl⟩ hte)
     rw [this] at hP
     exact hP
    clear hP hs nod
    cases e<;>(try (exact absurd ⟨_,rfl⟩ hte))<;>(try (simp [Y3] at he;done))
    all_goals
     walk_at "g"
     refine ⟨false,by rfl,?_⟩
     walk_at "g"
     exact e0
   obtain ⟨ps,rfl⟩:=hte
   have l31:=hs ps rfl
   clear hs nod
   have hP:PP (.bl (BW (.tup [.lst cs,.lst fs])&&(ps.all (prB (fs.map NF))&&decide ((DG ps).Perm (CV fs.length))))):=hP
   rw [hb,Bool.true_and] at hP
   walk_at "g"
   refine ⟨true,by rfl,?_⟩
   walk_at "g"
   have op:=EX he
   have ef:=J0q hfs
   have fll:(fs.map NF).length=fs.length:=List.length_map ..
   generalize fs.map NF=fl at *
   subst ef
   refine And.intro (by omega) ?_
   refine AN (fun x=>.bl (prB fl x)) (fun x Q hx hQ=>?_) (fun _ _=>rfl) ?_
   · have ox:=op x hx
     walk_at "g"
     exact ⟨by show (AH x&&true)=true;rw [AD ox];rfl,x,fl,rfl,ox,hQ⟩
   walk_at "g"
   rw [EK (prB fl)]
   walk_at "g"
   cases hal:ps.all (prB fl)
   · refine IfP.t (by show (!(ps.map (prB fl)).all id)=true;rw [CY,hal];rfl) ?_
     walk_at "g"
     rw [hal] at hP
     exact hP
   refine IfP.f (by show (!(ps.map (prB fl)).all id)=false;rw [CY,hal];rfl) ?_
   rw [hal,Bool.true_and,<- fll] at hP
   have hal:=List.all_eq_true.mp hal
   walk_at "g"
   refine And.intro (by omega) ?_
   refine ⟨fun i acc=>acc=(DG (ps.take i)).map AF,rfl,?_,?_⟩
   · rintro i x acc e rfl
     obtain ⟨f1,p1,f2,p2,rfl,hf1,hp1,hf2,hp2⟩:=SZ (hal x (List.mem_of_getElem? e))
     rw [RD e]
     walk_at "g"
     refine ⟨fun j acc=>acc=(DG (ps.take i)).map AF++[t2 f1 p1,t2 f2 p2].take j,by simp,?_,?_⟩
     · rintro j y acc e rfl
       walk_at "g"
       refine ⟨?_,by rw [List.take_add_one,e];simp⟩
       have m:=List.mem_of_getElem? e
       simp only [List.mem_cons,List.not_mem_nil,or_false] at m
       rcases m with rfl|rfl<;>rfl
     · rintro acc rfl
       show (DG (ps.take i)).map AF++[t2 f1 p1,t2 f2 p2]=_
       rw [List.map_append]
       rfl
   rintro acc rfl
   rw [List.take_length]
   walk_at "g"
   refine ⟨DG ps,2,rfl,by decide,by have:=OR ps;omega,fun r hr=>OQ (by omega) hal hr,fun ks pk sk=>?_⟩
   walk_at "g"
   refine And.intro ⟨by omega,by omega⟩ ?_
   rw [List.length_map]
   refine And.intro (by rw [rangeD_len];omega) ?_
   refine ⟨fun i acc=>acc=(CV i).map AF,rfl,?_,?_⟩
   · rintro i x acc e rfl
     obtain ⟨rfl,hi⟩:=AZ e
     clear e
     rw [Int.zero_add]
     walk_at "g"
     refine ⟨fun j acc=>acc=(CV i).map AF++[t2 i 0,t2 i 1,t2 i 2].take j,by simp,?_,?_⟩
     · rintro j y acc e rfl
       obtain ⟨rfl,hj⟩:=AZ e
       clear e
       rw [Int.zero_add]
       walk_at "g"
       rw [List.take_add_one]
       have:j=0\/j=1\/j=2:=by
        have:j<3:=hj
        omega
       rcases this with rfl|rfl|rfl<;>simp
     · rintro acc rfl
       rw [FT,List.map_append]
       rfl
   rintro acc rfl
   rw [rangeD_len,Int.toNat_natCast]
   refine RW ?_
   rw [Bool.bne_false,VA (n:=fl.length) (by omega) hal pk sk (by omega)]
   exact hP
def isS (s:Str):D->Bool
 | .str x=>x==s
 | _=>false
theorem LH {w:D}{s:Str}{neg:Bool}{n:Nat}{P:D->Prop}(hw:Y3 w=true)(hf:V6 n w=true)(hs:PyData.strOk s=true)(h:P (.bl (isS s w != neg))):EqG neg w (.str s) P:=by
 obtain ⟨p,e,_,_⟩:=HE n w hf
 refine ⟨p,.str s,e,by unfold Y9;rw [if_pos hs],by show min p.depth 0<=60;rw [Nat.min_zero];decide,?_⟩
 have:PyData.eqv p (.str s)=isS s w:=by
  cases w<;>(try (simp [Y3] at hw;done))
  case non=>cases e;rfl
  case bl=>cases e;simp [PyData.eqv,isS]
  case int=>cases e;simp [PyData.eqv,isS]
  case str x =>
   unfold Y9 at e
   split at e
   · cases e;simp [PyData.eqv,isS]
   · cases e
  case tup xs =>
   unfold Y9 at e
   obtain ⟨ps,_,rfl⟩:=Option.map_eq_some_iff.mp e
   simp [PyData.eqv,isS]
  case lst xs =>
   unfold Y9 at e
   obtain ⟨ps,_,rfl⟩:=Option.map_eq_some_iff.mp e
   simp [PyData.eqv,isS]
 rw [this]
 exact h
structure Ppr (d:D):Prop where
 ok:Y3 d=true
 fine:V6 20 d=true
 w:wD d<=10000000
 four:∀ a b c e,d=.tup [a,b,c,e]->a=.str "fellows"
 l31:∀ a b ps,d=.tup [a,b,.lst ps]->ps.length<=31
def hoB:D->Bool
 | .tup [w,b,e]=>isS "fellows" w&&fhB b e
 | _=>false
theorem J1i {x:D}{xs:List D}:L2.HV (x::xs) (some 1) none=xs:=by
 unfold L2.HV
 have e1:HT.sIx (x::xs).length 0 (some (1:Int))=1:=by
  rw [show HT.sIx (x::xs).length 0 (some (1:Int))=min 1 (x::xs).length from HT.sIx_nat (x::xs).length 0 1,List.length_cons]
  omega
 have e2:HT.sIx (x::xs).length (x::xs).length none=(x::xs).length:=rfl
 rw [e1,e2]
 show xs.take _=xs
 exact List.take_of_length_le (by rw [List.length_cons];omega)
abbrev OL:Stmt:=top 61
theorem LQ:FnScope ["paper","word","rest"] ["paper"] (J5 OL):=⟨rfl,rfl,rfl,by decide +kernel,rfl,by decide +kernel,by decide +kernel⟩
def WK:DSp:=fun ds P _=>∃ d:D,ds=[d]/\Ppr d/\P (.bl (hoB d))
structure C_holds (P:Program)(w:World)(K:Fg)(mg:Str->Option Value)(base:Heap)(c:Cs):Prop where
 fellows_hold_:Callee P w K mg base CX0 "fellows_hold" 6 ["body","pairs"] (Q6 K BT Q2l)
theorem ZS {w:World} {f:Addr} (F:Fun K "holds" "holds" OL f fd) (Z:Bi mg) {c:Cs} (Y:Ex K mg base c) (G:C_holds P w K mg base c):FnOk P w K mg base CX0 7 f fd ["paper"] (Q6 K BT WK):=by
 refine F.okD LQ (fun ds PP Ed h=>?_) (fun cdv A outer s H E M bg ds PP Ed hr hS_=>?_)
 · obtain ⟨d,rfl,hp,hP⟩:=h
   rfl
 · obtain ⟨d,rfl,hp,hP⟩:=hS_
   refine ⟨_,(Q2 (AR (DV (Y4 (Q7 (by rfl) (J4 (Q8 K (by rfl)) Y8 rfl Z.isinstance_ Q5 (J0 (jdv 0) (J0 (Z2 rfl Z.tuple_ AO) J1))) (fun _=>rfl))) (CB (Y5 DH BJ (J4 (J8 K (by rfl)) AC rfl Z.len_ Z5 (J0 (jdv 0) J1)) J3 (Q9 _)))) (Q3 (V8 AK)) Z0)
    (Q2 (FR (i:=1) LQ.nd rfl (by walk_at "o") (Y0 (V2 K (by rfl)) Y6 (jdv 0) J3 (fun _ _=>rfl)))
    (Q2 (FR (i:=2) LQ.nd rfl (by walk_at "o") (FA (LO K (by rfl)) (jdv 0) (GJ J3) GK))
    (Q2 (AR (PM (Y5 (GF K (by rfl) hr.units) DR (jdv 1) EB (Q9 _)) (MI (Y5 DH BJ (J4 (J8 K (by rfl)) AC rfl Z.len_ Z5 (J0 (jdv 2) J1)) J3 (Q9 _)))) (Q3 NU) Z0)
    (Q2 (AR (PM (Y5 (GF K (by rfl) hr.units) DR (jdv 1) EB (Q9 _)) (MI (Y5 DH BJ (J4 (J8 K (by rfl)) AC rfl Z.len_ Z5 (J0 (jdv 2) J1)) J3 (Q9 _)))) (Q3 (V8 (Y1 G.fellows_hold_ hr.m rfl (J0 (Y0 (V2 K (by rfl)) Y6 (jdv 2) J3 (fun _ _=>rfl)) (J0 (Y0 (V2 K (by rfl)) Y6 (jdv 2) J3 (fun _ _=>rfl)) J1))))) Z0)
    (Q2 (AR (PM (Y5 (GF K (by rfl) hr.units) DR (jdv 1) EB (Q9 _)) (MI (Y5 DH BJ (J4 (J8 K (by rfl)) AC rfl Z.len_ Z5 (J0 (jdv 2) J1)) J3 (Q9 _)))) (Q3 NU) Z0)
    (Q3 (V8 AK)))))))),?_⟩
   have hd:=hp.ok
   by_cases ht:∃ xs,d=.tup xs
   case neg =>
    have e0:PP (.bl false):=by
     have:hoB d=false:=by cases d<;>first|rfl|exact absurd ⟨_,rfl⟩ ht
     rw [this] at hP;exact hP
    clear hp hP
    cases d<;>(try (exact absurd ⟨_,rfl⟩ ht))<;>(try (simp [Y3] at hd;done))
    all_goals
     walk_at "g"
     refine ⟨false,by rfl,?_⟩
     walk_at "g"
     exact e0
   obtain ⟨xs,rfl⟩:=ht
   have ha:=DI hd
   walk_at "g"
   refine ⟨true,by rfl,?_⟩
   walk_at "g"
   cases xs with
   | nil =>
     refine IfP.t rfl ?_
     walk_at "g"
     exact hP
   | cons w xs =>
     have ow:=ha w (by simp)
     have fw:V6 19 w=true:=by
      have:=hp.fine
      unfold V6 AM at this
      exact (Bool.and_eq_true _ _).mp this |>.1
     have hx:∀ d∈xs,Y3 d=true:=fun d h=>ha d (by simp [h])
     refine IfP.f (by simp;omega) ?_
     walk_at "g"
     rw [show atI (w::xs) 0=some w from CC (j:=0) rfl]
     refine And.intro (okRp_pl ow) ?_
     walk_at "g"
     refine And.intro (fun z=>by
      have:=z.1
      rw [show HT.sIx (w::xs).length 0 (some 1)=min 1 (w::xs).length from HT.sIx_nat (w::xs).length 0 1,List.length_cons] at this
      omega) ?_
     rw [J1i]
     walk_at "g"
     have four:∀ s:Str,isS s w=true->s≠"fellows"->¬ xs.length=3:=fun s h1 h2 h3=>by
      obtain ⟨a,b,c,rfl⟩:=J8e h3
      obtain rfl:=hp.four w a b c rfl
      exact h2 (eq_of_beq (show ((Str.ofString "fellows")==s)=true from h1)).symm
     have no:¬ (xs.length=2/\isS "fellows" w=true)->PP (.bl false):=fun h=>by
      have:hoB (.tup (w::xs))=false:=by
       unfold hoB
       split
       · rename_i e
         cases e
         cases e2:isS "fellows" w
         · rfl
         · exact absurd ⟨rfl,e2⟩ h
       · rfl
      rw [this] at hP
      exact hP
     refine LH ow fw (by decide +kernel) ?_
     rw [Bool.bne_false]
     cases e1:isS "dot" w
     case' true =>
      walk_at "g"
      refine IfP.f (by have:=four _ e1 (by decide +kernel);simp;omega) ?_
     all_goals
      walk_at "g"
      refine LH ow fw (by decide +kernel) ?_
      rw [Bool.bne_false]
      cases e2:isS "fellows" w
     case' true.true|false.true =>
      walk_at "g"
      by_cases l2:xs.length=2
      · obtain ⟨b,e,rfl⟩:=XF l2
        refine IfP.t rfl ?_
        walk_at "g"
        refine ⟨?_,b,e,rfl,hx b (by simp),hx e (by simp),fun ps z=>hp.l31 w b ps (by rw [z]),?_⟩
        · show (AH b&&(AH e&&true))=true
          rw [AD (hx b (by simp)),AD (hx e (by simp))]
          rfl
        · have:hoB (.tup [w,b,e])=fhB b e:=by
           show (isS "fellows" w&&fhB b e)=_
           rw [e2,Bool.true_and]
          rw [this] at hP
          walk_at "g"
          exact hP
      refine IfP.f (by simp;omega) ?_
      have e0:=no fun h=>l2 h.1
     case' true.false|false.false =>
      have e0:=no fun h=>by rw [e2] at h;exact Bool.false_ne_true h.2
     all_goals
      walk_at "g"
      refine LH ow fw (by decide +kernel) ?_
      rw [Bool.bne_false]
      cases e3:isS "cut" w
     case' true.true.true|false.true.true|true.false.true|false.false.true =>
      walk_at "g"
      refine IfP.f (by have:=four _ e3 (by decide +kernel);simp;omega) ?_
     all_goals
      walk_at "g"
      exact e0
abbrev FK:Stmt:=top 65
abbrev xl9:List Str:=["_law_thing"]
theorem MX:FnScope xl9 xl9 (J5 FK):=⟨rfl,rfl,rfl,by decide +kernel,rfl,by decide +kernel,by decide +kernel⟩
theorem NA {w:World} {f:Addr} (F:Fun K "_law_whole" "_law_whole" FK f fd) (Z:Bi mg) {c:Cs} (Y:Ex K mg base c):FnOk P w K mg base CX0 1 f fd xl9 (Q6 K BT IR):=by
 refine F.okD MX (fun ds PP Ed h=>?_) (fun cdv A outer s H E M bg ds PP Ed hr hS_=>?_)
 · obtain ⟨d,rfl,hd,hP⟩:=h
   rfl
 · obtain ⟨d,rfl,hd,hP⟩:=hS_
   refine ⟨_,(Q3 (V8 (AL (J4 (Q8 K (by rfl)) Y8 rfl Z.isinstance_ Q5 (J0 (jdv 0) (J0 (Z2 rfl Z.int_ UJ) J1))) (CQ (VI (J4 (Q8 K (by rfl)) Y8 rfl Z.isinstance_ Q5 (J0 (jdv 0) (J0 (Z2 rfl Z.bool_ QN) J1)))))))),?_⟩
   cases d<;>(try (simp [Y3] at hd;done))
   all_goals first
    | (walk_at "g";refine ⟨false,by rfl,?_⟩;walk_at "g";exact hP)
    | (walk_at "g";refine ⟨true,by rfl,?_⟩;walk_at "g";refine ⟨true,by rfl,?_⟩;walk_at "g";exact hP)
    | (walk_at "g";refine ⟨true,by rfl,?_⟩;walk_at "g";refine ⟨false,by rfl,?_⟩;walk_at "g";exact hP)
abbrev DB:Stmt:=top 69
abbrev WN:List Str:=["_law_thing","_law_many"]
theorem LR:FnScope WN WN (J5 DB):=⟨rfl,rfl,rfl,by decide +kernel,rfl,by decide +kernel,by decide +kernel⟩
structure C__law_wholes (P:Program)(w:World)(K:Fg)(mg:Str->Option Value)(base:Heap)(c:Cs):Prop where
 _law_whole_:Callee P w K mg base CX0 "_law_whole" 1 xl9 (Q6 K BT IR)
abbrev xc7 (P:Program) (w:World) (K:Fg) (mg:Str → Option Value) (base:Heap) (f:Addr) (cdv:Value) (A:Around) (outer:List Env) (s:Shared) (H:Hp) (E:XK):Cx:=CI CX0 P w K mg base WN "_law_wholes" (J5 DB) f cdv A outer s H E
theorem MC {w:World} {f:Addr} (F:Fun K "_law_wholes" "_law_wholes" DB f fd) (Z:Bi mg) {c:Cs} (Y:Ex K mg base c) (G:C__law_wholes P w K mg base c):FnOk P w K mg base CX0 2 f fd WN (Q6 K BT HY):=by
 refine F.okD LR (fun ds PP Ed h=>?_) (fun cdv A outer s H E M bg ds PP Ed hr hS_=>?_)
 · obtain ⟨d,n,rfl,hd,hn1,hP⟩:=h
   rfl
 · obtain ⟨d,n,rfl,hd,hn1,hP⟩:=hS_
   refine ⟨_,(Q3 (V8 (AL (J4 (Q8 K (by rfl)) Y8 rfl Z.isinstance_ Q5 (J0 (jdv 0) (J0 (Z2 rfl Z.tuple_ AO) J1))) (AL (AJ DH BJ (J4 (J8 K (by rfl)) AC rfl Z.len_ Z5 (J0 (jdv 0) J1)) (jdv 1) (Q9 _)) (CQ (J4 (AI K (by rfl) (by rfl)) CS rfl Z.all_ CU (J0 (AB (X:=(xc7 P w K mg base f cdv A outer s H E).nox) (V5 0) (FH (X:=(xc7 P w K mg base f cdv A outer s H E).nox) (N':=["_law_number"]) (map:=[none]) (by rfl) (by rfl) (by decide +kernel) (by rfl) True.intro (gkeep_name rfl) fun cl0 C0 fp0 s0 H0=>⟨(pg_name (X:=(Q0 (xc7 P w K mg base f cdv A outer s H E).nox ["_law_number"] _ cl0 C0 fp0 s0 H0)) (i:=0) (V9 ["_law_number"] (by decide +kernel)) rfl (by walk_at "o")),Z1,(Y1 (X:=(Q0 (xc7 P w K mg base f cdv A outer s H E).nox ["_law_number"] _ cl0 C0 fp0 s0 H0)) G._law_whole_ hr.m rfl (J0 (jdv 0) J1))⟩) (Z4 (by rfl) (jdv 0))) J1))))))),?_⟩
   by_cases ht:∃ xs,d=.tup xs
   · obtain ⟨xs,rfl⟩:=ht
     have ha:=DI hd
     have key:∀ b:Bool,b=wtD n (.tup xs)->PP (.bl b):=fun b h=>by rw [h];exact hP
     walk_at "g"
     refine ⟨true,by rfl,?_⟩
     walk_at "g"
     walk_at "sp"
     · rename_i hn
       walk_at "g"
       refine And.intro (by omega) ?_
       refine AN (fun x=>.bl (whD x)) (fun x Q hx q=>?_) (fun _ _=>rfl) ?_
       · have t:=ha x hx
         walk_at "g"
         exact ⟨by show (AH x&&true)=true;rw [AD t];rfl,x,rfl,t,q⟩
       · have eb:FG (xs.map fun x=>D.bl (whD x))=some (xs.map whD):=by
          have:=JV (xs.map whD)
          rw [List.map_map] at this
          exact this
         walk_at "g"
         rw [eb]
         walk_at "g"
         refine key _ ?_
         show _=(decide (xs.length=n)&&xs.all whD)
         rw [decide_eq_true (by omega)]
         simp [List.all_map]
     · rename_i hn
       walk_at "g"
       refine key _ ?_
       show _=(decide (xs.length=n)&&xs.all whD)
       rw [decide_eq_false (by omega)]
       simp
   · have ew:wtD n d=false:=by
      cases d<;>first|rfl|exact absurd ⟨_,rfl⟩ ht
     rw [ew] at hP
     cases d<;>(try (exact absurd ⟨_,rfl⟩ ht))<;>(try (simp [Y3] at hd;done))
     all_goals
      walk_at "g"
      refine ⟨false,by rfl,?_⟩
      walk_at "g"
      exact hP
theorem WI {f:D->Bool}{xs:List D}{x:D}(m:x∈xs)(h:f x=false):xs.all f=false:=by
 rw [List.all_eq_false]
 exact ⟨x,m,by rw [h];exact Bool.false_ne_true⟩
def lsD:D->Bool
 | .lst _=>true
 | _=>false
theorem J4a {x:D}{P:D->Prop}(hx:Y3 x=true)(h:P (.bl (lsD x))):J3v K [x,.ty "list"] P:=by
 cases x<;>(try (simp [Y3] at hx;done))<;>exact ⟨_,by rfl,h⟩
abbrev CN:Stmt:=top 70
theorem KO:FnScope xl9 xl9 (J5 CN):=⟨rfl,rfl,rfl,by decide +kernel,rfl,by decide +kernel,by decide +kernel⟩
def J6t:DSp:=fun ds P _=>∃ d:D,ds=[d]/\Y3 d=true/\P (.bl (BW d))
structure C__law_is_body (P:Program)(w:World)(K:Fg)(mg:Str->Option Value)(base:Heap)(c:Cs):Prop where
 _law_wholes_:Callee P w K mg base CX0 "_law_wholes" 2 WN (Q6 K BT HY)
abbrev xc8 (P:Program) (w:World) (K:Fg) (mg:Str → Option Value) (base:Heap) (f:Addr) (cdv:Value) (A:Around) (outer:List Env) (s:Shared) (H:Hp) (E:XK):Cx:=CI CX0 P w K mg base xl9 "_law_is_body" (J5 CN) f cdv A outer s H E
abbrev HI:List Str:=["_law_one"]
abbrev J2t:List Str:=["_law_one","_law_thing"]
theorem KR {w:World} {f:Addr} (F:Fun K "_law_is_body" "_law_is_body" CN f fd) (Z:Bi mg) {c:Cs} (Y:Ex K mg base c) (G:C__law_is_body P w K mg base c):FnOk P w K mg base CX0 3 f fd xl9 (Q6 K BT J6t):=by
 refine F.okD KO (fun ds PP Ed h=>?_) (fun cdv A outer s H E M bg ds PP Ed hr hS_=>?_)
 · obtain ⟨d,rfl,hd,hP⟩:=h
   rfl
 · obtain ⟨d,rfl,hd,hP⟩:=hS_
   refine ⟨_,(Q2 (AR (DV (Y4 (Q7 (by rfl) (J4 (Q8 K (by rfl)) Y8 rfl Z.isinstance_ Q5 (J0 (jdv 0) (J0 (Z2 rfl Z.tuple_ AO) J1))) (fun _=>rfl))) (JK (Y5 KA GH (J4 (J8 K (by rfl)) AC rfl Z.len_ Z5 (J0 (jdv 0) J1)) J3 (Q9 _)) (CB (Y4 (Q7 (by rfl) (J4 (AI K (by rfl) (by rfl)) CS rfl Z.all_ CU (J0 (AB (X:=(xc8 P w K mg base f cdv A outer s H E).nox) (V5 0) (FH (X:=(xc8 P w K mg base f cdv A outer s H E).nox) (N':=HI) (map:=[none]) (by rfl) (by rfl) (by decide +kernel) (by rfl) True.intro (gkeep_name rfl) fun cl0 C0 fp0 s0 H0=>⟨(pg_name (X:=(Q0 (xc8 P w K mg base f cdv A outer s H E).nox HI _ cl0 C0 fp0 s0 H0)) (i:=0) (V9 HI (by decide +kernel)) rfl (by walk_at "o")),Z1,(J4 (X:=(Q0 (xc8 P w K mg base f cdv A outer s H E).nox HI _ cl0 C0 fp0 s0 H0)) (Q8 K (by rfl)) Y8 rfl Z.isinstance_ Q5 (J0 (jdv 0) (J0 (Z2 rfl Z.list_ FS) J1)))⟩) (Z4 (by rfl) (jdv 0))) J1)) (fun _=>rfl)))))) (Q3 (V8 AK)) Z0)
    (Q2 (AR (DV (Y4 (XJ KC KC BV BV J3 (J4 (J8 K (by rfl)) AC rfl Z.len_ Z5 (J0 (Y0 (V2 K (by rfl)) Y6 (jdv 0) J3 (fun _ _=>rfl)) J1)) J3)) (CB (Y5 RF BV (J4 (J8 K (by rfl)) AC rfl Z.len_ Z5 (J0 (Y0 (V2 K (by rfl)) Y6 (jdv 0) J3 (fun _ _=>rfl)) J1)) J3 (Q9 _)))) (Q3 (V8 AK)) Z0)
    (Q2 (AR (Y4 (Q7 (by rfl) (J4 (AI K (by rfl) (by rfl)) CS rfl Z.all_ CU (J0 (AB (X:=(xc8 P w K mg base f cdv A outer s H E).nox) (V5 0) (FH (X:=(xc8 P w K mg base f cdv A outer s H E).nox) (N':=HI) (map:=[none]) (by rfl) (by rfl) (by decide +kernel) (by rfl) True.intro (gkeep_name rfl) fun cl0 C0 fp0 s0 H0=>⟨(pg_name (X:=(Q0 (xc8 P w K mg base f cdv A outer s H E).nox HI _ cl0 C0 fp0 s0 H0)) (i:=0) (V9 HI (by decide +kernel)) rfl (by walk_at "o")),Z1,(Y1 (X:=(Q0 (xc8 P w K mg base f cdv A outer s H E).nox HI _ cl0 C0 fp0 s0 H0)) G._law_wholes_ hr.m rfl (J0 (jdv 0) (J0 J3 J1)))⟩) (Z4 (by rfl) (BG OW PF (Y0 (V2 K (by rfl)) Y6 (jdv 0) J3 (fun _ _=>rfl)) (Y0 (V2 K (by rfl)) Y6 (jdv 0) J3 (fun _ _=>rfl))))) J1)) (fun _=>rfl))) (Q3 (V8 AK)) Z0)
    (Q2 (AR (Y4 (Q7 (by rfl) (J4 (AI K (by rfl) (by rfl)) CS rfl Z.all_ CU (J0 (AB (X:=(xc8 P w K mg base f cdv A outer s H E).nox) (V5 0) (FH (X:=(xc8 P w K mg base f cdv A outer s H E).nox) (N':=HI) (map:=[none]) (by rfl) (by rfl) (by decide +kernel) (by rfl) True.intro (gkeep_name rfl) fun cl0 C0 fp0 s0 H0=>⟨(pg_name (X:=(Q0 (xc8 P w K mg base f cdv A outer s H E).nox HI _ cl0 C0 fp0 s0 H0)) (i:=0) (V9 HI (by decide +kernel)) rfl (by walk_at "o")),Z1,(AL (X:=(Q0 (xc8 P w K mg base f cdv A outer s H E).nox HI _ cl0 C0 fp0 s0 H0)) (AJ KB BV (J4 (JU K (by rfl) (by rfl)) HG rfl Z.max_ QM (J0 (jdv 0) J1)) (BG LZ J3t J3 J3) (Q9 _)) (CQ (AJ RF BV (J4 (JR K (by rfl) (by rfl)) HG rfl Z.min_ QL (J0 (jdv 0) J1)) (BG OU EH J3 (BG LZ J3t J3 J3)) (Q9 _))))⟩) (Z4 (by rfl) (Y0 (V2 K (by rfl)) Y6 (jdv 0) J3 (fun _ _=>rfl)))) J1)) (fun _=>rfl))) (Q3 (V8 AK)) Z0)
    (Q3 (V8 (J4 (AI K (by rfl) (by rfl)) CS rfl Z.all_ CU (J0 (AB (X:=(xc8 P w K mg base f cdv A outer s H E).nox) (V5 0) (FH (X:=(xc8 P w K mg base f cdv A outer s H E).nox) (N':=J2t) (map:=[none,some 0]) (by rfl) (by rfl) (by decide +kernel) (by rfl) ⟨⟨rfl,rfl,rfl,by walk_at "o"⟩,True.intro⟩ (gkeep_name rfl) fun cl0 C0 fp0 s0 H0=>⟨(pg_name (X:=(Q0 (xc8 P w K mg base f cdv A outer s H E).nox J2t _ cl0 C0 fp0 s0 H0)) (i:=0) (V9 J2t (by decide +kernel)) rfl (by walk_at "o")),Z1,(AL (X:=(Q0 (xc8 P w K mg base f cdv A outer s H E).nox J2t _ cl0 C0 fp0 s0 H0)) (AJ ZR BV (J4 (JR K (by rfl) (by rfl)) HG rfl Z.min_ QL (J0 (jdv 0) J1)) J3 (Q9 _)) (AL (AJ KB BV (J4 (JU K (by rfl) (by rfl)) HG rfl Z.max_ QM (J0 (jdv 0) J1)) (J4 (J8 K (by rfl)) AC rfl Z.len_ Z5 (J0 (Y0 (V2 K (by rfl)) Y6 (jdv 1) J3 (fun _ _=>rfl)) J1)) (Q9 _)) (CQ (AJ DH BJ (TX (EG SN rfl Z.len_ Z5 (CA (EV (YC K (by rfl) (by rfl)) rfl Z.set_ J9z (JA.h (J0 (jdv 0) J1))) ES))) J3 (Q9 _)))))⟩) (Z4 (by rfl) (Y0 (V2 K (by rfl)) Y6 (jdv 0) J3 (fun _ _=>rfl)))) J1)))))))),?_⟩
   have no:BW d=false->PP (.bl false):=fun e=>by rw [e] at hP;exact hP
   have yes:BW d=true->PP (.bl true):=fun e=>by rw [e] at hP;exact hP
   clear hP
   by_cases ht:∃ xs,d=.tup xs
   case neg =>
    have e0:=no (by cases d<;>first|rfl|exact absurd ⟨_,rfl⟩ ht)
    clear no yes
    cases d<;>(try (exact absurd ⟨_,rfl⟩ ht))<;>(try (simp [Y3] at hd;done))
    all_goals
     walk_at "g"
     refine ⟨false,by rfl,?_⟩
     walk_at "g"
     exact e0
   obtain ⟨xs,rfl⟩:=ht
   have ha:=DI hd
   by_cases l2:xs.length=2
   case neg =>
    have e0:=no (by unfold BW;split<;>first|rfl|(rename_i e;cases e;exact absurd rfl l2))
    walk_at "g"
    refine ⟨true,by rfl,?_⟩
    walk_at "g"
    refine IfP.t (by simp;omega) ?_
    walk_at "g"
    exact e0
   obtain ⟨a,b,rfl⟩:=XF l2
   have oa:=ha a (by simp)
   have ob:=ha b (by simp)
   clear l2 hd
   walk_at "g"
   refine ⟨true,by rfl,?_⟩
   walk_at "g"
   refine AN (fun x=>.bl (lsD x)) (fun x Q hx hQ=>?_) (fun _ _=>rfl) ?_
   · have ox:=ha x hx
     walk_at "g"
     exact J4a ox hQ
   walk_at "g"
   cases ea:lsD a
   · have e0:=no (by cases a<;>first|rfl|cases ea)
     refine IfP.t rfl ?_
     walk_at "g"
     exact e0
   cases eb:lsD b
   · have e0:=no (by cases a<;>cases b<;>first|rfl|cases eb)
     refine IfP.t rfl ?_
     walk_at "g"
     exact e0
   refine IfP.f rfl ?_
   obtain ⟨cs,rfl⟩:∃ cs,a=.lst cs:=by cases a<;>first|exact ⟨_,rfl⟩|cases ea
   obtain ⟨fs,rfl⟩:∃ fs,b=.lst fs:=by cases b<;>first|exact ⟨_,rfl⟩|cases eb
   clear ea eb ha
   have oc:=EX oa
   have of:=EX ob
   have no:GR cs fs=false->PP (.bl false):=no
   have yes:GR cs fs=true->PP (.bl true):=yes
   unfold GR at no yes
   walk_at "g"
   by_cases l0:1<=cs.length
   case neg =>
    have e0:=no (by rw [decide_eq_false l0];rfl)
    refine IfP.f (by simp;omega) ?_
    walk_at "g"
    exact e0
   refine IfP.t (by simp;omega) ?_
   walk_at "g"
   by_cases l1:cs.length<=24
   case neg =>
    have e0:=no (by rw [decide_eq_false l1,Bool.false_and,Bool.and_false])
    refine IfP.t (by simp;omega) ?_
    walk_at "g"
    exact e0
   refine IfP.f (by simp;omega) ?_
   walk_at "g"
   by_cases l4:fs.length<=24
   case neg =>
    have e0:=no (by rw [decide_eq_false l4];simp)
    refine IfP.t (by simp;omega) ?_
    walk_at "g"
    exact e0
   refine IfP.f (by simp;omega) ?_
   rw [decide_eq_true l0,decide_eq_true l1,decide_eq_true l4,Bool.true_and,Bool.true_and,Bool.true_and] at no yes
   walk_at "g"
   refine And.intro (by omega) ?_
   walk_at "g"
   refine And.intro (by rw [List.length_append];omega) ?_
   refine AN (fun x=>.bl (wtD 3 x)) (fun x Q hx hQ=>?_) (fun _ _=>rfl) ?_
   · have ox:Y3 x=true:=(List.mem_append.mp hx).elim (oc x) (of x)
     walk_at "g"
     exact ⟨by show (AH x&&true)=true;rw [AD ox];rfl,x,3,rfl,ox,by decide,hQ⟩
   walk_at "g"
   rw [EK (wtD 3)]
   walk_at "g"
   cases hw:(cs++fs).all (wtD 3)
   · have e0:=no (by
      rw [List.all_append] at hw
      cases h1:cs.all (wtD 3)
      · obtain ⟨x,hx,h⟩:=List.all_eq_false.mp h1
        rw [WI hx (VY (by simpa using h))];rfl
      · rw [h1,Bool.true_and] at hw
        obtain ⟨x,hx,h⟩:=List.all_eq_false.mp hw
        rw [WI (f:=EL cs.length) hx (VP (by simpa using h)),Bool.and_false])
     refine IfP.t (by show (!((cs++fs).map (wtD 3)).all id)=true;rw [CY,hw];rfl) ?_
     walk_at "g"
     exact e0
   refine IfP.f (by show (!((cs++fs).map (wtD 3)).all id)=false;rw [CY,hw];rfl) ?_
   have hw:=List.all_eq_true.mp hw
   have wc:∀ x∈cs,wtD 3 x=true:=fun x h=>hw x (List.mem_append_left _ h)
   have wf:∀ x∈fs,wtD 3 x=true:=fun x h=>hw x (List.mem_append_right _ h)
   walk_at "g"
   refine And.intro (by omega) ?_
   refine AN (fun x=>.bl (HW x)) (fun x Q hx hQ=>?_) (fun _ _=>rfl) ?_
   · obtain ⟨a,b,c,rfl⟩:=wt3 (wc x hx)
     have hQ:Q (.bl (in6 a&&(in6 b&&in6 c))):=hQ
     walk_at "g"
     intro M hM hge
     have hM0:M=a\/M=b\/M=c:=by simpa using hM
     have ga:=hge a (by simp)
     have gb:=hge b (by simp)
     have gc:=hge c (by simp)
     have ga:a<=M:=ga
     have gb:b<=M:=gb
     have gc:c<=M:=gc
     have p6:(10:Int) ^ (6:Int).toNat=1000000:=by decide
     have hf:(¬ ((-1000000<a/\a<1000000)/\(-1000000<b/\b<1000000)/\(-1000000<c/\c<1000000)))->Q (.bl false):=fun q=>by
      have:(in6 a&&(in6 b&&in6 c))=false:=by
       unfold in6
       rw [<- Bool.decide_and,<- Bool.decide_and]
       exact decide_eq_false q
      rw [this] at hQ
      exact hQ
     walk_at "g"
     by_cases q1:M<1000000
     case neg =>
      refine IfP.f (by show decide (M<10 ^ (6:Int).toNat)=false;rw [p6];exact decide_eq_false q1) ?_
      walk_at "g"
      exact hf fun q=>by omega
     refine IfP.t (by show decide (M<10 ^ (6:Int).toNat)=true;rw [p6];exact decide_eq_true q1) ?_
     walk_at "g"
     intro m hm hle
     have hm0:m=a\/m=b\/m=c:=by simpa using hm
     have la:m<=a:=hle a (by simp)
     have lb:m<=b:=hle b (by simp)
     have lc:m<=c:=hle c (by simp)
     walk_at "g"
     show Q (.bl (decide (0 - 10 ^ (6:Int).toNat<m)))
     rw [p6]
     have:(in6 a&&(in6 b&&in6 c))=decide ((0:Int) - 1000000<m):=by
      unfold in6
      rw [<- Bool.decide_and,<- Bool.decide_and]
      exact decide_eq_decide.mpr ⟨fun q=>by omega,fun q=>⟨⟨by omega,by omega⟩,⟨by omega,by omega⟩,by omega,by omega⟩⟩
     rw [this] at hQ
     exact hQ
   walk_at "g"
   rw [EK HW]
   walk_at "g"
   cases hc:cs.all HW
   · have e0:=no (by rw [hc];rfl)
     refine IfP.t (by show (!(cs.map HW).all id)=true;rw [CY,hc];rfl) ?_
     walk_at "g"
     exact e0
   refine IfP.f (by show (!(cs.map HW).all id)=false;rw [CY,hc];rfl) ?_
   rw [hc,Bool.true_and] at no yes
   walk_at "g"
   refine And.intro (by omega) ?_
   refine AN (fun x=>.bl (EL cs.length x)) (fun x Q hx hQ=>?_) (fun _ _=>rfl) ?_
   · obtain ⟨a,b,c,rfl⟩:=wt3 (wf x hx)
     have hQ:Q (.bl (IL a b c cs.length)):=hQ
     have hf:(¬ (a≠b/\b≠c/\c≠a/\(0<=a/\0<=b/\0<=c)/\a<cs.length/\b<cs.length/\c<cs.length))->Q (.bl false):=fun q=>by
      unfold IL at hQ
      rw [decide_eq_false q] at hQ
      exact hQ
     walk_at "g"
     intro m hm hle
     have hm0:m=a\/m=b\/m=c:=by simpa using hm
     have la:m<=a:=hle a (by simp)
     have lb:m<=b:=hle b (by simp)
     have lc:m<=c:=hle c (by simp)
     walk_at "g"
     by_cases q1:0<=m
     case neg =>
      refine IfP.f (by simpa using q1) ?_
      walk_at "g"
      exact hf fun q=>by omega
     refine IfP.t (by simpa using q1) ?_
     walk_at "g"
     intro M hM hge
     have hM0:M=a\/M=b\/M=c:=by simpa using hM
     have ga:a<=M:=hge a (by simp)
     have gb:b<=M:=hge b (by simp)
     have gc:c<=M:=hge c (by simp)
     walk_at "g"
     by_cases q2:M<cs.length
     case neg =>
      refine IfP.f (by simpa using q2) ?_
      walk_at "g"
      exact hf fun q=>by omega
     refine IfP.t (by simpa using q2) ?_
     walk_at "g"
     have:IL a b c cs.length=decide ((((met [a,b,c] 3).length:Nat):Int)=3):=by
      unfold IL
      refine decide_eq_decide.mpr ⟨fun q=>by rw [(Q1k a b c).mpr ⟨q.1,q.2.1,q.2.2.1⟩];rfl,fun q=>?_⟩
      obtain ⟨u1,u2,u3⟩:=(Q1k a b c).mp (by omega)
      exact ⟨u1,u2,u3,⟨by omega,by omega,by omega⟩,by omega,by omega,by omega⟩
     rw [this] at hQ
     rw [Bool.bne_false]
     exact hQ
   walk_at "g"
   rw [EK (EL cs.length)]
   walk_at "g"
   have:(fs.map (EL cs.length)).all id=fs.all (EL cs.length):=CY ..
   show PP (.bl ((fs.map (EL cs.length)).all id))
   rw [this]
   cases hf:fs.all (EL cs.length)
   · exact no hf
   · exact yes hf
abbrev FZ:Stmt:=top 71
abbrev J2s:List Str:=["_law_body_here","_law_place"]
theorem IE:FnScope ["_law_body_here","_law_place","_law_face"] J2s (J5 FZ):=⟨rfl,rfl,rfl,by decide +kernel,rfl,by decide +kernel,by decide +kernel⟩
def UN:DSp:=fun ds P _=>∃ (cs:List D) (fl:List F3i) (f p:Nat),ds=[.tup [.lst cs,.lst (fl.map F3i.d)],t2 f p]/\f<fl.length/\p<=2/\P (AF (AE fl (t2 f p)))
theorem OZ {w:World} {f:Addr} (F:Fun K "_law_side" "_law_side" FZ f fd) (Z:Bi mg) {c:Cs} (Y:Ex K mg base c):FnOk P w K mg base CX0 1 f fd J2s (Q6 K BT UN):=by
 refine F.okD IE (fun ds PP Ed h=>?_) (fun cdv A outer s H E M bg ds PP Ed hr hS_=>?_)
 · obtain ⟨cs,fl,f_,p,rfl,hf,hp,hP⟩:=h
   rfl
 · obtain ⟨cs,fl,f_,p,rfl,hf,hp,hP⟩:=hS_
   refine ⟨_,(Q2 (FR (i:=2) IE.nd rfl (by walk_at "o") (Y0 (V2 K (by rfl)) Y6 (Y0 (V2 K (by rfl)) Y6 (jdv 0) J3 (fun _ _=>rfl)) (Y0 (V2 K (by rfl)) Y6 (jdv 1) J3 (fun _ _=>rfl)) (fun _ _=>rfl)))
    (Q3 (V8 (J9 (J0 (Y0 (V2 K (by rfl)) Y6 (jdv 2) (Y0 (V2 K (by rfl)) Y6 (jdv 1) J3 (fun _ _=>rfl)) (fun _ _=>rfl)) (J0 (Y0 (V2 K (by rfl)) Y6 (jdv 2) (BG GE J3t (BG BB EH (Y0 (V2 K (by rfl)) Y6 (jdv 1) J3 (fun _ _=>rfl)) J3) J3) (fun _ _=>rfl)) J1)))))),?_⟩
   obtain ⟨a1,b1,s1,t1⟩:=CJ hf hp
   rw [s1] at hP
   have i1:atI (fl.map F3i.d) (f_:Int)=some fl[f_].d:=CC (j:=f_) (by rw [List.getElem?_map,List.getElem?_eq_getElem hf];rfl)
   walk_at "g"
   rw [i1]
   walk_at "g"
   generalize fl[f_]=q at *
   have h3:p=0\/p=1\/p=2:=by omega
   rcases h3 with rfl|rfl|rfl<;>cases t1<;>(walk_at "g";exact hP)
def Q2v (f:Int):D->D
 | .int k=>t2 f k
 | d=>d
theorem allPl_len (n:Nat):(CV n).length=3*n:=by
 induction n with
 | zero=>rfl
 | succ n ih=>rw [FT,List.length_append,ih];show 3*n+3=_;omega
abbrev DC:Stmt:=top 72
theorem ED:FnScope ["_law_body_here","_law_found","_law_number"] ["_law_body_here"] (J5 DC):=⟨rfl,rfl,rfl,by decide +kernel,rfl,by decide +kernel,by decide +kernel⟩
def UO:DSO:=fun ds P _=>∃ (cs:List D) (fl:List F3i),ds=[.tup [.lst cs,.lst (fl.map F3i.d)]]/\fl.length<=24/\P ((CV fl.length).map AF)
abbrev xc9 (P:Program) (w:World) (K:Fg) (mg:Str → Option Value) (base:Heap) (f:Addr) (cdv:Value) (A:Around) (outer:List Env) (s:Shared) (H:Hp) (E:XK):Cx:=CI CX0 P w K mg base ["_law_body_here","_law_found","_law_number"] "_law_places" (J5 DC) f cdv A outer s H E
abbrev QR:List Str:=["_law_k","_law_number"]
theorem MD {w:World} {f:Addr} (F:Fun K "_law_places" "_law_places" DC f fd) (Z:Bi mg) {c:Cs} (Y:Ex K mg base c):FnOk P w K mg base CX0 1 f fd ["_law_body_here"] (CP K BT UO):=by
 refine F.okDO ED (fun ds PP Ed h=>?_) (fun cdv A outer s H E M bg ds PP Ed hr hS_=>?_)
 · obtain ⟨cs,fl,rfl,hl,hP⟩:=h
   rfl
 · obtain ⟨cs,fl,rfl,hl,hP⟩:=hS_
   refine ⟨_,(Q2 (RP (i:=1) ED.nd rfl (by walk_at "o") J1)
    (Q2 (VH (V5 2) PassesOwn.never rfl (AU rfl Z.range_ (J0 (J4 (J8 K (by rfl)) AC rfl Z.len_ Z5 (J0 (Y0 (V2 K (by rfl)) Y6 (jdv 0) J3 (fun _ _=>rfl)) J1)) J1)) (pg_name (i:=2) ED.nd rfl (by walk_at "o")) (Q3 (HS (i:=1) (by rfl) (J0 (AB (X:=(xc9 P w K mg base f cdv A outer s H E).nox) (V5 0) (FH (X:=(xc9 P w K mg base f cdv A outer s H E).nox) (N':=QR) (map:=[none,some 2]) (by rfl) (by rfl) (by decide +kernel) (by rfl) ⟨⟨rfl,rfl,rfl,by walk_at "o"⟩,True.intro⟩ (gkeep_name rfl) fun cl0 C0 fp0 s0 H0=>⟨(pg_name (X:=(Q0 (xc9 P w K mg base f cdv A outer s H E).nox QR _ cl0 C0 fp0 s0 H0)) (i:=0) (V9 QR (by decide +kernel)) rfl (by walk_at "o")),Z1,(J9 (X:=(Q0 (xc9 P w K mg base f cdv A outer s H E).nox QR _ cl0 C0 fp0 s0 H0)) (J0 (jdv 1) (J0 (jdv 0) J1)))⟩) (AU rfl Z.range_ (J0 J3 J1))) J1) (GC PySem.F.plainAttrs_list PySem.F.slot_list_extend PySem.F.type_list_extend JG (pv 1) (JA.h (J0 (AB (X:=(xc9 P w K mg base f cdv A outer s H E).nox) (V5 0) (FH (X:=(xc9 P w K mg base f cdv A outer s H E).nox) (N':=QR) (map:=[none,some 2]) (by rfl) (by rfl) (by decide +kernel) (by rfl) ⟨⟨rfl,rfl,rfl,by walk_at "o"⟩,True.intro⟩ (gkeep_name rfl) fun cl0 C0 fp0 s0 H0=>⟨(pg_name (X:=(Q0 (xc9 P w K mg base f cdv A outer s H E).nox QR _ cl0 C0 fp0 s0 H0)) (i:=0) (V9 QR (by decide +kernel)) rfl (by walk_at "o")),Z1,(J9 (X:=(Q0 (xc9 P w K mg base f cdv A outer s H E).nox QR _ cl0 C0 fp0 s0 H0)) (J0 (jdv 1) (J0 (jdv 0) J1)))⟩) (AU rfl Z.range_ (J0 J3 J1))) J1))))))
    (Q3 (J0c (jdv 1))))),?_⟩
   walk_at "g"
   refine And.intro ⟨by omega,by rw [List.length_map];omega⟩ ?_
   rw [List.length_map]
   refine ⟨fun i ρ=>∃ v2,ρ=[some (.tup [.lst cs,.lst (fl.map F3i.d)]),some (.own ((CV i).map AF)),v2],⟨_,rfl⟩,?_,?_⟩
   · rintro i x ρ e ⟨v2,rfl⟩
     obtain ⟨rfl,hi⟩:=AZ e
     have hi:i<24:=by omega
     clear e
     rw [Int.zero_add]
     walk_at "g"
     refine AN (Q2v i) (fun x Q hx hQ=>?_) (fun x hx=>?_) ?_
     · obtain ⟨k,ek⟩:=List.getElem?_of_mem hx
       obtain ⟨rfl,_⟩:=AZ ek
       walk_at "g"
       exact hQ
     · obtain ⟨k,ek⟩:=List.getElem?_of_mem hx
       obtain ⟨rfl,_⟩:=AZ ek
       rfl
     walk_at "g"
     refine And.intro (by rw [List.length_map,allPl_len];show 3*i+3<=1000;omega) ?_
     exact ⟨_,by rw [FT,List.map_append];rfl⟩
   · rintro ρ ⟨v2,rfl⟩
     rw [rangeD_len,Int.toNat_natCast]
     walk_at "g"
     exact hP
theorem XR {fl:List F3i}{f p g q:Nat}(hf:f<fl.length)(hp:p<=2)(hg:g<fl.length)(hq:q<=2):(AE fl (t2 f p)=NE (AE fl (t2 g q)))↔(AE fl (t2 g q)=NE (AE fl (t2 f p))):=by
 obtain ⟨a1,b1,s1,_⟩:=CJ hf hp
 obtain ⟨a2,b2,s2,_⟩:=CJ hg hq
 rw [s1,s2]
 show ([(a1:Int),(b1:Int)]=[(b2:Int),(a2:Int)])↔([(a2:Int),(b2:Int)]=[(b1:Int),(a1:Int)])
 simp only [List.cons.injEq,and_true]
 exact ⟨fun h=>⟨h.2.symm,h.1.symm⟩,fun h=>⟨h.2.symm,h.1.symm⟩⟩
abbrev CM:Stmt:=top 73
theorem BD:FnScope ["_law_body_here","_law_pair","_law_i","_law_j"] ["_law_body_here","_law_pair"] (J5 CM):=⟨rfl,rfl,rfl,by decide +kernel,rfl,by decide +kernel,by decide +kernel⟩
def J2i:DSp:=fun ds P _=>∃ (cs:List D) (fl:List F3i) (d:D),ds=[.tup [.lst cs,.lst (fl.map F3i.d)],d]/\Y3 d=true/\P (.bl (prB fl d))
structure C__law_is_pair (P:Program)(w:World)(K:Fg)(mg:Str->Option Value)(base:Heap)(c:Cs):Prop where
 _law_side_:Callee P w K mg base CX0 "_law_side" 1 J2s (Q6 K BT UN)
 _law_wholes_:Callee P w K mg base CX0 "_law_wholes" 2 WN (Q6 K BT HY)
abbrev QS (P:Program) (w:World) (K:Fg) (mg:Str → Option Value) (base:Heap) (f:Addr) (cdv:Value) (A:Around) (outer:List Env) (s:Shared) (H:Hp) (E:XK):Cx:=CI CX0 P w K mg base ["_law_body_here","_law_pair","_law_i","_law_j"] "_law_is_pair" (J5 CM) f cdv A outer s H E
abbrev J2r:List Str:=["_law_one","_law_body_here"]
theorem KQ {w:World} {f:Addr} (F:Fun K "_law_is_pair" "_law_is_pair" CM f fd) (Z:Bi mg) {c:Cs} (Y:Ex K mg base c) (G:C__law_is_pair P w K mg base c):FnOk P w K mg base CX0 3 f fd ["_law_body_here","_law_pair"] (Q6 K BT J2i):=by
 refine F.okD BD (fun ds PP Ed h=>?_) (fun cdv A outer s H E M bg ds PP Ed hr hS_=>?_)
 · obtain ⟨cs,fl,d,rfl,hd,hP⟩:=h
   rfl
 · obtain ⟨cs,fl,d,rfl,hd,hP⟩:=hS_
   refine ⟨_,(Q2 (AR (DV (Y4 (Q7 (by rfl) (J4 (Q8 K (by rfl)) Y8 rfl Z.isinstance_ Q5 (J0 (jdv 1) (J0 (Z2 rfl Z.tuple_ AO) J1))) (fun _=>rfl))) (JK (Y5 KA GH (J4 (J8 K (by rfl)) AC rfl Z.len_ Z5 (J0 (jdv 1) J1)) J3 (Q9 _)) (CB (Y4 (Q7 (by rfl) (J4 (AI K (by rfl) (by rfl)) CS rfl Z.all_ CU (J0 (AB (X:=(QS P w K mg base f cdv A outer s H E).nox) (V5 0) (FH (X:=(QS P w K mg base f cdv A outer s H E).nox) (N':=HI) (map:=[none]) (by rfl) (by rfl) (by decide +kernel) (by rfl) True.intro (gkeep_name rfl) fun cl0 C0 fp0 s0 H0=>⟨(pg_name (X:=(Q0 (QS P w K mg base f cdv A outer s H E).nox HI _ cl0 C0 fp0 s0 H0)) (i:=0) (V9 HI (by decide +kernel)) rfl (by walk_at "o")),Z1,(Y1 (X:=(Q0 (QS P w K mg base f cdv A outer s H E).nox HI _ cl0 C0 fp0 s0 H0)) G._law_wholes_ hr.m rfl (J0 (jdv 0) (J0 J3 J1)))⟩) (Z4 (by rfl) (jdv 1))) J1)) (fun _=>rfl)))))) (Q3 (V8 AK)) Z0)
    (Q2 (AR (Y4 (Q7 (by rfl) (J4 (AI K (by rfl) (by rfl)) CS rfl Z.all_ CU (J0 (AB (X:=(QS P w K mg base f cdv A outer s H E).nox) (V5 0) (FH (X:=(QS P w K mg base f cdv A outer s H E).nox) (N':=J2r) (map:=[none,some 0]) (by rfl) (by rfl) (by decide +kernel) (by rfl) ⟨⟨rfl,rfl,rfl,by walk_at "o"⟩,True.intro⟩ (gkeep_name rfl) fun cl0 C0 fp0 s0 H0=>⟨(pg_name (X:=(Q0 (QS P w K mg base f cdv A outer s H E).nox J2r _ cl0 C0 fp0 s0 H0)) (i:=0) (V9 J2r (by decide +kernel)) rfl (by walk_at "o")),Z1,(AL (X:=(Q0 (QS P w K mg base f cdv A outer s H E).nox J2r _ cl0 C0 fp0 s0 H0)) (HA KC KB BV BV J3 (Y0 (V2 K (by rfl)) Y6 (jdv 0) J3 (fun _ _=>rfl)) (J4 (J8 K (by rfl)) AC rfl Z.len_ Z5 (J0 (Y0 (V2 K (by rfl)) Y6 (jdv 1) J3 (fun _ _=>rfl)) J1))) (CQ (HA KC KB BV BV J3 (Y0 (V2 K (by rfl)) Y6 (jdv 0) J3 (fun _ _=>rfl)) J3)))⟩) (Z4 (by rfl) (jdv 1))) J1)) (fun _=>rfl))) (Q3 (V8 AK)) Z0)
    (Q2 (GZ (DX [2,3]) (Y1 G._law_side_ hr.m rfl (J0 (jdv 0) (J0 (Y0 (V2 K (by rfl)) Y6 (jdv 1) J3 (fun _ _=>rfl)) J1))) (PG.or (BO (n:=2) K (by rfl) (by rfl) (J7 (pg_name (i:=2) BD.nd rfl (by walk_at "o")) (J7 (pg_name (i:=3) BD.nd rfl (by walk_at "o")) Z3))) (BZ (n:=2) K (by rfl) (by rfl) (J7 (pg_name (i:=2) BD.nd rfl (by walk_at "o")) (J7 (pg_name (i:=3) BD.nd rfl (by walk_at "o")) Z3)))))
    (Q3 (V8 (AJ (GF K (by rfl) hr.units) DR (Y1 G._law_side_ hr.m rfl (J0 (jdv 0) (J0 (Y0 (V2 K (by rfl)) Y6 (jdv 1) J3 (fun _ _=>rfl)) J1))) (J9 (J0 (jdv 3) (J0 (jdv 2) J1))) (Q9 _))))))),?_⟩
   by_cases ht:∃ xs,d=.tup xs
   case neg =>
    have e0:PP (.bl false):=by
     have:prB fl d=false:=by cases d<;>first|rfl|exact absurd ⟨_,rfl⟩ ht
     rw [this] at hP;exact hP
    cases d<;>(try (exact absurd ⟨_,rfl⟩ ht))<;>(try (simp [Y3] at hd;done))
    all_goals
     walk_at "g"
     refine ⟨false,by rfl,?_⟩
     walk_at "g"
     exact e0
   obtain ⟨xs,rfl⟩:=ht
   have ha:=DI hd
   walk_at "g"
   refine ⟨true,by rfl,?_⟩
   walk_at "g"
   by_cases l2:xs.length=2
   case neg =>
    have e0:PP (.bl false):=by
     have:prB fl (.tup xs)=false:=by unfold prB;split<;>first|rfl|(rename_i e;cases e;exact absurd rfl l2)
     rw [this] at hP;exact hP
    refine IfP.t (by simp;omega) ?_
    walk_at "g"
    exact e0
   refine IfP.f (by simp;omega) ?_
   obtain ⟨a,b,rfl⟩:=XF l2
   have oa:=ha a (by simp)
   have ob:=ha b (by simp)
   have hP:PP (.bl (plB fl.length a&&(plB fl.length b&&decide (AE fl a=NE (AE fl b))))):=hP
   clear l2 hd
   walk_at "g"
   refine AN (fun x=>.bl (wtD 2 x)) (fun x Q hx hQ=>?_) (fun _ _=>rfl) ?_
   · have ox:=ha x hx
     walk_at "g"
     exact ⟨by show (AH x&&true)=true;rw [AD ox];rfl,x,2,rfl,ox,by decide,hQ⟩
   walk_at "g"
   cases wa:wtD 2 a
   · refine IfP.t rfl ?_
     walk_at "g"
     rw [TF wa] at hP
     exact hP
   cases wb:wtD 2 b
   · refine IfP.t rfl ?_
     walk_at "g"
     rw [TF wb,Bool.false_and,Bool.and_false] at hP
     exact hP
   refine IfP.f rfl ?_
   obtain ⟨f1,p1,rfl⟩:=wt2 wa
   obtain ⟨f2,p2,rfl⟩:=wt2 wb
   walk_at "g"
   refine AN (fun x=>.bl (plB fl.length x)) (fun x Q hx hQ=>?_) (fun _ _=>rfl) ?_
   · obtain ⟨f3,p3,rfl⟩:∃ f3 p3:Int,x=t2 f3 p3:=by
      simp only [List.mem_cons,List.not_mem_nil,or_false] at hx
      rcases hx with rfl|rfl<;>exact ⟨_,_,rfl⟩
     have hQ:Q (.bl (TD fl.length f3 p3)):=hQ
     have hf:(¬ (0<=f3/\f3<fl.length/\0<=p3/\p3<=2))->Q (.bl false):=fun q=>by
      unfold TD at hQ
      rw [decide_eq_false q] at hQ
      exact hQ
     clear hx
     walk_at "g"
     by_cases e1:0<=f3
     case neg =>
      refine IfP.f (decide_eq_false e1) ?_
      walk_at "g"
      exact hf fun q=>e1 q.1
     refine IfP.t (decide_eq_true e1) ?_
     walk_at "g"
     by_cases e2:f3<fl.length
     case neg =>
      refine IfP.f (by show decide (f3<((fl.map F3i.d).length:Nat))=false;rw [List.length_map];exact decide_eq_false e2) ?_
      walk_at "g"
      exact hf fun q=>e2 q.2.1
     refine IfP.t (by show decide (f3<((fl.map F3i.d).length:Nat))=true;rw [List.length_map];exact decide_eq_true e2) ?_
     walk_at "g"
     by_cases e3:0<=p3
     case neg =>
      refine IfP.f (decide_eq_false e3) ?_
      walk_at "g"
      exact hf fun q=>e3 q.2.2.1
     refine IfP.t (decide_eq_true e3) ?_
     walk_at "g"
     have:TD fl.length f3 p3=decide (p3<3):=decide_eq_decide.mpr ⟨fun q=>by omega,fun q=>⟨e1,e2,e3,by omega⟩⟩
     rw [this] at hQ
     exact hQ
   walk_at "g"
   cases pa:plB fl.length (.tup [.int f1,.int p1])
   · refine IfP.t rfl ?_
     walk_at "g"
     rw [pa] at hP
     exact hP
   cases pb:plB fl.length (.tup [.int f2,.int p2])
   · refine IfP.t rfl ?_
     walk_at "g"
     rw [pa,pb] at hP
     exact hP
   refine IfP.f rfl ?_
   rw [pa,pb] at hP
   obtain ⟨g1,q1,z1,hf1,hp1⟩:=IZ pa
   obtain ⟨g2,q2,z2,hf2,hp2⟩:=IZ pb
   cases z1
   cases z2
   clear wa wb pa pb oa ob ha
   have hs:=XR hf1 hp1 hf2 hp2
   obtain ⟨a1,b1,s1,_⟩:=CJ hf1 hp1
   obtain ⟨a2,b2,s2,_⟩:=CJ hf2 hp2
   walk_at "g"
   refine ⟨cs,fl,g1,q1,rfl,hf1,hp1,?_⟩
   rw [s1]
   walk_at "g"
   refine ⟨cs,fl,g2,q2,rfl,hf2,hp2,?_⟩
   rw [s2]
   walk_at "g"
   refine EqG.mk2 ?_
   rw [Bool.bne_false]
   have hP:PP (.bl (decide (AE fl (t2 g1 q1)=NE (AE fl (t2 g2 q2))))):=hP
   rw [show decide (AE fl (t2 g1 q1)=NE (AE fl (t2 g2 q2)))=decide (AE fl (t2 g2 q2)=NE (AE fl (t2 g1 q1))) from decide_eq_decide.mpr hs] at hP
   rw [show AE fl (t2 g1 q1)=_ from s1,show AE fl (t2 g2 q2)=_ from s2] at hP
   have:decide ([(a2:Int),(b2:Int)]=NE [(a1:Int),(b1:Int)])=(decide ((a2:Int)=b1)&&decide ((b2:Int)=a1)):=by
    show decide ([(a2:Int),(b2:Int)]=[(b1:Int),(a1:Int)])=_
    by_cases z1:(a2:Int)=b1<;>by_cases z2:(b2:Int)=a1<;>simp [z1,z2]
   rw [this] at hP
   exact hP
abbrev BY:Stmt:=top 74
abbrev Q0m:List Str:=["_law_paper","_law_body_here","_law_pairs_here","_law_told","_law_one","_law_other"]
theorem Y2:FnScope Q0m ["_law_paper"] (J5 BY):=⟨rfl,rfl,rfl,by decide +kernel,rfl,by decide +kernel,by decide +kernel⟩
def J6s:DSp:=fun ds P _=>∃ d:D,ds=[d]/\Ppr d/\P (.bl (hoB d))
structure C__law_is_right (P:Program)(w:World)(K:Fg)(mg:Str->Option Value)(base:Heap)(c:Cs):Prop where
 _law_places_:Callee P w K mg base CX0 "_law_places" 1 ["_law_body_here"] (CP K BT UO)
 _law_is_body_:Callee P w K mg base CX0 "_law_is_body" 3 xl9 (Q6 K BT J6t)
 _law_is_pair_:Callee P w K mg base CX0 "_law_is_pair" 3 ["_law_body_here","_law_pair"] (Q6 K BT J2i)
abbrev YK (P:Program) (w:World) (K:Fg) (mg:Str → Option Value) (base:Heap) (f:Addr) (cdv:Value) (A:Around) (outer:List Env) (s:Shared) (H:Hp) (E:XK):Cx:=CI CX0 P w K mg base Q0m "_law_is_right" (J5 BY) f cdv A outer s H E
abbrev J2q:List Str:=["_law_pair","_law_body_here"]
theorem JC {w:World} {f:Addr} (F:Fun K "_law_is_right" "_law_is_right" BY f fd) (Z:Bi mg) {c:Cs} (Y:Ex K mg base c) (G:C__law_is_right P w K mg base c):FnOk P w K mg base CX0 4 f fd ["_law_paper"] (Q6 K BT J6s):=by
 refine F.okD Y2 (fun ds PP Ed h=>?_) (fun cdv A outer s H E M bg ds PP Ed hr hS_=>?_)
 · obtain ⟨d,rfl,hp,hP⟩:=h
   rfl
 · obtain ⟨d,rfl,hp,hP⟩:=hS_
   refine ⟨_,(Q2 (AR (DV (Y4 (Q7 (by rfl) (J4 (Q8 K (by rfl)) Y8 rfl Z.isinstance_ Q5 (J0 (jdv 0) (J0 (Z2 rfl Z.tuple_ AO) J1))) (fun _=>rfl))) (JK (Y5 KA GH (J4 (J8 K (by rfl)) AC rfl Z.len_ Z5 (J0 (jdv 0) J1)) J3 (Q9 _)) (JK (Y5 (OV K (by rfl) hr.units) DR (Y0 (V2 K (by rfl)) Y6 (jdv 0) J3 (fun _ _=>rfl)) EB (Q9 _)) (CB (Y4 (Q7 (by rfl) (Y1 G._law_is_body_ hr.m rfl (J0 (Y0 (V2 K (by rfl)) Y6 (jdv 0) J3 (fun _ _=>rfl)) J1)) (fun _=>rfl))))))) (Q3 (V8 AK)) Z0)
    (Q2 (GZ (DX [1,2]) (FA (LO K (by rfl)) (jdv 0) (GJ J3) GK) (PG.or (BO (n:=2) K (by rfl) (by rfl) (J7 (pg_name (i:=1) Y2.nd rfl (by walk_at "o")) (J7 (pg_name (i:=2) Y2.nd rfl (by walk_at "o")) Z3))) (BZ (n:=2) K (by rfl) (by rfl) (J7 (pg_name (i:=1) Y2.nd rfl (by walk_at "o")) (J7 (pg_name (i:=2) Y2.nd rfl (by walk_at "o")) Z3)))))
    (Q2 (AR (DV (Y4 (Q7 (by rfl) (J4 (Q8 K (by rfl)) Y8 rfl Z.isinstance_ Q5 (J0 (jdv 2) (J0 (Z2 rfl Z.list_ FS) J1))) (fun _=>rfl))) (CB (Y4 (Q7 (by rfl) (J4 (AI K (by rfl) (by rfl)) CS rfl Z.all_ CU (J0 (AB (X:=(YK P w K mg base f cdv A outer s H E).nox) (V5 0) (FH (X:=(YK P w K mg base f cdv A outer s H E).nox) (N':=J2q) (map:=[none,some 1]) (by rfl) (by rfl) (by decide +kernel) (by rfl) ⟨⟨rfl,rfl,rfl,by walk_at "o"⟩,True.intro⟩ (gkeep_name rfl) fun cl0 C0 fp0 s0 H0=>⟨(pg_name (X:=(Q0 (YK P w K mg base f cdv A outer s H E).nox J2q _ cl0 C0 fp0 s0 H0)) (i:=0) (V9 J2q (by decide +kernel)) rfl (by walk_at "o")),Z1,(Y1 (X:=(Q0 (YK P w K mg base f cdv A outer s H E).nox J2q _ cl0 C0 fp0 s0 H0)) G._law_is_pair_ hr.m rfl (J0 (jdv 1) (J0 (jdv 0) J1)))⟩) (Z4 (by rfl) (jdv 2))) J1)) (fun _=>rfl))))) (Q3 (V8 AK)) Z0)
    (Q2 (RP (i:=3) Y2.nd rfl (by walk_at "o") J1)
    (Q2 (VH (DX [4,5]) PassesOwn.never rfl (Z4 (by rfl) (jdv 2)) (PG.or (BO (n:=2) K (by rfl) (by rfl) (J7 (pg_name (i:=4) Y2.nd rfl (by walk_at "o")) (J7 (pg_name (i:=5) Y2.nd rfl (by walk_at "o")) Z3))) (BZ (n:=2) K (by rfl) (by rfl) (J7 (pg_name (i:=4) Y2.nd rfl (by walk_at "o")) (J7 (pg_name (i:=5) Y2.nd rfl (by walk_at "o")) Z3)))) (Q3 (HS (i:=3) (by rfl) (J0 (Y7 (J0 (jdv 4) (J0 (jdv 5) J1))) J1) (GC PySem.F.plainAttrs_list PySem.F.slot_list_extend PySem.F.type_list_extend JG (pv 3) (JA.h (J0 (Y7 (J0 (jdv 4) (J0 (jdv 5) J1))) J1))))))
    (Q3 (V8 (AJ (GF K (by rfl) hr.units) DR (VL (NV (X:=(YK P w K mg base f cdv A outer s H E).nox) (J0 (jdv 3) J1) (EG (MS K (by rfl) (by rfl)) rfl Z.sorted_ NY (JA.h (J0 (jdv 3) J1))))) (J0j G._law_places_ hr.m rfl (J0 (jdv 1) J1)) (Q9 _))))))))),?_⟩
   have hd:=hp.ok
   by_cases ht:∃ xs,d=.tup xs
   case neg =>
    have e0:PP (.bl false):=by
     have:hoB d=false:=by cases d<;>first|rfl|exact absurd ⟨_,rfl⟩ ht
     rw [this] at hP;exact hP
    clear hp hP
    cases d<;>(try (exact absurd ⟨_,rfl⟩ ht))<;>(try (simp [Y3] at hd;done))
    all_goals
     walk_at "g"
     refine ⟨false,by rfl,?_⟩
     walk_at "g"
     exact e0
   obtain ⟨xs,rfl⟩:=ht
   have ha:=DI hd
   walk_at "g"
   refine ⟨true,by rfl,?_⟩
   walk_at "g"
   by_cases l3:xs.length=3
   case neg =>
    have e0:PP (.bl false):=by
     have:hoB (.tup xs)=false:=by unfold hoB;split<;>first|rfl|(rename_i e;cases e;exact absurd rfl l3)
     rw [this] at hP;exact hP
    refine IfP.t (by simp;omega) ?_
    walk_at "g"
    exact e0
   refine IfP.f (by simp;omega) ?_
   obtain ⟨w,b,e,rfl⟩:=J8e l3
   have ow:=ha w (by simp)
   have ob:=ha b (by simp)
   have oe:=ha e (by simp)
   have fw:V6 19 w=true:=by
    have:=hp.fine
    unfold V6 AM at this
    exact (Bool.and_eq_true _ _).mp this |>.1
   have l31:=fun ps (z:e=.lst ps)=>hp.l31 w b ps (by rw [z])
   have hP:PP (.bl (isS "fellows" w&&fhB b e)):=hP
   clear l3 hd ha hp
   walk_at "g"
   refine LH ow fw (by decide +kernel) ?_
   cases ew:isS "fellows" w
   · rw [ew] at hP
     walk_at "g"
     exact hP
   rw [ew,Bool.true_and] at hP
   walk_at "g"
   refine ⟨by show (AH b&&true)=true;rw [AD ob];rfl,b,rfl,ob,?_⟩
   cases hb:BW b
   · rw [RV hb] at hP
     walk_at "g"
     exact hP
   obtain ⟨cs,fs,rfl,lc,lf,hfs⟩:=SR hb
   walk_at "g"
   refine And.intro (fun z=>absurd z.1 (by show ¬ (HT.sIx 3 0 (some 1)=0);decide)) ?_
   rw [J1i]
   walk_at "g"
   by_cases hte:∃ ps,e=.lst ps
   case neg =>
    have e0:PP (.bl false):=by
     have:fhB (.tup [.lst cs,.lst fs]) e=false:=by
      cases e<;>first|rfl|exact absurd ⟨_,rfl⟩ hte
     rw [this] at hP
     exact hP
    clear hP l31
    cases e<;>(try (exact absurd ⟨_,rfl⟩ hte))<;>(try (simp [Y3] at oe;done))
    all_goals
     refine ⟨false,by rfl,?_⟩
     walk_at "g"
     exact e0
   obtain ⟨ps,rfl⟩:=hte
   have l31:=l31 ps rfl
   refine ⟨true,by rfl,?_⟩
   have hP:PP (.bl (BW (.tup [.lst cs,.lst fs])&&(ps.all (prB (fs.map NF))&&decide ((DG ps).Perm (CV fs.length))))):=hP
   rw [hb,Bool.true_and] at hP
   have op:=EX oe
   have ef:=J0q hfs
   have fll:(fs.map NF).length=fs.length:=List.length_map ..
   generalize fs.map NF=fl at *
   subst ef
   walk_at "g"
   refine And.intro (by omega) ?_
   refine AN (fun x=>.bl (prB fl x)) (fun x Q hx hQ=>?_) (fun _ _=>rfl) ?_
   · have ox:=op x hx
     walk_at "g"
     exact ⟨by show (true&&(AH x&&true))=true;rw [AD ox];rfl,cs,fl,x,rfl,ox,hQ⟩
   walk_at "g"
   rw [EK (prB fl)]
   walk_at "g"
   cases hal:ps.all (prB fl)
   · refine IfP.t (by show (!(ps.map (prB fl)).all id)=true;rw [CY,hal];rfl) ?_
     walk_at "g"
     rw [hal] at hP
     exact hP
   refine IfP.f (by show (!(ps.map (prB fl)).all id)=false;rw [CY,hal];rfl) ?_
   rw [hal,Bool.true_and,<- fll] at hP
   have hal:=List.all_eq_true.mp hal
   walk_at "g"
   refine ⟨fun i ρ=>∃ v4 v5,ρ=[some (.tup [w,.tup [.lst cs,.lst (fl.map F3i.d)],.lst ps]),some (.tup [.lst cs,.lst (fl.map F3i.d)]),some (.lst ps),some (.own ((DG (ps.take i)).map AF)),v4,v5],⟨_,_,rfl⟩,?_,?_⟩
   · rintro i x ρ e ⟨v4,v5,rfl⟩
     have hi:=(List.getElem?_eq_some_iff.mp e).1
     have pl_:=OR (ps.take i)
     rw [List.length_take] at pl_
     obtain ⟨f1,p1,f2,p2,rfl,hf1,hp1,hf2,hp2⟩:=SZ (hal x (List.mem_of_getElem? e))
     walk_at "g"
     refine And.intro (by rw [List.length_map];show _+2<=1000;omega) ?_
     refine ⟨some (t2 f1 p1),some (t2 f2 p2),?_⟩
     rw [RD e,List.map_append]
     rfl
   · rintro ρ ⟨v4,v5,rfl⟩
     rw [List.take_length]
     walk_at "g"
     refine ⟨DG ps,2,rfl,by decide,by have:=OR ps;omega,fun r hr=>OQ (by omega) hal hr,fun ks pk sk=>?_⟩
     walk_at "g"
     refine ⟨cs,fl,rfl,by omega,?_⟩
     refine ⟨XA _,?_⟩
     walk_at "g"
     refine RW ?_
     rw [Bool.bne_false,VA (n:=fl.length) (by omega) hal pk sk (by omega)]
     exact hP
theorem GQ (_:Fg):∀ p H,BT.ok p H->∃ xs,H p=some (.lst xs):=fun p H ⟨_,_,_,e,_⟩=>⟨_,e⟩
abbrev GA:Stmt:=top 68
theorem FJ:FnScope ["_law_paper","_law_due","_law_shown","_law_found"] ["_law_paper","_law_due"] (J5 GA):=⟨rfl,rfl,rfl,by decide +kernel,rfl,by decide +kernel,by decide +kernel⟩
structure Szd (d:D)(m n:Nat):Prop where
 ok:Y3 d=true
 w:wD d<=m
 fine:V6 n d=true
mutual
theorem PV:∀ (n:Nat) (d:D),V6 n d=true->V6 (n+1) d=true
 | n,.non,h=>by unfold V6;rfl
 | n,.bl _,h=>by unfold V6;rfl
 | n,.int _,h=>by unfold V6;rfl
 | n,.str x,h=>by
   have h:PyData.strOk x=true:=by cases n<;>simpa [V6] using h
   unfold V6;exact h
 | 0,.tup xs,h=>by simp [V6] at h
 | 0,.lst xs,h=>by simp [V6] at h
 | 0,.own xs,h=>by simp [V6] at h
 | n+1,.tup xs,h=>by unfold V6 at h ⊢;exact IK n xs h
 | n+1,.lst xs,h=>by unfold V6 at h ⊢;exact IK n xs h
 | n+1,.own xs,h=>by unfold V6 at h ⊢;exact IK n xs h
 | n,.frg _ d,h=>by
   have h:V6 n d=true:=by cases n<;>simpa [V6] using h
   unfold V6;exact PV n d h
 | n,.ty _,h=>by cases n<;>simp [V6] at h
 | n,.adr _,h=>by cases n<;>simp [V6] at h
 | n,.bag,h=>by cases n<;>simp [V6] at h
 | n,.scr _,h=>by cases n<;>simp [V6] at h
 | n,.dct _ _ _,h=>by cases n<;>simp [V6] at h
theorem IK:∀ (n:Nat) (ds:List D),AM n ds=true->AM (n+1) ds=true
 | n,[],h=>by unfold AM;rfl
 | n,d::ds,h=>by
   unfold AM at h ⊢
   obtain ⟨h1,h2⟩:=(Bool.and_eq_true _ _).mp h
   rw [PV n d h1,IK n ds h2];rfl
end
theorem CW:∀ (n m:Nat),n<=m->(∀ d,V6 n d=true->V6 m d=true):=by
 intro n m h
 obtain ⟨k,rfl⟩:=Nat.le.dest h
 clear h
 induction k with
 | zero=>exact fun d h=>h
 | succ k ih=>exact fun d h=>PV (n+k) d (ih d h)
theorem Szd.mono {d:D}{m n m' n':Nat}(h:Szd d m n)(h1:m<=m')(h2:n<=n'):Szd d m' n':=⟨h.ok,Nat.le_trans h.w h1,CW _ _ h2 _ h.fine⟩
theorem ME {ds:List D}(h:∀ d∈ds,Y3 d=true):HK ds=true:=by
 induction ds with
 | nil=>unfold HK;rfl
 | cons d ds ih=>unfold HK;rw [h d (by simp),ih fun e m=>h e (by simp [m])];rfl
theorem YN {ds:List D}{m:Nat}(h:∀ d∈ds,wD d<=m):wDs ds<=ds.length*(m+2):=by
 induction ds with
 | nil=>unfold wDs;exact Nat.zero_le _
 | cons d ds ih =>
   unfold wDs
   have h1:=h d (by simp)
   have h2:=ih fun e m=>h e (by simp [m])
   rw [List.length_cons,Nat.succ_mul]
   omega
theorem Szd.lst {ds:List D}{m n k:Nat}(h:∀ d∈ds,Szd d m n)(hk:ds.length<=k):Szd (.lst ds) (k*(m+2)+3) (n+1) :=
 ⟨by unfold Y3;exact ME fun d q=>(h d q).ok,by
  unfold wD
  have:=YN fun d q=>(h d q).w
  have:=Nat.mul_le_mul_right (m+2) hk
  omega,by unfold V6;exact HC fun d q=>(h d q).fine⟩
theorem Szd.tup {ds:List D}{m n k:Nat}(h:∀ d∈ds,Szd d m n)(hk:ds.length<=k):Szd (.tup ds) (k*(m+2)+3) (n+1) :=
 ⟨by unfold Y3;exact ME fun d q=>(h d q).ok,by
  unfold wD
  have:=YN fun d q=>(h d q).w
  have:=Nat.mul_le_mul_right (m+2) hk
  omega,by unfold V6;exact HC fun d q=>(h d q).fine⟩
theorem Szd.int {i:Int}(h0 : -1000000000<=i)(h1:i<=1000000000):Szd (.int i) 1921 0 :=
 ⟨by
  unfold Y3
  by_cases z:i.natAbs=0
  · rw [z];decide
  · refine decide_eq_true ((Nat.log2_lt z).mpr ?_)
    have:(1000000000:Nat)<2 ^ 1920:=by decide +kernel
    omega,by unfold wD;exact Nat.le_refl _,rfl⟩
def J2h:DSp:=fun ds P _=>∃ d:D,ds=[d,.bl (hoB d)]/\Ppr d/\P (.bl true)
structure C__law_lets (P:Program)(w:World)(K:Fg)(mg:Str->Option Value)(base:Heap)(c:Cs):Prop where
 holds_:Callee P w K mg base CX0 "holds" 7 ["paper"] (Q6 K BT WK)
theorem PB {w:World} {f:Addr} (F:Fun K "_law_lets" "_law_lets" GA f fd) (Z:Bi mg) {c:Cs} (Y:Ex K mg base c) (G:C__law_lets P w K mg base c):FnOk P w K mg base CX0 8 f fd ["_law_paper","_law_due"] (Q6 K BT J2h):=by
 refine F.okD FJ (fun ds PP Ed h=>?_) (fun cdv A outer s H E M bg ds PP Ed hr hS_=>?_)
 · obtain ⟨d,rfl,hp,hP⟩:=h
   rfl
 · obtain ⟨d,rfl,hp,hP⟩:=hS_
   refine ⟨_,(Q2 (FR (i:=2) FJ.nd rfl (by walk_at "o") (J4 (NX K (by rfl) hr.gd hr.units) WB rfl Z.repr_ WE (J0 (jdv 0) J1)))
    (Q2 (FR (i:=3) FJ.nd rfl (by walk_at "o") (Y1 G.holds_ hr.m rfl (J0 (jdv 0) J1)))
    (Q3 (V8 (AL (J4 (Q8 K (by rfl)) Y8 rfl Z.isinstance_ Q5 (J0 (jdv 3) (J0 (Z2 rfl Z.bool_ QN) J1))) (AL (AJ DH BJ (jdv 3) (jdv 1) (Q9 _)) (CQ (AJ DH BJ (J4 (NX K (by rfl) hr.gd hr.units) WB rfl Z.repr_ WE (J0 (jdv 0) J1)) (jdv 2) (Q9 _))))))))),?_⟩
   have f60:V6 60 d=true:=CW 20 60 (by decide) _ hp.fine
   walk_at "g"
   refine ⟨f60,hp.ok,hp.w,?_⟩
   walk_at "g"
   refine ⟨by show (AH d&&true)=true;rw [AD hp.ok];rfl,d,rfl,hp,?_⟩
   walk_at "g"
   refine ⟨true,by rfl,?_⟩
   walk_at "g"
   refine IfP.t (by simp) ?_
   walk_at "g"
   refine ⟨f60,hp.ok,hp.w,?_⟩
   walk_at "g"
   simpa using hP
abbrev HQ:Stmt:=top 66
abbrev WM:List Str:=["_law_bag_here"]
theorem JZ:FnScope ["_law_bag_here","_law_some"] WM (J5 HQ):=⟨rfl,rfl,rfl,by decide +kernel,rfl,by decide +kernel,by decide +kernel⟩
structure Leaf (d:D):Prop where
 sz:Szd d 8000 3
 few:∀ xs,d=.tup xs\/d=.lst xs->xs.length<=4/\∀ x∈xs,∀ ys,x≠.lst ys
def J6r:MV:=fun ds P n=>ds=[.bag]/\n<=8900/\∀ d n',Leaf d->n'<=n+1->P d n'
structure C__law_odd (P:Program)(w:World)(K:Fg)(mg:Str->Option Value)(base:Heap)(c:Cs):Prop where
 _law_take_:Callee P w K mg base CX0 "_law_take" 1 xl3 (AG K BT HZ)
theorem RI {w:World} {f:Addr} (F:Fun K "_law_odd" "_law_odd" HQ f fd) (Z:Bi mg) {c:Cs} (Y:Ex K mg base c) (G:C__law_odd P w K mg base c):FnOk P w K mg base CX0 2 f fd WM (AG K BT J6r):=by
 refine F.okC JZ (fun ds PP n h=>?_) (fun cdv A outer s H E M bg ds PP n hr hS_=>?_)
 · obtain ⟨rfl,hn,hP⟩:=h
   exact ⟨rfl,List.mem_cons_self ..⟩
 · obtain ⟨rfl,hn,hP⟩:=hS_
   refine ⟨_,(Q4 (BC (i:=1) JZ.nd rfl (by walk_at "o") (Q1 fun H0=>(Y7 (J0 AK (J0 VJ (J0 EB (J0 (LF J3) (J0 J3 (J0 (BG LZ J3t J3 J3) (J0 (J9 (J0 J3 (J0 J3 J1))) (J0 (Y7 (J0 J3 J1)) (J0 AK (J0 J3 (J0 (J9 J1) (J0 (Y7 J1) (J0 EB (J0 (J9 (J0 J3 (J0 J3 (J0 J3 (J0 J3 J1))))) (J0 J3 (J0 (J9 (J0 J3 (J0 J3 J1))) J1)))))))))))))))))))
    (V7 (DF (GP (V2 K (by rfl)) Y6 (Q1 fun H0=>(jdv 1)) (Z6 G._law_take_ hr.m rfl (J6 (cjv 0) (J6 (Q1 fun H0=>J3) V0))) (fun _ _=>rfl))))),?_⟩
   walk_at "g"
   refine ⟨16,rfl,by omega,by decide,by decide,fun r n' r0 r1 hn'=>?_⟩
   walk_at "g"
   refine ixm r0 (by exact r1) fun d md=>?_
   simp only [List.mem_cons,List.not_mem_nil,or_false] at md
   rcases md with rfl|rfl|rfl|rfl|rfl|rfl|rfl|rfl|rfl|rfl|rfl|rfl|rfl|rfl|rfl|rfl
   all_goals
    refine And.intro rfl (hP _ _ ?_ hn')
    exact ⟨⟨by decide +kernel,by decide +kernel,by decide +kernel⟩,by rintro xs (h|h)<;>cases h<;>exact ⟨by decide,by simp⟩⟩
def KJ (d:D):Prop:=Leaf d/\(∀ i,d=.int i->-100000000<=i/\i<=100000000)/\∀ xs,d=.tup xs\/d=.lst xs->xs=[]
def Th (L:Nat)(Q:D->Prop):Nat->D->Prop
 | 0,d=>Q d
 | k+1,d=>Q d\/∃ xs,(d=.tup xs\/d=.lst xs)/\xs.length<=L/\∀ x∈xs,Th L Q k x
def Spo (k:Nat)(x y:D):Prop:=∀ xs,x=.tup xs->xs≠[]->k≠0->∀ ys,y=.tup ys->ys.length=xs.length+1->ys.head?=xs.head?
def WJ (k:Nat):MV:=fun ds P n=>∃ x,ds=[.bag,x,.int k]/\Th 28 KJ k x/\n+3*(k+1)<=8900/\∀ y n',Th 30 Leaf k y->Spo k x y->wD y<=2*wD x+8000->n'<=n+3*(k+1)->P y n'
def Q0e:Nat->MV
 | 0=>fun _ _ _=>False
 | d+1=>WJ d
theorem Th.ok {L:Nat}{Q:D->Prop}(hq:∀ d,Q d->Y3 d=true):∀ {k:Nat} {d:D},Th L Q k d->Y3 d=true
 | 0,_,h=>hq _ h
 | k+1,d,h=>by
   rcases h with h|⟨xs,h,_,hx⟩
   · exact hq _ h
   · have:=ME fun x m=>Th.ok hq (hx x m)
     rcases h with rfl|rfl<;>(unfold Y3;exact this)
theorem Th.mono {L L':Nat}{Q Q':D->Prop}(hL:L<=L')(hq:∀ d,Q d->Q' d):∀ {k:Nat} {d:D},Th L Q k d->Th L' Q' k d
 | 0,_,h=>hq _ h
 | k+1,d,h=>by
   rcases h with h|⟨xs,h,hl,hx⟩
   · exact .inl (hq _ h)
   · exact .inr ⟨xs,h,Nat.le_trans hl hL,fun x m=>Th.mono hL hq (hx x m)⟩
abbrev CL:Stmt:=top 67
abbrev WL:List Str:=["_law_bag_here","_law_thing","_law_deep"]
theorem BX:FnScope ["_law_bag_here","_law_thing","_law_deep","_law_way","_law_at","_law_members"] WL (J5 CL):=⟨rfl,rfl,rfl,by decide +kernel,rfl,by decide +kernel,by decide +kernel⟩
structure C__law_spoiled (P:Program)(w:World)(K:Fg)(mg:Str->Option Value)(base:Heap)(c:Cs):Prop where
 _law_take_:Callee P w K mg base CX0 "_law_take" 1 xl3 (AG K BT HZ)
 _law_odd_:Callee P w K mg base CX0 "_law_odd" 2 WM (AG K BT J6r)
 _law_whole_:Callee P w K mg base CX0 "_law_whole" 1 xl9 (Q6 K BT IR)
theorem J4c {xs:List D}{i:Nat}{x:D}(e:xs[i]?=some x):(xs.take i++x::xs.drop i).length=xs.length+1/\(∀ y∈xs.take i++x::xs.drop i,y∈xs)/\(xs.take i++x::xs.drop i).head?=xs.head?:=by
 have hi:=(List.getElem?_eq_some_iff.mp e).1
 refine ⟨by rw [List.length_append,List.length_cons,List.length_take,List.length_drop];omega,fun y hy=>?_,?_⟩
 · rcases List.mem_append.mp hy with h|h
   · exact List.mem_of_mem_take h
   · rcases List.mem_cons.mp h with h|h
     · rw [h];exact List.mem_of_getElem? e
     · exact List.mem_of_mem_drop h
 · cases xs with
   | nil=>cases e
   | cons a xs =>
     cases i with
     | zero=>cases e;rfl
     | succ i=>rfl
theorem J8f {L:Nat}{o:D}(h:Leaf o):∀ k,Th L Leaf k o
 | 0=>h
 | _+1=>.inl h
theorem FU (d:D)(ds:List D):wDs (d::ds)=wD d+2+wDs ds:=by conv=>lhs;unfold wDs
theorem J5j:wDs []=0:=by unfold wDs;rfl
theorem KY:∀ a b:List D,wDs (a++b)=wDs a+wDs b
 | [],b=>by rw [List.nil_append,J5j];omega
 | x::a,b=>by rw [List.cons_append,FU,FU,KY a b];omega
theorem KW:∀ {xs:List D} {i:Nat} {x y:D},xs[i]?=some x->wDs (xs.set i y)+wD x=wDs xs+wD y
 | [],_,_,_,h=>by cases h
 | a::xs,0,x,y,h=>by cases h;rw [List.set_cons_zero,FU,FU];omega
 | a::xs,i+1,x,y,h=>by
   have:=KW (xs:=xs) (i:=i) (x:=x) (y:=y) h
   rw [List.set_cons_succ,FU,FU];omega
theorem UP {xs:List D}{i:Nat}{x:D}(h:xs[i]?=some x):wD x+2<=wDs xs:=by
 induction xs generalizing i with
 | nil=>cases h
 | cons a xs ih =>
   rw [FU]
   cases i with
   | zero=>cases h;omega
   | succ i=>have:=ih (i:=i) h;omega
theorem UQ:∀ (xs:List D) (i:Nat),wDs (xs.eraseIdx i)<=wDs xs
 | [],_=>Nat.le_refl _
 | a::xs,0=>by rw [List.eraseIdx_cons_zero,FU];omega
 | a::xs,i+1=>by
   have:=UQ xs i
   rw [List.eraseIdx_cons_succ,FU,FU];omega
theorem J2x {xs:List D}{i:Nat}{x:D}(h:xs[i]?=some x):wDs (xs.take i++x::xs.drop i)<=2*wDs xs:=by
 have h1:=UP h
 have h2:wDs xs=wDs (xs.take i)+wDs (xs.drop i):=by rw [<- KY,List.take_append_drop]
 rw [KY,FU]
 omega
theorem OI {xs:List D}{i:Nat}{x y:D}(h:y∈xs.set i x):y∈xs\/y=x:=List.mem_or_eq_of_mem_set h
theorem okIt2 {o z:D}(h1:L2.plain o=true)(h2:L2.plain z=true):DJ [o,z]=true:=by
 unfold DJ
 rw [List.all_cons,List.all_cons,h1,h2]
 rfl
theorem RO {i:Int}(h : -1000000000<=i/\i<=1000000000):Leaf (.int i):=⟨(Szd.int h.1 h.2).mono (by decide) (by decide),by rintro xs (h|h)<;>cases h⟩
theorem FV {w:World} {f:Addr} (F:Fun K "_law_spoiled" "_law_spoiled" CL f fd) (Z:Bi mg) {c:Cs} (Y:Ex K mg base c) (G:C__law_spoiled P w K mg base c) {d:Nat} (Gs:Callee P w K mg base CX0 "_law_spoiled" (d+2) WL (AG K BT (Q0e d))):FnOk P w K mg base CX0 (d+3) f fd WL (AG K BT (WJ d)):=by
 refine F.okC BX (fun ds PP n h=>?_) (fun cdv A outer s H E M bg ds PP n hr hS_=>?_)
 · obtain ⟨x,rfl,hx,hn,hP⟩:=h
   exact ⟨rfl,List.mem_cons_self ..⟩
 · obtain ⟨x,rfl,hx,hn,hP⟩:=hS_
   refine ⟨_,(Q4 (EI (BF fun H0=>(DV (Y4 (Q7 (by rfl) (J4 (QK K (by rfl)) UG rfl Z.isinstance_ Q5 (J0 (jdv 1) (J0 (J9 (J0 (Z2 rfl Z.tuple_ AO) (J0 (Z2 rfl Z.list_ FS) J1))) J1))) (fun _=>rfl))) (JK (Y5 DH BJ (J4 (J8 K (by rfl)) AC rfl Z.len_ Z5 (J0 (jdv 1) J1)) J3 (Q9 _)) (CB (Y5 DH BJ (jdv 2) J3 (Q9 _)))))) (V7 (DF (GP (V2 K (by rfl)) Y6 (J5g (J6 (Z6 G._law_odd_ (hr.mono (by omega)) rfl (J6 (cjv 0) V0)) (J6 (Q1 fun H0=>(TY (Q7 (by rfl) (Y1 G._law_whole_ (hr.mono (by omega)) rfl (J0 (jdv 1) J1)) (fun _=>rfl)) (BG BB EH (jdv 1) J3) VJ)) V0))) (Z6 G._law_take_ (hr.mono (by omega)) rfl (J6 (cjv 0) (J6 (Q1 fun H0=>J3) V0))) (fun _ _=>rfl)))) FE)
    (Q4 (BC (i:=3) BX.nd rfl (by walk_at "o") (Z6 G._law_take_ (hr.mono (by omega)) rfl (J6 (cjv 0) (J6 (Q1 fun H0=>J3) V0))))
    (Q4 (BC (i:=4) BX.nd rfl (by walk_at "o") (Z6 G._law_take_ (hr.mono (by omega)) rfl (J6 (cjv 0) (J6 (Q1 fun H0=>(J4 (J8 K (by rfl)) AC rfl Z.len_ Z5 (J0 (jdv 1) J1))) V0))))
    (Q4 (KH 0 (GQ K) fun H0 M0=>(J0e (i:=5) BX.nd rfl (by walk_at "o") (J0 (jdv 1) J1) (EV (NI K (by rfl)) rfl Z.list_ FS (JA.h (J0 (jdv 1) J1)))))
    (Q4 (EI (BF fun H0=>(Y5 DH BJ (jdv 3) J3 (Q9 _))) (V7 (KH 0 (GQ K) fun H0 M0=>(J0d (i:=5) (by rfl) (J0 (jdv 4) J1) (GC PySem.F.plainAttrs_list PySem.F.slot_list_pop PySem.F.type_list_pop RM (pv 5) (JA.h (J0 (jdv 4) J1)))))) (V7 (EI (BF fun H0=>(Y5 DH BJ (jdv 3) J3 (Q9 _))) (V7 (KH 0 (GQ K) fun H0 M0=>(TV (i:=5) (by rfl) (J0 (jdv 4) (J0 (Y0 (V2 K (by rfl)) Y6 (jdv 5) (jdv 4) (fun _ _=>rfl)) J1)) (GC PySem.F.plainAttrs_list PySem.F.slot_list_insert PySem.F.type_list_insert XB (pv 5) (JA.h (J0 (jdv 4) (J0 (Y0 (V2 K (by rfl)) Y6 (jdv 5) (jdv 4) (fun _ _=>rfl)) J1))))))) (V7 (EI (BF fun H0=>(Y5 DH BJ (jdv 3) J3 (Q9 _))) (V7 (HX (i:=5) (by rfl) rfl (by walk_at "v") (J6 (Z6 G._law_odd_ (hr.mono (by omega)) rfl (J6 (cjv 0) V0)) V0) (GC PySem.F.plainAttrs_list PySem.F.slot_list_append PySem.F.type_list_append GY (pv 5) (CJA.h (J6 (Z6 G._law_odd_ (hr.mono (by omega)) rfl (J6 (cjv 0) V0)) V0))))) (V7 (EI (BF fun H0=>(Y5 DH BJ (jdv 3) J3 (Q9 _))) (FF 5 (V7 (DF (Q1 fun H0=>(TY (Q7 (by rfl) (J4 (Q8 K (by rfl)) MQ rfl Z.isinstance_ Q5 (J0 (jdv 1) (J0 (Z2 rfl Z.tuple_ AO) J1))) (fun _=>rfl)) (jdv 5) (MJ (CT K (by rfl)) IP rfl Z.tuple_ AO (J0 (jdv 5) J1))))))) (V7 (EI (BF fun H0=>(Y5 DH BJ (jdv 3) J3 (Q9 _))) (V7 (KH 0 (GQ K) fun H0 M0=>(J0a (i:=5) (by rfl) (J9 (J0 (Y0 (V2 K (by rfl)) Y6 (jdv 5) J3 (fun _ _=>rfl)) (J0 (Y0 (V2 K (by rfl)) Y6 (jdv 5) (jdv 4) (fun _ _=>rfl)) J1))) (BO (n:=2) K (by rfl) (by rfl) (J7 (LW (pv 5) (JE.h (jdv 4)) FX) (J7 (LW (pv 5) (JE.h J3) FX) Z3)))))) (V7 (J1q (i:=5) rfl (by walk_at "v") (Z6 Gs (hr.mono (by omega)) rfl (J6 (cjv 0) (J6 (Q1 fun H0=>(Y0 (V2 K (by rfl)) Y6 (jdv 1) (jdv 4) (fun _ _=>rfl))) (J6 (Q1 fun H0=>(BG OU EH (jdv 2) J3)) V0)))) (Q1 fun H0=>(jdv 4)) (LW (pv 5) (CJE.h (Q1 fun H0=>(jdv 4))) FX))))))))))))
    (FF 5 (V7 (DF (Q1 fun H0=>(TY (Q7 (by rfl) (J4 (Q8 K (by rfl)) MQ rfl Z.isinstance_ Q5 (J0 (jdv 1) (J0 (Z2 rfl Z.tuple_ AO) J1))) (fun _=>rfl)) (MJ (CT K (by rfl)) IP rfl Z.tuple_ AO (J0 (jdv 5) J1)) (jdv 5))))))))))),?_⟩
   have ox:Y3 x=true:=hx.ok fun d h=>h.1.sz.ok
   by_cases ht:∃ xs,x=.tup xs\/x=.lst xs
   case neg =>
    have lf:KJ x:=by
     cases d with
     | zero=>exact hx
     | succ k =>
       rcases hx with h|⟨xs,h,_⟩
       · exact h
       · exact absurd ⟨xs,h⟩ ht
    have fin:∀ y n',Leaf y->n'<=n+3*(d+1)->PP y n':=fun y n' h hn'=>hP y n' (by cases d<;>first|exact h|exact .inl h) (fun xs e=>absurd ⟨xs,.inl e⟩ ht) (Nat.le_trans h.sz.w (by omega)) hn'
    clear hP hx
    cases x<;>(try (exact absurd ⟨_,.inl rfl⟩ ht))<;>(try (exact absurd ⟨_,.inr rfl⟩ ht))<;>(try (simp [Y3] at ox;done))
    case int i =>
     walk_at "g"
     refine ⟨false,by rfl,?_⟩
     walk_at "g"
     refine And.intro (by omega) fun o n1 lo h1=>?_
     walk_at "g"
     refine ⟨_,rfl,ox,?_⟩
     walk_at "g"
     have l2_:Leaf (.int (i+1)):=RO (by have:=lf.2.1 i rfl;omega)
     have po:=okRp_pl lo.sz.ok
     refine And.intro (okIt2 po (okRp_pl l2_.sz.ok)) ?_
     walk_at "g"
     refine ⟨2,rfl,by omega,by decide,by decide,fun r n2 r0 r1 h2=>?_⟩
     walk_at "g"
     refine ixm r0 (by exact r1) fun z mz=>?_
     have lz:Leaf z:=by
      simp only [List.mem_cons,List.not_mem_nil,or_false] at mz
      rcases mz with rfl|rfl<;>assumption
     have pz:=okRp_pl lz.sz.ok
     refine And.intro pz ?_
     have hz:=fin z n2 lz (by omega)
     cases z<;>first|exact hz|cases pz
    all_goals
     walk_at "g"
     refine ⟨false,by rfl,?_⟩
     walk_at "g"
     refine And.intro (by omega) fun o n1 lo h1=>?_
     walk_at "g"
     refine ⟨_,rfl,ox,?_⟩
     walk_at "g"
     have l2_:Leaf .non:=⟨⟨rfl,by decide,rfl⟩,by rintro xs (h|h)<;>cases h⟩
     have po:=okRp_pl lo.sz.ok
     refine And.intro (okIt2 po (okRp_pl l2_.sz.ok)) ?_
     walk_at "g"
     refine ⟨2,rfl,by omega,by decide,by decide,fun r n2 r0 r1 h2=>?_⟩
     walk_at "g"
     refine ixm r0 (by exact r1) fun z mz=>?_
     have lz:Leaf z:=by
      simp only [List.mem_cons,List.not_mem_nil,or_false] at mz
      rcases mz with rfl|rfl<;>assumption
     have pz:=okRp_pl lz.sz.ok
     refine And.intro pz ?_
     have hz:=fin z n2 lz (by omega)
     cases z<;>first|exact hz|cases pz
   obtain ⟨xs,ht⟩:=ht
   by_cases h0:xs=[]\/d=0
   · have fin:∀ y n',Leaf y->n'<=n+3*(d+1)->PP y n':=fun y n' h hn'=>hP y n' (by cases d<;>first|exact h|exact .inl h) (fun xs' e ne nd=>by
      rcases h0 with z|z
      · rcases ht with w|w
        · rw [w] at e;cases e;exact absurd z ne
        · rw [w] at e;cases e
      · exact absurd z nd) (Nat.le_trans h.sz.w (by omega)) hn'
     clear hP hx
     rcases ht with rfl|rfl
     all_goals
      walk_at "g"
      refine ⟨true,by rfl,?_⟩
      walk_at "g"
      by_cases z0:xs.length=0
      case' pos=>refine IfP.t (by simp [z0]) ?_
      case' neg =>
       have hd0:d=0:=h0.resolve_left fun z=>z0 (by rw [z];rfl)
       refine IfP.f (by simpa using z0) ?_
       walk_at "g"
       refine IfP.t (by simp [hd0]) ?_
     all_goals
      walk_at "g"
      refine And.intro (by omega) fun o n1 lo h1=>?_
      walk_at "g"
      refine ⟨_,rfl,ox,?_⟩
      walk_at "g"
      have l2_:Leaf .non:=⟨⟨rfl,by decide,rfl⟩,by rintro xs (h|h)<;>cases h⟩
      have po:=okRp_pl lo.sz.ok
      refine And.intro (okIt2 po (okRp_pl l2_.sz.ok)) ?_
      walk_at "g"
      refine ⟨2,rfl,by omega,by decide,by decide,fun r n2 r0 r1 h2=>?_⟩
      walk_at "g"
      refine ixm r0 (by exact r1) fun z mz=>?_
      have lz:Leaf z:=by
       simp only [List.mem_cons,List.not_mem_nil,or_false] at mz
       rcases mz with rfl|rfl<;>assumption
      have pz:=okRp_pl lz.sz.ok
      refine And.intro pz ?_
      have hz:=fin z n2 lz (by omega)
      cases z<;>first|exact hz|cases pz
   obtain ⟨k,rfl⟩:∃ k,d=k+1:=⟨d - 1,by have:=fun z=>h0 (.inr z);omega⟩
   have ne:xs≠[]:=fun z=>h0 (.inl z)
   obtain ⟨hl,hxs⟩:xs.length<=28/\∀ y∈xs,Th 28 KJ k y:=by
    rcases hx with h|⟨ys,h,h1,h2⟩
    · exact absurd (h.2.2 xs ht) ne
    · rcases ht with w|w<;>rcases h with v|v<;>rw [w] at v<;>cases v<;>exact ⟨h1,h2⟩
   have lp:0<xs.length:=List.length_pos_iff.mpr ne
   have up:∀ y,Th 28 KJ k y->Th 30 Leaf k y:=fun y h=>h.mono (by decide) fun d h=>h.1
   have ok30:∀ {y},Th 30 Leaf k y->Y3 y=true:=fun h=>h.ok fun d h=>h.sz.ok
   have fin:∀ (ys:List D) n',ys.length<=30->(∀ y∈ys,Th 30 Leaf k y)->(ys.length=xs.length+1->ys.head?=xs.head?)->wDs ys<=2*wDs xs+8002->n'<=n+3*(k+2)->PP (.tup ys) n'/\PP (.lst ys) n':=fun ys n' h1 h2 h3 hw h4=>by
    have wx:wD x=wDs xs+3:=by rcases ht with w|w<;>(rw [w];unfold wD;rfl)
    constructor
    · refine hP _ n' (.inr ⟨ys,.inl rfl,h1,h2⟩) (fun xs' e _ _ ys' e2 el=>?_) (by rw [wx];unfold wD;omega) h4
      cases e2
      rcases ht with w|w
      · rw [w] at e
        cases e
        exact h3 el
      · rw [w] at e
        cases e
    · exact hP _ n' (.inr ⟨ys,.inr rfl,h1,h2⟩) (fun xs' e _ _ ys' e2 el=>by cases e2) (by rw [wx];unfold wD;omega) h4
   clear hP hx
   rcases ht with rfl|rfl
   all_goals
    walk_at "g"
    refine ⟨true,by rfl,?_⟩
    walk_at "g"
    refine IfP.f (by simpa using ne) ?_
    walk_at "g"
    refine ⟨10,rfl,by omega,by decide,by decide,fun way n1 y0 y1 h1=>?_⟩
    walk_at "g"
    refine ⟨(xs.length:Int),rfl,by omega,by omega,by omega,fun a n2 a0 a1 h2=>?_⟩
    obtain ⟨at_,rfl⟩:∃ at_:Nat,a=at_:=⟨a.toNat,by omega⟩
    walk_at "g"
    have hat:at_<xs.length:=by omega
    have ea:atI xs (at_:Int)=some xs[at_]:=CC (List.getElem?_eq_getElem hat)
    have hxa:=hxs _ (List.getElem_mem hat)
    have gat:xs[at_]?=some xs[at_]:=List.getElem?_eq_getElem hat
    generalize exa:xs[at_]=xa at *
    have pxa:=okRp_pl (ok30 (up _ hxa))
    intro B
    walk_at "g"
    by_cases w0:way=0
    · refine IfP.t (by simp [w0]) ?_
      walk_at "g"
      intro B
      walk_at "g"
      refine And.intro ⟨by omega,by omega,by omega⟩ ?_
      have f1:=fin (xs.eraseIdx at_) n2 (by rw [List.length_eraseIdx];split<;>omega) (fun y hy=>up y (hxs y (List.mem_of_mem_eraseIdx hy))) (fun e=>by rw [List.length_eraseIdx] at e;split at e<;>omega) (by have:=UQ xs at_;omega) (by omega)
      walk_at "g"
      first|refine ⟨true,by rfl,?_⟩|refine ⟨false,by rfl,?_⟩
      walk_at "g"
      first|exact f1.1|exact f1.2
    refine IfP.f (by simpa using w0) ?_
    walk_at "g"
    by_cases w1:way=1
    · have gi:=J4c (xs:=xs) (i:=at_) (x:=xa) (by rw [List.getElem?_eq_getElem hat,exa])
      refine IfP.t (by simp [w1]) ?_
      walk_at "g"
      intro B
      walk_at "g"
      rw [ea]
      walk_at "g"
      refine And.intro ⟨pxa,by omega,by omega,by omega⟩ ?_
      have f1:=fin (xs.take at_++xa::xs.drop at_) n2 (by omega) (fun y hy=>up y (hxs y (gi.2.1 y hy))) (fun _=>gi.2.2) (by have:=J2x gat;omega) (by omega)
      walk_at "g"
      first|refine ⟨true,by rfl,?_⟩|refine ⟨false,by rfl,?_⟩
      walk_at "g"
      first|exact f1.1|exact f1.2
    refine IfP.f (by simpa using w1) ?_
    walk_at "g"
    by_cases w2:way=2
    · refine IfP.t (by simp [w2]) ?_
      walk_at "g"
      refine And.intro (by omega) fun o n3 lo h3=>?_
      have po:=okRp_pl lo.sz.ok
      walk_at "g"
      refine And.intro (by rw [po];simp;omega) ?_
      have f1:=fin (xs++[o]) n3 (by rw [List.length_append];show xs.length+1<=30;omega) (fun y hy=>(List.mem_append.mp hy).elim (fun m=>up y (hxs y m)) fun m=>by rw [List.mem_singleton.mp m];exact J8f lo k) (fun _=>by cases xs with|nil=>exact absurd rfl ne|cons a xs=>rfl) (by have:=lo.sz.w;rw [KY,FU,J5j];omega) (by omega)
      walk_at "g"
      first|refine ⟨true,by rfl,?_⟩|refine ⟨false,by rfl,?_⟩
      walk_at "g"
      first|exact f1.1|exact f1.2
    refine IfP.f (by simpa using w2) ?_
    walk_at "g"
    by_cases w3:way=3
    · refine IfP.t (by simp [w3]) ?_
      have f1:=fin xs n2 (by omega) (fun y hy=>up y (hxs y hy)) (fun e=>by omega) (by omega) (by omega)
      walk_at "g"
      first|refine ⟨true,by rfl,?_⟩|refine ⟨false,by rfl,?_⟩
      walk_at "g"
      first|exact f1.1|exact f1.2
    refine IfP.f (by simpa using w3) ?_
    walk_at "g"
    by_cases w4:way=4
    · refine IfP.t (by simp [w4]) ?_
      walk_at "g"
      intro B
      walk_at "g"
      have e0:atI xs 0=some xs[0]:=CC (j:=0) (List.getElem?_eq_getElem lp)
      have hx0:=hxs _ (List.getElem_mem lp)
      have g0:xs[0]?=some xs[0]:=List.getElem?_eq_getElem lp
      rw [e0]
      generalize xs[0]=x0 at *
      have px0:=okRp_pl (ok30 (up _ hx0))
      walk_at "g"
      rw [ea]
      walk_at "g"
      refine And.intro (okIt2 px0 pxa) ?_
      walk_at "g"
      refine ⟨_,_,rfl,?_⟩
      walk_at "g"
      refine ⟨_,rfl,?_⟩
      rw [PQ hat]
      walk_at "g"
      refine ⟨_,rfl,?_⟩
      rw [show ixN xs.length 0=some 0 from PQ (j:=0) lp]
      have f1:=fin ((xs.set at_ x0).set 0 xa) n2 (by rw [List.length_set,List.length_set];omega) (fun y hy=>by
       rcases OI hy with h|h
       · rcases OI h with h|h
         · exact up y (hxs y h)
         · rw [h];exact up _ hx0
       · rw [h];exact up _ hxa) (fun e=>by rw [List.length_set,List.length_set] at e;omega) (by have k1:=KW (y:=x0) gat;have k2:=KW (xs:=xs.set at_ x0) (i:=0) (x:=x0) (y:=xa) (by rw [List.getElem?_set];split<;>simp_all);omega) (by omega)
      walk_at "g"
      first|refine ⟨true,by rfl,?_⟩|refine ⟨false,by rfl,?_⟩
      walk_at "g"
      first|exact f1.1|exact f1.2
    refine IfP.f (by simpa using w4) ?_
    walk_at "g"
    rw [ea]
    refine And.intro pxa ?_
    walk_at "g"
    refine ⟨by show (true&&(AH xa&&true))=true;rw [AD (ok30 (up _ hxa))];rfl,xa,by rw [show ((k+1:Nat):Int) - 1=(k:Int) by omega],hxa,by omega,fun y n3 ty _ wy h3=>?_⟩
    have py:=okRp_pl (ok30 ty)
    walk_at "g"
    refine And.intro py ?_
    rw [PQ hat]
    have f1:=fin (xs.set at_ y) n3 (by rw [List.length_set];omega) (fun z hz=>(OI hz).elim (fun m=>up z (hxs z m)) fun m=>by rw [m];exact ty) (fun e=>by rw [List.length_set] at e;omega) (by have k1:=KW (y:=y) gat;have k2:=UP gat;omega) (by omega)
    walk_at "g"
    first|refine ⟨true,by rfl,?_⟩|refine ⟨false,by rfl,?_⟩
    walk_at "g"
    first|exact f1.1|exact f1.2
theorem EW {w:World} {f:Addr} (F:Fun K "_law_spoiled" "_law_spoiled" CL f fd) (Z:Bi mg) {c:Cs} (Y:Ex K mg base c) (G:C__law_spoiled P w K mg base c) (hm:mg "_law_spoiled" = some (.ref f)) (hb:Binds K fd WL []):∀ d:Nat,FnOk P w K mg base CX0 (d+3) f fd WL (AG K BT (WJ d))
 | 0=>FV F Z Y G (d:=0) ⟨f,fd,⟨fun vs H Q E h=>(by obtain ⟨_,_,_,_,h,_⟩:=h;exact h.elim),fun A outer s H args us vs Q E hr he hbi hv h=>(by obtain ⟨_,_,_,_,h,_⟩:=h;exact h.elim)⟩,hm,F.kp,hb⟩
 | d+1=>FV F Z Y G (d:=d+1) ⟨f,fd,EW F Z Y G hm hb d,hm,F.kp,hb⟩
theorem J9s {xs:List D}{k:Nat}(h:k<=xs.length):L2.HV xs none (some (k:Int))=xs.take k:=by
 unfold L2.HV
 have e1:HT.sIx xs.length 0 none=0:=rfl
 have e2:HT.sIx xs.length xs.length (some (k:Int))=k:=by rw [HT.sIx_nat,Nat.min_eq_left h]
 rw [e1,e2,List.drop_zero,Nat.sub_zero]
theorem J1j {xs:List D}{k:Nat}(h:k<=xs.length):L2.HV xs (some (k:Int)) none=xs.drop k:=by
 unfold L2.HV
 have e1:HT.sIx xs.length 0 (some (k:Int))=k:=by rw [HT.sIx_nat,Nat.min_eq_left h]
 have e2:HT.sIx xs.length xs.length none=xs.length:=rfl
 rw [e1,e2]
 exact List.take_of_length_le (by simp)
theorem VO:∀ fl:List F3i,AM 2 (fl.map F3i.d)=true
 | []=>rfl
 | f::fl=>by rw [List.map_cons];unfold AM;rw [VO fl];rfl
theorem XS {fl:List F3i}{neg:Bool}{P:D->Prop}(h:P (.bl (decide (fl=[])!=neg))):EqG neg (.lst (fl.map F3i.d)) (.lst []) P:=by
 have e:decide (fl=[])=(fl.map F3i.d).isEmpty:=by cases fl<;>rfl
 rw [e] at h
 exact RX 2 (VO fl) h
structure Bdy (cs:List R3)(fl:List F3i):Prop where
 lc:cs.length<=28
 lf:fl.length<=18
 c:∀ r∈cs,(-1000<=r.x/\r.x<=1000)/\(-1000<=r.y/\r.y<=1000)/\(-1000<=r.z/\r.z<=1000)
 f:∀ f∈fl,∀ q,f.has q->q<100
def clo:List (List F3i):=[[⟨0,2,1⟩,⟨0,1,3⟩,⟨1,2,3⟩,⟨0,3,2⟩],[⟨0,1,2⟩,⟨0,2,1⟩],[⟨0,2,1⟩,⟨0,3,2⟩,⟨0,1,4⟩,⟨1,2,4⟩,⟨2,3,4⟩,⟨3,0,4⟩]]
theorem J9t:∀ l∈clo,l.length<=6/\∀ f∈l,f.i<=4/\f.j<=4/\f.k<=4:=by decide
def shf (b:Int):D->D
 | .tup [.int i,.int j,.int k]=>t3 (i+b) (j+b) (k+b)
 | d=>d
theorem J3d (b:Nat)(l:List F3i):(l.map F3i.d).map (shf b)=(l.map fun f=>(⟨f.i+b,f.j+b,f.k+b⟩:F3i)).map F3i.d:=by
 rw [List.map_map,List.map_map]
 exact List.map_congr_left fun f _=>by
  show t3 _ _ _=t3 _ _ _
  simp
abbrev EN:Stmt:=top 75
abbrev Q0l:List Str:=["_law_bag_here","_law_closed","_law_faces","_law_begin","_law_place","_law_some","_law_at","_law_i","_law_j","_law_k","_law_corners"]
theorem V4:FnScope Q0l WM (J5 EN):=⟨rfl,rfl,rfl,by decide +kernel,rfl,by decide +kernel,by decide +kernel⟩
def J6w:MV:=fun ds P n=>ds=[.bag]/\n<=8000/\∀ cs fl n',Bdy cs fl->n'<=n+60->P (.tup [.lst (cs.map R3.d),.lst (fl.map F3i.d)]) n'
structure C__law_body (P:Program)(w:World)(K:Fg)(mg:Str->Option Value)(base:Heap)(c:Cs):Prop where
 _law_take_:Callee P w K mg base CX0 "_law_take" 1 xl3 (AG K BT HZ)
abbrev IA (P:Program) (w:World) (K:Fg) (mg:Str → Option Value) (base:Heap) (f:Addr) (cdv:Value) (A:Around) (outer:List Env) (s:Shared) (H:Hp) (E:XK):Cx:=CI CX0 P w K mg base Q0l "_law_body" (J5 EN) f cdv A outer s H E
abbrev HH:List Str:=["_law_i","_law_j","_law_k","_law_begin"]
abbrev QQ:List Str:=["_law_k","_law_bag_here"]
theorem PC {w:World} {f:Addr} (F:Fun K "_law_body" "_law_body" EN f fd) (Z:Bi mg) {c:Cs} (Y:Ex K mg base c) (G:C__law_body P w K mg base c):FnOk P w K mg base CX0 2 f fd WM (AG K BT J6w):=by
 refine F.okC V4 (fun ds PP n h=>?_) (fun cdv A outer s H E M bg ds PP n hr hS_=>?_)
 · obtain ⟨rfl,hn,hP⟩:=h
   exact ⟨rfl,List.mem_cons_self ..⟩
 · obtain ⟨rfl,hn,hP⟩:=hS_
   refine ⟨_,(Q4 (IN (i:=1) V4.nd rfl (by walk_at "o") (SK fun H0=>(J0 (Y7 (J0 (J9 (J0 J3 (J0 J3 (J0 J3 J1)))) (J0 (J9 (J0 J3 (J0 J3 (J0 J3 J1)))) (J0 (J9 (J0 J3 (J0 J3 (J0 J3 J1)))) (J0 (J9 (J0 J3 (J0 J3 (J0 J3 J1)))) J1))))) (J0 (Y7 (J0 (J9 (J0 J3 (J0 J3 (J0 J3 J1)))) (J0 (J9 (J0 J3 (J0 J3 (J0 J3 J1)))) J1))) J1))))
    (Q4 (KH 0 (GQ K) fun H0 M0=>(J0g (i:=1) (by rfl) (J0 (Y7 (J0 (J9 (J0 J3 (J0 J3 (J0 J3 J1)))) (J0 (J9 (J0 J3 (J0 J3 (J0 J3 J1)))) (J0 (J9 (J0 J3 (J0 J3 (J0 J3 J1)))) (J0 (J9 (J0 J3 (J0 J3 (J0 J3 J1)))) (J0 (J9 (J0 J3 (J0 J3 (J0 J3 J1)))) (J0 (J9 (J0 J3 (J0 J3 (J0 J3 J1)))) J1))))))) J1)))
    (Q4 (IN (i:=2) V4.nd rfl (by walk_at "o") V0)
    (Q4 (BC (i:=3) V4.nd rfl (by walk_at "o") (Q1 fun H0=>J3))
    (FF 1 (Q4 (HF (V5 4) PassesOwn.never rfl (UC rfl Z.range_ (J6 (Z6 G._law_take_ hr.m rfl (J6 (cjv 0) (J6 (Q1 fun H0=>J3) V0))) V0)) (pg_name (i:=4) V4.nd rfl (by walk_at "o")) (Q4 (BC (i:=5) V4.nd rfl (by walk_at "o") (GP (V2 K (by rfl)) Y6 (cjv 1) (Z6 G._law_take_ hr.m rfl (J6 (cjv 0) (J6 (Q1 fun H0=>J3) V0))) (fun _ _=>rfl)))
    (Q4 (KH 0 (GQ K) fun H0 M0=>(HS (i:=2) (by rfl) (J0 (AB (X:=(IA P w K mg base f cdv A outer s H E).nox) (DX [0,1,2]) (FH (X:=(IA P w K mg base f cdv A outer s H E).nox) (N':=HH) (map:=[none,none,none,some 3]) (by rfl) (by rfl) (by decide +kernel) (by rfl) ⟨⟨rfl,rfl,rfl,by walk_at "o"⟩,True.intro⟩ (JN (js:=[0,1,2]) (by decide)) fun cl0 C0 fp0 s0 H0=>⟨(PG.or (BO (n:=3) K (by rfl) (by rfl) (J7 (pg_name (i:=0) (V9 HH (by decide +kernel)) rfl (by walk_at "o")) (J7 (pg_name (i:=1) (V9 HH (by decide +kernel)) rfl (by walk_at "o")) (J7 (pg_name (i:=2) (V9 HH (by decide +kernel)) rfl (by walk_at "o")) Z3)))) (BZ (n:=3) K (by rfl) (by rfl) (J7 (pg_name (i:=0) (V9 HH (by decide +kernel)) rfl (by walk_at "o")) (J7 (pg_name (i:=1) (V9 HH (by decide +kernel)) rfl (by walk_at "o")) (J7 (pg_name (i:=2) (V9 HH (by decide +kernel)) rfl (by walk_at "o")) Z3))))),Z1,(J9 (X:=(Q0 (IA P w K mg base f cdv A outer s H E).nox HH _ cl0 C0 fp0 s0 H0)) (J0 (BG BB EH (jdv 0) (jdv 3)) (J0 (BG BB EH (jdv 1) (jdv 3)) (J0 (BG BB EH (jdv 2) (jdv 3)) J1))))⟩) (Z4 (by rfl) (jdv 5))) J1) (GC PySem.F.plainAttrs_list PySem.F.slot_list_extend PySem.F.type_list_extend JG (pv 2) (JA.h (J0 (AB (X:=(IA P w K mg base f cdv A outer s H E).nox) (DX [0,1,2]) (FH (X:=(IA P w K mg base f cdv A outer s H E).nox) (N':=HH) (map:=[none,none,none,some 3]) (by rfl) (by rfl) (by decide +kernel) (by rfl) ⟨⟨rfl,rfl,rfl,by walk_at "o"⟩,True.intro⟩ (JN (js:=[0,1,2]) (by decide)) fun cl0 C0 fp0 s0 H0=>⟨(PG.or (BO (n:=3) K (by rfl) (by rfl) (J7 (pg_name (i:=0) (V9 HH (by decide +kernel)) rfl (by walk_at "o")) (J7 (pg_name (i:=1) (V9 HH (by decide +kernel)) rfl (by walk_at "o")) (J7 (pg_name (i:=2) (V9 HH (by decide +kernel)) rfl (by walk_at "o")) Z3)))) (BZ (n:=3) K (by rfl) (by rfl) (J7 (pg_name (i:=0) (V9 HH (by decide +kernel)) rfl (by walk_at "o")) (J7 (pg_name (i:=1) (V9 HH (by decide +kernel)) rfl (by walk_at "o")) (J7 (pg_name (i:=2) (V9 HH (by decide +kernel)) rfl (by walk_at "o")) Z3))))),Z1,(J9 (X:=(Q0 (IA P w K mg base f cdv A outer s H E).nox HH _ cl0 C0 fp0 s0 H0)) (J0 (BG BB EH (jdv 0) (jdv 3)) (J0 (BG BB EH (jdv 1) (jdv 3)) (J0 (BG BB EH (jdv 2) (jdv 3)) J1))))⟩) (Z4 (by rfl) (jdv 5))) J1)))))
    (V7 (BC (i:=3) V4.nd rfl (by walk_at "o") (MO BB EH (Q1 fun H0=>(jdv 3)) (GP (V2 K (by rfl)) Y6 (Q1 fun H0=>(Y7 (J0 J3 (J0 J3 J1)))) (Z6 G._law_take_ hr.m rfl (J6 (cjv 0) (J6 (Q1 fun H0=>J3) V0))) (fun _ _=>rfl))))))))
    (FF 2 (Q4 (EI (J5d (BF fun H0=>(Y5 (OV K (by rfl) hr.units) DR (jdv 2) (Y7 J1) (Q9 _))) (J1o (J5c DH BJ (Z6 G._law_take_ hr.m rfl (J6 (cjv 0) (J6 (Q1 fun H0=>J3) V0))) (Q1 fun H0=>J3) (Q9 _)))) (Q4 (BC (i:=6) V4.nd rfl (by walk_at "o") (Z6 G._law_take_ hr.m rfl (J6 (cjv 0) (J6 (Q1 fun H0=>(J4 (J8 K (by rfl)) AC rfl Z.len_ Z5 (J0 (jdv 2) J1))) V0))))
    (Q4 (WA (DX [7,8,9]) (Q1 fun H0=>(Y0 (V2 K (by rfl)) Y6 (jdv 2) (jdv 6) (fun _ _=>rfl))) (PG.or (BO (n:=3) K (by rfl) (by rfl) (J7 (pg_name (i:=7) V4.nd rfl (by walk_at "o")) (J7 (pg_name (i:=8) V4.nd rfl (by walk_at "o")) (J7 (pg_name (i:=9) V4.nd rfl (by walk_at "o")) Z3)))) (BZ (n:=3) K (by rfl) (by rfl) (J7 (pg_name (i:=7) V4.nd rfl (by walk_at "o")) (J7 (pg_name (i:=8) V4.nd rfl (by walk_at "o")) (J7 (pg_name (i:=9) V4.nd rfl (by walk_at "o")) Z3))))))
    (V7 (BC (i:=2) V4.nd rfl (by walk_at "o") (MO OW PF (MO OW PF (Q1 fun H0=>(FA (LO K (by rfl)) (jdv 2) GK (GJ (jdv 6)))) (GP (V2 K (by rfl)) Y6 (Q1 fun H0=>(Y7 (J0 (Y7 (J0 (J9 (J0 (jdv 7) (J0 (jdv 9) (J0 (jdv 8) J1)))) J1)) (J0 (Y7 J1) J1)))) (Z6 G._law_take_ hr.m rfl (J6 (cjv 0) (J6 (Q1 fun H0=>J3) V0))) (fun _ _=>rfl))) (Q1 fun H0=>(FA (LO K (by rfl)) (jdv 2) (GJ (BG BB EH (jdv 6) J3)) GK))))))) FE)
    (Q4 (IN (i:=10) V4.nd rfl (by walk_at "o") V0)
    (Q4 (HF (V5 4) PassesOwn.never rfl (EJ fun H0=>(AU rfl Z.range_ (J0 (BG BB EH (jdv 3) J3) J1))) (pg_name (i:=4) V4.nd rfl (by walk_at "o")) (V7 (HX (i:=10) (by rfl) rfl (by walk_at "v") (J6 (MP (CT K (by rfl)) IP rfl Z.tuple_ AO (J6 (SJ (X:=(IA P w K mg base f cdv A outer s H E).nox) (V5 0) (J6m (X:=(IA P w K mg base f cdv A outer s H E).nox) (N':=QQ) (map:=[none,some 0]) (by rfl) (by rfl) (by decide +kernel) (by rfl) ⟨⟨rfl,rfl,rfl,by walk_at "o"⟩,True.intro⟩ (gkeep_name rfl) fun cl0 C0 fp0 s0 H0=>⟨(pg_name (X:=(Q0 (IA P w K mg base f cdv A outer s H E).nox QQ _ cl0 C0 fp0 s0 H0)) (i:=0) (V9 QQ (by decide +kernel)) rfl (by walk_at "o")),SI,(MO (X:=(Q0 (IA P w K mg base f cdv A outer s H E).nox QQ _ cl0 C0 fp0 s0 H0)) OU EH (Z6 G._law_take_ hr.m rfl (J6 (cjv 1) (J6 (Q1 fun H0=>J3) V0))) (Q1 fun H0=>J3))⟩) (EJ fun H0=>(AU rfl Z.range_ (J0 J3 J1)))) V0)) V0) (GC PySem.F.plainAttrs_list PySem.F.slot_list_append PySem.F.type_list_append GY (pv 10) (CJA.h (J6 (MP (CT K (by rfl)) IP rfl Z.tuple_ AO (J6 (SJ (X:=(IA P w K mg base f cdv A outer s H E).nox) (V5 0) (J6m (X:=(IA P w K mg base f cdv A outer s H E).nox) (N':=QQ) (map:=[none,some 0]) (by rfl) (by rfl) (by decide +kernel) (by rfl) ⟨⟨rfl,rfl,rfl,by walk_at "o"⟩,True.intro⟩ (gkeep_name rfl) fun cl0 C0 fp0 s0 H0=>⟨(pg_name (X:=(Q0 (IA P w K mg base f cdv A outer s H E).nox QQ _ cl0 C0 fp0 s0 H0)) (i:=0) (V9 QQ (by decide +kernel)) rfl (by walk_at "o")),SI,(MO (X:=(Q0 (IA P w K mg base f cdv A outer s H E).nox QQ _ cl0 C0 fp0 s0 H0)) OU EH (Z6 G._law_take_ hr.m rfl (J6 (cjv 1) (J6 (Q1 fun H0=>J3) V0))) (Q1 fun H0=>J3))⟩) (EJ fun H0=>(AU rfl Z.range_ (J0 J3 J1)))) V0)) V0))))))
    (FF 10 (V7 (DF (Q1 fun H0=>(J9 (J0 (jdv 10) (J0 (jdv 2) J1))))))))))))))))),?_⟩
   have tail:∀ (fl:List F3i) (b:Nat) (v4 v5 v6 v7 v8 v9:Option D) (n2:Nat),fl.length<=18->b<=9->(∀ f∈fl,∀ q,f.has q->q<100)->n2<=n+12 ->
    J9w (J1w 10 SQ) (J9w (J1y (gdN 4) (cPI (LG (OE (dOp (oI0 HAdd.hAdd) (XY 3) (dC (D.int 5))) J2g))) (WD 10 (MU (cCB ZU (MU (J1z [none,some 0] (gdN 0) (cPI (LG (OE (dC (D.int 3)) J2g))) J1u (cOp (oI0 HSub.hSub) (J6n HZ (MU (J9v 1) (MU (cP (dC (D.int 2000))) SQ))) (cP (dC (D.int 1000))))) SQ)) SQ))) (J1x 10 (J6o (cP (J9m (OE (XY 10) (OE (XY 2) J2g))))))) { nx:=fun _=>PP D.non,rt:=PP }
     [some .bag,some (.lst (clo.map fun l=>.lst (l.map F3i.d))),some (.lst (fl.map F3i.d)),some (.int b),v4,v5,v6,v7,v8,v9,none] n2:=fun fl b v4 v5 v6 v7 v8 v9 n2 hl hb hf h2=>by
    walk_at "g"
    refine And.intro ⟨by omega,by omega⟩ ?_
    refine ⟨fun i ρ n'=>∃ (cs:List R3) (v4:Option D),ρ=[some .bag,some (.lst (clo.map fun l=>.lst (l.map F3i.d))),some (.lst (fl.map F3i.d)),some (.int b),v4,v5,v6,v7,v8,v9,some (.own (cs.map R3.d))]/\cs.length=i/\(∀ r∈cs,(-1000<=r.x/\r.x<=1000)/\(-1000<=r.y/\r.y<=1000)/\(-1000<=r.z/\r.z<=1000))/\n'<=n2+3*i,⟨[],_,rfl,rfl,by simp,by omega⟩,?_,?_⟩
    · rintro i x ρ n' e ⟨cs,v4,rfl,hlc,hc,hn'⟩
      obtain ⟨rfl,hi⟩:=AZ e
      have hi:i<14:=by omega
      clear e
      walk_at "g"
      walk_at "gc3"
      refine ⟨2000,rfl,by omega,by decide,by decide,fun r1 n3 p0 p1 h3=>?_⟩
      walk_at "g"
      refine ⟨2000,rfl,by omega,by decide,by decide,fun r2 n4 p2 p3 h4=>?_⟩
      walk_at "g"
      refine ⟨2000,rfl,by omega,by decide,by decide,fun r3 n5 p4 p5 h5=>?_⟩
      walk_at "g"
      refine And.intro (by show (true&&decide ((cs.map R3.d).length<1000))=true;rw [List.length_map,hlc];simp;omega) ?_
      refine ⟨cs++[⟨r1 - 1000,r2 - 1000,r3 - 1000⟩],_,by rw [List.map_append];rfl,by simp [hlc],fun r hr=>?_,by omega⟩
      rcases List.mem_append.mp hr with h|h
      · exact hc r h
      · rw [List.mem_singleton.mp h]
        dsimp only
        omega
    · rintro ρ n' ⟨cs,v4,rfl,hlc,hc,hn'⟩
      have hlc:cs.length=((b:Int)+5).toNat:=by rw [hlc];exact (rangeD_len ..)
      have hn':n'<=n2+3*((b:Int)+5).toNat:=by rw [show (CF 0 ((b:Int)+5).toNat).length=((b:Int)+5).toNat from rangeD_len ..] at hn';exact hn'
      walk_at "g"
      exact hP cs fl n' ⟨by omega,hl,hc,hf⟩ (by omega)
   walk_at "g"
   intro B
   walk_at "g"
   refine ⟨4,rfl,by omega,by decide,by decide,fun m n1 m0 m1 h1=>?_⟩
   walk_at "g"
   refine And.intro ⟨by omega,by omega⟩ ?_
   refine ⟨fun i ρ n'=>∃ (fl:List F3i) (b:Nat) (v4 v5:Option D),ρ=[some .bag,some (.lst (clo.map fun l=>.lst (l.map F3i.d))),some (.own (fl.map F3i.d)),some (.int b),v4,v5,none,none,none,none,none]/\fl.length<=6*i/\b<=3*i/\(∀ f∈fl,∀ q,f.has q->q<50)/\n'<=n+1+2*i,⟨[],0,_,_,rfl,Nat.le_refl _,Nat.le_refl _,by simp,by omega⟩,?_,?_⟩
   · rintro i x ρ n' e ⟨fl,b,v4,v5,rfl,hl,hb,hf,hn'⟩
     obtain ⟨rfl,hi⟩:=AZ e
     clear e
     walk_at "g"
     refine ⟨3,rfl,by omega,by decide,by decide,fun r1 n2 r0 r1' h2=>?_⟩
     walk_at "g"
     refine ixm r0 (by exact r1') fun dz mz=>?_
     obtain ⟨l,ml,rfl⟩:∃ l∈clo,dz=.lst (l.map F3i.d):=by
      obtain ⟨l,h1,h2⟩:=List.mem_map.mp mz
      exact ⟨l,h1,h2.symm⟩
     obtain ⟨ll,lk⟩:=J9t l ml
     walk_at "g"
     intro B
     walk_at "g"
     refine And.intro (by rw [List.length_map];omega) ?_
     refine AN (shf b) (fun x Q hx hQ=>?_) (fun x hx=>?_) ?_
     · obtain ⟨q,_,rfl⟩:=List.mem_map.mp hx
       walk_at "g"
       exact hQ
     · obtain ⟨q,_,rfl⟩:=List.mem_map.mp hx
       rfl
     rw [J3d]
     walk_at "g"
     refine And.intro (by simp only [List.length_map];omega) ?_
     walk_at "g"
     refine ⟨2,rfl,by omega,by decide,by decide,fun r2 n3 p0 p1 h3=>?_⟩
     walk_at "g"
     refine ixm p0 (by exact p1) fun dz mz2=>?_
     obtain ⟨b2,rfl,hb2⟩:∃ b2:Nat,dz=.int b2/\b2<=3:=by
      simp only [List.mem_cons,List.not_mem_nil,or_false] at mz2
      rcases mz2 with rfl|rfl
      · exact ⟨0,rfl,by omega⟩
      · exact ⟨3,rfl,by omega⟩
     walk_at "g"
     refine ⟨fl++l.map (fun f=>(⟨f.i+b,f.j+b,f.k+b⟩:F3i)),b+b2,_,_,by rw [List.map_append,show (((b+b2:Nat):Int))=(b:Int)+b2 by omega];rfl,by rw [List.length_append,List.length_map];omega,by omega,fun f hf' q hq=>?_,by omega⟩
     rcases List.mem_append.mp hf' with h|h
     · exact hf f h q hq
     · obtain ⟨f0,m0',rfl⟩:=List.mem_map.mp h
       have:=lk f0 m0'
       rcases hq with rfl|rfl|rfl<;>dsimp only<;>omega
   · rintro ρ n' ⟨fl,b,v4,v5,rfl,hl,hb,hf,hn'⟩
     rw [show (CF 0 m.toNat).length=m.toNat from rangeD_len ..] at hl hb hn'
     clear B
     walk_at "g"
     refine XS ?_
     walk_at "g"
     by_cases z:fl=[]
     · subst z
       refine IfP.f rfl ?_
       walk_at "w"
       refine IfP.f rfl ?_
       exact tail [] b _ _ _ _ _ _ n' (by decide) (by omega) (by simp) (by omega)
     have lp:0<fl.length:=List.length_pos_iff.mpr z
     refine IfP.t (by simpa using z) ?_
     walk_at "g"
     refine ⟨4,rfl,by omega,by decide,by decide,fun r1 n3 p0 p1 h3=>?_⟩
     walk_at "g"
     by_cases r3:r1=3
     case neg =>
      refine IfP.f (by simpa using r3) ?_
      exact tail fl b _ _ _ _ _ _ n3 (by omega) (by omega) (fun f hf' q hq=>by have:=hf f hf' q hq;omega) (by omega)
     refine IfP.t (by simpa using r3) ?_
     walk_at "g"
     refine ⟨(fl.length:Int),by rw [List.length_map],by omega,by omega,by omega,fun a n4 a0 a1 h4=>?_⟩
     obtain ⟨a,rfl⟩:∃ at_:Nat,a=at_:=⟨a.toNat,by omega⟩
     have ha:a<fl.length:=by omega
     walk_at "g"
     rw [show atI (fl.map F3i.d) (a:Int)=some fl[a].d from CC (j:=a) (by rw [List.getElem?_map,List.getElem?_eq_getElem ha];rfl)]
     have hfa:=hf _ (List.getElem_mem ha)
     generalize fl[a]=fa at *
     walk_at "g"
     refine ⟨2,rfl,by omega,by decide,by decide,fun r2 n5 q0 q1 h5=>?_⟩
     walk_at "g"
     refine ixm q0 (by exact q1) fun dz mz=>?_
     obtain ⟨l,rfl,ll,hl2⟩:∃ l:List F3i,dz=.lst (l.map F3i.d)/\l.length<=1/\∀ f∈l,∀ q,f.has q->q<50:=by
      simp only [List.mem_cons,List.not_mem_nil,or_false] at mz
      rcases mz with rfl|rfl
      · refine ⟨[⟨fa.i,fa.k,fa.j⟩],rfl,Nat.le_refl 1,fun f hm q hq=>?_⟩
        rw [List.mem_singleton.mp hm] at hq
        exact hfa q (by rcases hq with h|h|h;exact .inl h;exact .inr (.inr h);exact .inr (.inl h))
      · exact ⟨[],rfl,by decide,by simp⟩
     have e1:L2.HV (fl.map F3i.d) none (some (a:Int))=(fl.take a).map F3i.d:=by rw [J9s (by rw [List.length_map];omega),List.map_take]
     have e2:L2.HV (fl.map F3i.d) (some ((a:Int)+1)) none=(fl.drop (a+1)).map F3i.d:=by rw [show ((a:Int)+1)=((a+1:Nat):Int) by omega,J1j (by rw [List.length_map];omega),List.map_drop]
     walk_at "g"
     rw [e1]
     refine And.intro (by rw [List.length_map,List.length_map,List.length_take];omega) ?_
     walk_at "g"
     rw [e2]
     refine And.intro (by simp only [List.length_append,List.length_map,List.length_take,List.length_drop];omega) ?_
     rw [<- List.map_append,<- List.map_append]
     refine And.intro (by exact rfl) (And.intro (by exact rfl) ?_)
     refine tail (fl.take a++l++fl.drop (a+1)) b _ _ _ _ _ _ n5 (by simp only [List.length_append,List.length_take,List.length_drop];omega) (by omega) (fun f hf' q hq=>?_) (by omega)
     rcases List.mem_append.mp hf' with h|h
     · rcases List.mem_append.mp h with h|h
       · have:=hf f (List.mem_of_mem_take h) q hq;omega
       · have:=hl2 f h q hq;omega
     · have:=hf f (List.mem_of_mem_drop h) q hq;omega
def PlR (n:Nat)(r:List Int):Prop:=∃ f p:Nat,r=[(f:Int),(p:Int)]/\f<n/\p<=2
def prD (q:List Int×List Int):D:=.tup [AF q.1,AF q.2]
theorem YI {n:Nat}:∀ r∈CV n,PlR n r:=by
 induction n with
 | zero=>intro r h;cases h
 | succ n ih =>
   intro r h
   rw [FT] at h
   rcases List.mem_append.mp h with h|h
   · obtain ⟨f,p,e,h1,h2⟩:=ih r h
     exact ⟨f,p,e,by omega,h2⟩
   · simp only [List.mem_cons,List.not_mem_nil,or_false] at h
     rcases h with rfl|rfl|rfl
     · exact ⟨n,0,rfl,by omega,by omega⟩
     · exact ⟨n,1,rfl,by omega,by omega⟩
     · exact ⟨n,2,rfl,by omega,by omega⟩
theorem UB {α β:Type}(g:α->β):∀ (xs:List α) (k:Nat),(xs.map g).eraseIdx k=(xs.eraseIdx k).map g
 | [],_=>rfl
 | _::_,0=>rfl
 | x::xs,k+1=>by rw [List.map_cons,List.eraseIdx_cons_succ,List.eraseIdx_cons_succ,List.map_cons,UB g xs k]
theorem J3e {rs:List (List Int)}{r:List Int}{P:List D->Prop}(m:r∈rs)(h:∀ k,k<rs.length->P ((rs.eraseIdx k).map AF)):RemG (rs.map AF) (AF r) P:=by
 have e:∀ A:List (List Int),BE (A.map AF)=some (A.map fun s=>PyData.tuple (s.map PyData.int)):=fun A=>by
  rw [LU]
 have eqv:∀ a b:List Int,PyData.eqv (.tuple (a.map PyData.int)) (.tuple (b.map PyData.int))=decide (a=b):=fun a b=>by rw [<- GN];unfold PyData.eqv;rfl
 have hk:∃ k,k<rs.length/\rs[k]?=some r/\∀ m q,m<k->rs[m]?=some q->q≠r:=by
  clear h e
  induction rs with
  | nil=>cases m
  | cons a rs ih =>
    by_cases z:a=r
    · exact ⟨0,Nat.zero_lt_succ _,by rw [z];rfl,fun m q h=>by omega⟩
    · obtain ⟨k,h1,h2,h3⟩:=ih ((List.mem_cons.mp m).resolve_left fun y=>z y.symm)
      refine ⟨k+1,Nat.succ_lt_succ h1,h2,fun m q h hq=>?_⟩
      cases m with
      | zero=>cases hq;exact z
      | succ m=>exact h3 m q (by omega) hq
 obtain ⟨k,k1,k2,k3⟩:=hk
 have er:Y9 (AF r)=some (.tuple (r.map PyData.int)):=by unfold AF Y9;rw [LV];rfl
 have f:V6 2 (AF r)=true:=by
  have:=HD [r]
  rw [List.map_cons] at this
  unfold AM at this
  exact ((Bool.and_eq_true _ _).mp this).1
 obtain ⟨p,e1_,d1,_⟩:=HE 2 (AF r) f
 refine ⟨rs.map fun s=>PyData.tuple (s.map PyData.int),.tuple (r.map PyData.int),k,e rs,?_,?_,⟨.tuple (r.map PyData.int),by rw [List.getElem?_map,k2];rfl,by rw [eqv];exact decide_eq_true rfl⟩,fun m q hm hq=>?_,by rw [UB];exact h k k1⟩
 · exact er
 · have:=d1
   rw [er] at e1_
   cases e1_
   have hm:min (PyData.depthAll (rs.map fun s=>PyData.tuple (s.map PyData.int))) (PyData.tuple (r.map PyData.int)).depth<=(PyData.tuple (r.map PyData.int)).depth:=Nat.min_le_right ..
   omega
 · rw [List.getElem?_map] at hq
   obtain ⟨q0,e0,rfl⟩:=Option.map_eq_some_iff.mp hq
   rw [eqv]
   exact decide_eq_false (k3 m q0 hm e0)
abbrev DZ:Stmt:=top 76
abbrev Q0k:List Str:=["_law_bag_here","_law_body_here","_law_left","_law_found","_law_one","_law_i","_law_j","_law_some","_law_other"]
abbrev J6y:List Str:=["_law_bag_here","_law_body_here"]
theorem Z9:FnScope Q0k J6y (J5 DZ):=⟨rfl,rfl,rfl,by decide +kernel,rfl,by decide +kernel,by decide +kernel⟩
def J6p:MV:=fun ds P n=>∃ (cs:List D) (fl:List F3i),ds=[.bag,.tup [.lst cs,.lst (fl.map F3i.d)]]/\fl.length<=18/\n<=8100/\∀ (qs:List (List Int×List Int)) n',qs.length<=27->(∀ q∈qs,PlR fl.length q.1/\PlR fl.length q.2)->n'<=n+162->P (.lst (qs.map prD)) n'
structure C__law_pairs (P:Program)(w:World)(K:Fg)(mg:Str->Option Value)(base:Heap)(c:Cs):Prop where
 _law_places_:Callee P w K mg base CX0 "_law_places" 1 ["_law_body_here"] (CP K BT UO)
 _law_side_:Callee P w K mg base CX0 "_law_side" 1 J2s (Q6 K BT UN)
 _law_take_:Callee P w K mg base CX0 "_law_take" 1 xl3 (AG K BT HZ)
abbrev J2u (P:Program) (w:World) (K:Fg) (mg:Str → Option Value) (base:Heap) (f:Addr) (cdv:Value) (A:Around) (outer:List Env) (s:Shared) (H:Hp) (E:XK):Cx:=CI CX0 P w K mg base Q0k "_law_pairs" (J5 DZ) f cdv A outer s H E
abbrev J2p:List Str:=["_law_other","_law_body_here","_law_j","_law_i"]
theorem NB {w:World} {f:Addr} (F:Fun K "_law_pairs" "_law_pairs" DZ f fd) (Z:Bi mg) {c:Cs} (Y:Ex K mg base c) (G:C__law_pairs P w K mg base c):FnOk P w K mg base CX0 2 f fd J6y (AG K BT J6p):=by
 refine F.okC Z9 (fun ds PP n h=>?_) (fun cdv A outer s H E M bg ds PP n hr hS_=>?_)
 · obtain ⟨cs,fl,rfl,hl,hn,hP⟩:=h
   exact ⟨rfl,List.mem_cons_self ..⟩
 · obtain ⟨cs,fl,rfl,hl,hn,hP⟩:=hS_
   refine ⟨_,(Q4 (J1p (i:=2) Z9.nd rfl (by walk_at "o") G._law_places_ hr.m rfl (fun H0=>(J0 (jdv 1) J1)))
    (Q4 (IN (i:=3) Z9.nd rfl (by walk_at "o") V0)
    (Q4 (YB PassesOwn.never (BF fun H0=>(Y5 (OV K (by rfl) hr.units) DR (jdv 2) (Y7 J1) (Q9 _))) (Q4 (J1r (i:=2) (j:=4) (by rfl) Z9.nd rfl (by walk_at "o") (J6 (Z6 G._law_take_ hr.m rfl (J6 (cjv 0) (J6 (Q1 fun H0=>(J4 (J8 K (by rfl)) AC rfl Z.len_ Z5 (J0 (jdv 2) J1))) V0))) V0) (GC PySem.F.plainAttrs_list PySem.F.slot_list_pop PySem.F.type_list_pop RM (pv 2) (CJA.h (J6 (Z6 G._law_take_ hr.m rfl (J6 (cjv 0) (J6 (Q1 fun H0=>(J4 (J8 K (by rfl)) AC rfl Z.len_ Z5 (J0 (jdv 2) J1))) V0))) V0))))
    (Q4 (WA (DX [5,6]) (Q1 fun H0=>(Y1 G._law_side_ hr.m rfl (J0 (jdv 1) (J0 (jdv 4) J1)))) (PG.or (BO (n:=2) K (by rfl) (by rfl) (J7 (pg_name (i:=5) Z9.nd rfl (by walk_at "o")) (J7 (pg_name (i:=6) Z9.nd rfl (by walk_at "o")) Z3))) (BZ (n:=2) K (by rfl) (by rfl) (J7 (pg_name (i:=5) Z9.nd rfl (by walk_at "o")) (J7 (pg_name (i:=6) Z9.nd rfl (by walk_at "o")) Z3)))))
    (Q4 (KH 0 (GQ K) fun H0 M0=>(J0b (X:=(J2u P w K mg base f cdv A outer s H E).nox) false (i:=7) Z9.nd rfl (by walk_at "o") (V5 0) (FH (X:=(J2u P w K mg base f cdv A outer s H E).nox) (N':=J2p) (map:=[none,some 1,some 6,some 5]) (by rfl) (by rfl) (by decide +kernel) (by rfl) ⟨⟨rfl,rfl,rfl,by walk_at "o"⟩,⟨⟨rfl,rfl,rfl,by walk_at "o"⟩,⟨⟨rfl,rfl,rfl,by walk_at "o"⟩,True.intro⟩⟩⟩ (gkeep_name rfl) fun cl0 C0 fp0 s0 H0=>⟨(pg_name (X:=(Q0 (J2u P w K mg base f cdv A outer s H E).nox J2p _ cl0 C0 fp0 s0 H0)) (i:=0) (V9 J2p (by decide +kernel)) rfl (by walk_at "o")),(J0h (Y5 (GF K (by rfl) hr.units) DR (Y1 G._law_side_ hr.m rfl (J0 (jdv 1) (J0 (jdv 0) J1))) (J9 (J0 (jdv 2) (J0 (jdv 3) J1))) (Q9 _))),(jdv (X:=(Q0 (J2u P w K mg base f cdv A outer s H E).nox J2p _ cl0 C0 fp0 s0 H0)) 0)⟩) (Z4 (by rfl) (jdv 2))))
    (V7 (EI (BF fun H0=>(Y5 (OV K (by rfl) hr.units) DR (jdv 7) (Y7 J1) (Q9 _))) (Q4 (BC (i:=8) Z9.nd rfl (by walk_at "o") (GP (V2 K (by rfl)) Y6 (Q1 fun H0=>(jdv 7)) (Z6 G._law_take_ hr.m rfl (J6 (cjv 0) (J6 (Q1 fun H0=>(J4 (J8 K (by rfl)) AC rfl Z.len_ Z5 (J0 (jdv 7) J1))) V0))) (fun _ _=>rfl)))
    (Q4 (KH 0 (GQ K) fun H0 M0=>(TU (i:=2) (by rfl) (J0 (jdv 8) J1) (GC PySem.F.plainAttrs_list PySem.F.slot_list_remove PySem.F.type_list_remove (TM _ (by rfl) hr.units) (pv 2) (JA.h (J0 (jdv 8) J1)))))
    (V7 (HX (i:=3) (by rfl) rfl (by walk_at "v") (J6 (GP (V2 K (by rfl)) Y6 (Q1 fun H0=>(Y7 (J0 (J9 (J0 (jdv 4) (J0 (jdv 8) J1))) (J0 (J9 (J0 (jdv 8) (J0 (jdv 4) J1))) J1)))) (Z6 G._law_take_ hr.m rfl (J6 (cjv 0) (J6 (Q1 fun H0=>J3) V0))) (fun _ _=>rfl)) V0) (GC PySem.F.plainAttrs_list PySem.F.slot_list_append PySem.F.type_list_append GY (pv 3) (CJA.h (J6 (GP (V2 K (by rfl)) Y6 (Q1 fun H0=>(Y7 (J0 (J9 (J0 (jdv 4) (J0 (jdv 8) J1))) (J0 (J9 (J0 (jdv 8) (J0 (jdv 4) J1))) J1)))) (Z6 G._law_take_ hr.m rfl (J6 (cjv 0) (J6 (Q1 fun H0=>J3) V0))) (fun _ _=>rfl)) V0))))))) FE))))))
    (FF 3 (V7 (DF (cjv 3))))))),?_⟩
   walk_at "g"
   refine ⟨cs,fl,rfl,by omega,?_⟩
   walk_at "g"
   have l0:=allPl_len fl.length
   refine ⟨fun m ρ n'=>∃ (rs:List (List Int)) (qs:List (List Int×List Int)) (v4 v5 v6 v7 v8:Option D),ρ=[some .bag,some (.tup [.lst cs,.lst (fl.map F3i.d)]),some (.own (rs.map AF)),some (.own (qs.map prD)),v4,v5,v6,v7,v8]/\rs.length=m/\2*qs.length+rs.length<=54/\(∀ r∈rs,PlR fl.length r)/\(∀ q∈qs,PlR fl.length q.1/\PlR fl.length q.2)/\n'+3*rs.length<=n+162,_,⟨CV fl.length,[],_,_,_,_,_,rfl,rfl,by rw [l0];show 2*0+_<=_;omega,YI,by simp,by omega⟩,?_⟩
   rintro m ρ n' ⟨rs,qs,v4,v5,v6,v7,v8,rfl,rfl,hc,hr_,hq,hn'⟩
   walk_at "g"
   refine VQ 2 (HD rs) ?_
   walk_at "g"
   by_cases z:rs=[]
   · subst z
     refine IfP.f rfl ?_
     walk_at "g"
     exact hP qs n' (by simp at hc;omega) hq (by simp at hn';omega)
   have lp:0<rs.length:=List.length_pos_iff.mpr z
   refine IfP.t (by cases rs with|nil=>exact absurd rfl z|cons a rs=>rfl) ?_
   walk_at "g"
   refine ⟨(rs.length:Int),by rw [List.length_map],by omega,by omega,by omega,fun a n1 a0 a1 h1=>?_⟩
   obtain ⟨a,rfl⟩:∃ at_:Nat,a=at_:=⟨a.toNat,by omega⟩
   have ha:a<rs.length:=by omega
   walk_at "g"
   refine And.intro ⟨by omega,by rw [List.length_map];omega,by rw [List.length_map];omega⟩ ?_
   rw [show ((rs.map AF)[((a:Nat):Int).toNat]?)=some (AF rs[a]) by rw [Int.toNat_natCast,List.getElem?_map,List.getElem?_eq_getElem ha];rfl,Int.toNat_natCast,UB]
   obtain ⟨f1,p1,e1,hf1,hp1⟩:=hr_ _ (List.getElem_mem ha)
   generalize rs[a]=r1 at *
   subst e1
   have lr:(rs.eraseIdx a).length+1=rs.length:=by rw [List.length_eraseIdx,if_pos ha];omega
   have hr2:∀ r∈rs.eraseIdx a,PlR fl.length r:=fun r h=>hr_ r (List.mem_of_mem_eraseIdx h)
   generalize rs.eraseIdx a=rs2 at *
   obtain ⟨a1_,b1,s1,_⟩:=CJ hf1 hp1
   walk_at "g"
   refine ⟨cs,fl,f1,p1,rfl,hf1,hp1,?_⟩
   rw [show AE fl (t2 f1 p1)=_ from s1]
   walk_at "g"
   intro B
   walk_at "g"
   refine And.intro (by rw [List.length_map];omega) ?_
   refine J5a (fun x=>x) (fun x=>decide (AE fl x=[(b1:Int),(a1_:Int)])) (fun x Qf Q hx h1 h0=>?_) (fun x hx _=>?_) ?_
   · obtain ⟨r,mr,rfl⟩:=List.mem_map.mp hx
     obtain ⟨f2,p2,rfl,hf2,hp2⟩:=hr2 r mr
     obtain ⟨a2,b2,s2,_⟩:=CJ hf2 hp2
     walk_at "g"
     refine ⟨cs,fl,f2,p2,rfl,hf2,hp2,?_⟩
     rw [show AE fl (t2 f2 p2)=_ from s2]
     walk_at "g"
     refine EqG.mk2 ?_
     rw [Bool.bne_false]
     walk_at "g"
     have et:decide (AE fl (AF [(f2:Int),(p2:Int)])=[(b1:Int),(a1_:Int)])=(decide ((a2:Int)=b1)&&decide ((b2:Int)=a1_)):=by
      rw [show AE fl (AF [(f2:Int),(p2:Int)])=_ from s2]
      by_cases z1:(a2:Int)=b1<;>by_cases z2:(b2:Int)=a1_<;>simp [z1,z2]
     rw [et] at h1 h0
     exact IfP.of (fun h=>h1 h) fun h=>h0 h
   · obtain ⟨r,mr,rfl⟩:=List.mem_map.mp hx
     rfl
   rw [List.filter_map,show (fun x:D=>x)=id from rfl,List.map_id]
   obtain ⟨ss,ess,hss⟩:∃ ss:List (List Int),rs2.filter ((fun x=>decide (AE fl x=[(b1:Int),(a1_:Int)]))∘AF)=ss/\∀ r∈ss,r∈rs2:=⟨_,rfl,fun r h=>(List.mem_filter.mp h).1⟩
   have lss:ss.length<=54:=by rw [<- ess];have:=List.length_filter_le ((fun x=>decide (AE fl x=[(b1:Int),(a1_:Int)]))∘AF) rs2;omega
   rw [ess]
   walk_at "g"
   refine RX 2 (HD ss) ?_
   walk_at "g"
   by_cases zs:ss=[]
   · subst zs
     refine IfP.f rfl ?_
     walk_at "g"
     exact ⟨_,by omega,rs2,qs,_,_,_,_,_,rfl,rfl,by omega,hr2,hq,by omega⟩
   have ls:0<ss.length:=List.length_pos_iff.mpr zs
   refine IfP.t (by cases ss with|nil=>exact absurd rfl zs|cons a ss=>rfl) ?_
   walk_at "g"
   refine ⟨(ss.length:Int),by rw [List.length_map],by omega,by omega,by omega,fun k n2 k0 k1 h2=>?_⟩
   walk_at "g"
   refine ixm k0 (by rw [List.length_map];exact k1) fun dz mz=>?_
   obtain ⟨r2,mr2,rfl⟩:=List.mem_map.mp mz
   obtain ⟨f2,p2,er2,hf2,hp2⟩:=hr2 r2 (hss r2 mr2)
   subst er2
   walk_at "g"
   intro B2
   walk_at "g"
   refine ⟨_,rfl,?_⟩
   refine J3e (hss _ mr2) fun k hk=>?_
   have lr3:(rs2.eraseIdx k).length+1=rs2.length:=by rw [List.length_eraseIdx,if_pos hk];omega
   have hr3:∀ r∈rs2.eraseIdx k,PlR fl.length r:=fun r h=>hr2 r (List.mem_of_mem_eraseIdx h)
   generalize rs2.eraseIdx k=rs3 at *
   walk_at "g"
   refine ⟨2,rfl,by omega,by decide,by decide,fun t n3 t0 t1 h3=>?_⟩
   walk_at "g"
   refine ixm t0 (by exact t1) fun dq mq=>?_
   obtain ⟨q,rfl,q1,q2⟩:∃ q:List Int×List Int,dq=prD q/\PlR fl.length q.1/\PlR fl.length q.2:=by
    simp only [List.mem_cons,List.not_mem_nil,or_false] at mq
    rcases mq with rfl|rfl
    · exact ⟨([(f1:Int),(p1:Int)],[(f2:Int),(p2:Int)]),rfl,⟨f1,p1,rfl,hf1,hp1⟩,⟨f2,p2,rfl,hf2,hp2⟩⟩
    · exact ⟨([(f2:Int),(p2:Int)],[(f1:Int),(p1:Int)]),rfl,⟨f2,p2,rfl,hf2,hp2⟩,⟨f1,p1,rfl,hf1,hp1⟩⟩
   walk_at "g"
   refine And.intro (by show (true&&decide ((qs.map prD).length<1000))=true;rw [List.length_map];simp;omega) ?_
   refine ⟨rs3.length,by omega,rs3,qs++[q],_,_,_,_,_,by rw [List.map_append];rfl,rfl,by rw [List.length_append,List.length_singleton];omega,hr3,fun q' hq'=>?_,by omega⟩
   rcases List.mem_append.mp hq' with h|h
   · exact hq q' h
   · rw [List.mem_singleton.mp h];exact ⟨q1,q2⟩
theorem Th.up {L:Nat}{Q:D->Prop}{d:D}(h:Q d):∀ k,Th L Q k d
 | 0=>h
 | _+1=>.inl h
theorem Th.row {L:Nat}{Q:D->Prop}{k:Nat}{xs:List D}(hl:xs.length<=L)(h:∀ x∈xs,Th L Q k x):Th L Q (k+1) (.tup xs)/\Th L Q (k+1) (.lst xs):=⟨.inr ⟨xs,.inl rfl,hl,h⟩,.inr ⟨xs,.inr rfl,hl,h⟩⟩
theorem Th.fine {L:Nat}{Q:D->Prop}{n:Nat}(hq:∀ d,Q d->V6 n d=true):∀ {k:Nat} {d:D},Th L Q k d->V6 (n+k) d=true
 | 0,_,h=>hq _ h
 | k+1,d,h=>by
   rcases h with h|⟨xs,h,_,hx⟩
   · exact CW n _ (by omega) _ (hq _ h)
   · have:=HC (n:=n+k) (ds:=xs) fun x m=>Th.fine hq (hx x m)
     rcases h with rfl|rfl<;>(rw [show n+(k+1)=(n+k)+1 by omega];unfold V6;exact this)
theorem XG {i:Int}(h : -100000000<=i/\i<=100000000):KJ (.int i):=⟨RO (by omega),fun j e=>by cases e;exact h,by rintro xs (h|h)<;>cases h⟩
theorem XH:KJ (.str "fellows"):=⟨⟨⟨by decide +kernel,by decide +kernel,by decide +kernel⟩,by rintro xs (h|h)<;>cases h⟩,fun j e=>(by cases e),by rintro xs (h|h)<;>cases h⟩
def RE (cs:List R3)(fl:List F3i)(qs:List (List Int×List Int)):D:=.tup [.str "fellows",.tup [.lst (cs.map R3.d),.lst (fl.map F3i.d)],.lst (qs.map prD)]
theorem LA {xs:List Int}(h:∀ x∈xs,-100000000<=x/\x<=100000000)(hl:xs.length<=3):Szd (AF xs) 5775 1:=by
 refine (Szd.tup (ds:=xs.map D.int) (m:=1921) (n:=0) (k:=3) (fun d q=>?_) (by rw [List.length_map];exact hl)).mono (by decide) (by decide)
 obtain ⟨x,m,rfl⟩:=List.mem_map.mp q
 have:=h x m
 exact Szd.int (by omega) (by omega)
theorem KZ {xs:List Int}(h:∀ x∈xs,-100000000<=x/\x<=100000000)(hl:xs.length<=3)(k:Nat):Th 28 KJ (k+1) (AF xs):=by
 refine (Th.row (xs:=xs.map D.int) (by rw [List.length_map];omega) fun d q=>?_).1
 obtain ⟨x,m,rfl⟩:=List.mem_map.mp q
 exact Th.up (XG (h x m)) k
theorem J8c {cs:List R3}{fl:List F3i}{qs:List (List Int×List Int)}(b:Bdy cs fl)(hq:qs.length<=27)(hp:∀ q∈qs,PlR fl.length q.1/\PlR fl.length q.2):Szd (RE cs fl qs) 1000000 4/\Th 28 KJ 5 (RE cs fl qs):=by
 have hc:∀ r∈cs,∀ x∈[r.x,r.y,r.z],-100000000<=x/\x<=100000000:=fun r hr x hx=>by
  have:=b.c r hr
  simp only [List.mem_cons,List.not_mem_nil,or_false] at hx
  rcases hx with rfl|rfl|rfl<;>omega
 have hf:∀ f∈fl,∀ x∈[(f.i:Int),(f.j:Int),(f.k:Int)],-100000000<=x/\x<=100000000:=fun f hf x hx=>by
  have h1:=b.f f hf f.i (.inl rfl)
  have h2:=b.f f hf f.j (.inr (.inl rfl))
  have h3:=b.f f hf f.k (.inr (.inr rfl))
  simp only [List.mem_cons,List.not_mem_nil,or_false] at hx
  rcases hx with rfl|rfl|rfl<;>omega
 have hr_:∀ r,PlR fl.length r->(∀ x∈r,-100000000<=x/\x<=100000000)/\r.length<=3:=fun r hr=>by
  obtain ⟨f,p,rfl,h1,h2⟩:=hr
  have:=b.lf
  refine ⟨fun x hx=>?_,by show 2<=3;decide⟩
  simp only [List.mem_cons,List.not_mem_nil,or_false] at hx
  rcases hx with rfl|rfl<;>omega
 have s1:Szd (.lst (cs.map R3.d)) 161760 2:=(Szd.lst (ds:=cs.map R3.d) (m:=5775) (n:=1) (k:=28) (fun d q=>by
  obtain ⟨r,m,rfl⟩:=List.mem_map.mp q
  exact LA (xs:=[r.x,r.y,r.z]) (hc r m) (Nat.le_refl 3)) (by rw [List.length_map];exact b.lc)).mono (by decide) (by decide)
 have s2:Szd (.lst (fl.map F3i.d)) 161760 2:=(Szd.lst (ds:=fl.map F3i.d) (m:=5775) (n:=1) (k:=28) (fun d q=>by
  obtain ⟨f,m,rfl⟩:=List.mem_map.mp q
  exact LA (xs:=[(f.i:Int),f.j,f.k]) (hf f m) (Nat.le_refl 3)) (by rw [List.length_map];have:=b.lf;omega)).mono (by decide) (by decide)
 have s3:Szd (.tup [.lst (cs.map R3.d),.lst (fl.map F3i.d)]) 330000 3:=(Szd.tup (ds:=[.lst (cs.map R3.d),.lst (fl.map F3i.d)]) (m:=161760) (n:=2) (k:=2) (fun d q=>by
  simp only [List.mem_cons,List.not_mem_nil,or_false] at q
  rcases q with rfl|rfl<;>assumption) (Nat.le_refl 2)).mono (by decide) (by decide)
 have s4:Szd (.lst (qs.map prD)) 330000 3:=(Szd.lst (ds:=qs.map prD) (m:=12000) (n:=2) (k:=27) (fun d q=>by
  obtain ⟨pq,m,rfl⟩:=List.mem_map.mp q
  refine (Szd.tup (ds:=[AF pq.1,AF pq.2]) (m:=5775) (n:=1) (k:=2) (fun d hd=>?_) (Nat.le_refl 2)).mono (by decide) (by decide)
  simp only [List.mem_cons,List.not_mem_nil,or_false] at hd
  rcases hd with rfl|rfl
  · have:=hr_ _ (hp pq m).1;exact LA this.1 this.2
  · have:=hr_ _ (hp pq m).2;exact LA this.1 this.2) (by rw [List.length_map];exact hq)).mono (by decide) (by decide)
 refine ⟨(Szd.tup (ds:=[.str "fellows",.tup [.lst (cs.map R3.d),.lst (fl.map F3i.d)],.lst (qs.map prD)]) (m:=330000) (n:=3) (k:=3) (fun d q=>?_) (Nat.le_refl 3)).mono (by decide) (by decide),?_⟩
 · simp only [List.mem_cons,List.not_mem_nil,or_false] at q
   rcases q with rfl|rfl|rfl
   · exact ⟨by decide +kernel,by decide +kernel,by decide +kernel⟩
   · exact s3
   · exact s4
 refine (Th.row (by show 3<=28;decide) fun d q=>?_).1
 simp only [List.mem_cons,List.not_mem_nil,or_false] at q
 rcases q with rfl|rfl|rfl
 · exact Th.up XH 4
 · refine (Th.row (by show 2<=28;decide) fun d q=>?_).1
   simp only [List.mem_cons,List.not_mem_nil,or_false] at q
   rcases q with rfl|rfl
   · refine (Th.row (by rw [List.length_map];exact b.lc) fun d q=>?_).2
     obtain ⟨r,m,rfl⟩:=List.mem_map.mp q
     exact KZ (xs:=[r.x,r.y,r.z]) (hc r m) (Nat.le_refl 3) 1
   · refine (Th.row (by rw [List.length_map];have:=b.lf;omega) fun d q=>?_).2
     obtain ⟨f,m,rfl⟩:=List.mem_map.mp q
     exact KZ (xs:=[(f.i:Int),f.j,f.k]) (hf f m) (Nat.le_refl 3) 1
 · refine (Th.row (by rw [List.length_map];omega) fun d q=>?_).2
   obtain ⟨pq,m,rfl⟩:=List.mem_map.mp q
   refine (Th.row (by show 2<=28;decide) fun d hd=>?_).1
   simp only [List.mem_cons,List.not_mem_nil,or_false] at hd
   rcases hd with rfl|rfl
   · have:=hr_ _ (hp pq m).1;exact KZ this.1 this.2 1
   · have:=hr_ _ (hp pq m).2;exact KZ this.1 this.2 1
theorem J3q {cs:List R3}{fl:List F3i}{qs:List (List Int×List Int)}(h:Szd (RE cs fl qs) 1000000 4)(hq:qs.length<=27):Ppr (RE cs fl qs) :=
 ⟨h.ok,CW 4 20 (by decide) _ h.fine,Nat.le_trans h.w (by decide),fun a b c e z=>(by cases z),fun a b ps z=>by cases z;rw [List.length_map];omega⟩
theorem J3a {cs:List R3}{fl:List F3i}{qs:List (List Int×List Int)}{y:D}(h:Szd (RE cs fl qs) 1000000 4)(ty:Th 30 Leaf 5 y)(sy:Spo 5 (RE cs fl qs) y)(wy:wD y<=2*wD (RE cs fl qs)+8000):Ppr y:=by
 refine ⟨ty.ok fun d h=>h.sz.ok,CW 8 20 (by decide) _ (Th.fine (n:=3) (fun d h=>h.sz.fine) ty),by have:=h.w;omega,fun a b c e z=>?_,fun a b ps z=>?_⟩
 · have:=sy _ rfl (by simp) (by decide) _ z rfl
   cases this;rfl
 · subst z
   rcases ty with l|⟨xs,e,_,hx⟩
   · exact absurd rfl ((l.few _ (.inl rfl)).2 (.lst ps) (by simp) ps)
   · have hm:D.lst ps∈xs:=by rcases e with e|e<;>cases e;simp
     rcases hx _ hm with l|⟨zs,e,hl,_⟩
     · have:=(l.few _ (.inr rfl)).1;omega
     · rcases e with e|e<;>cases e;omega
def J2b:D:=.tup [.lst [t3 0 0 0,t3 9 0 0,t3 0 9 0],.lst [t3 0 1 2,t3 0 2 1]]
def J3j:List D:=[.tup [t2 0 0,t2 1 2],.tup [t2 0 1,t2 1 1],.tup [t2 0 2,t2 1 0]]
theorem thF:∀ x∈[D.tup [.int 0,.int (-1)],.tup [.int (-2),.int 2],.tup [.int 0,.bl true],.tup [.bl false,.int 2],.tup [.int (-1),.int 0],.tup [.int 2,.int 2],.tup [.int 0,.int 3],.tup [.int 0,.int 2]],∃ xs,x=.tup xs/\Szd x 4000 1:=by
 intro x h
 simp only [List.mem_cons,List.not_mem_nil,or_false] at h
 rcases h with rfl|rfl|rfl|rfl|rfl|rfl|rfl|rfl<;>exact ⟨_,rfl,by decide +kernel,by decide +kernel,by decide +kernel⟩
theorem J4f {y:D}(h:Szd y 8100 2):Ppr (.tup [.str "fellows",J2b,.lst [.tup [t2 0 0,t2 1 2],.tup [t2 0 1,t2 1 1],y]]):=by
 have s:Szd (.tup [.str "fellows",J2b,.lst [.tup [t2 0 0,t2 1 2],.tup [t2 0 1,t2 1 1],y]]) 200000 4:=by
  refine (Szd.tup (ds:=[.str "fellows",J2b,.lst [.tup [t2 0 0,t2 1 2],.tup [t2 0 1,t2 1 1],y]]) (m:=60000) (n:=3) (k:=3) (fun d q=>?_) (Nat.le_refl 3)).mono (by decide) (by decide)
  simp only [List.mem_cons,List.not_mem_nil,or_false] at q
  rcases q with rfl|rfl|rfl
  · exact ⟨by decide +kernel,by decide +kernel,by decide +kernel⟩
  · exact ⟨by decide +kernel,by decide +kernel,by decide +kernel⟩
  · refine (Szd.lst (ds:=[.tup [t2 0 0,t2 1 2],.tup [t2 0 1,t2 1 1],y]) (m:=8100) (n:=2) (k:=3) (fun d q=>?_) (Nat.le_refl 3)).mono (by decide) (by decide)
    simp only [List.mem_cons,List.not_mem_nil,or_false] at q
    rcases q with rfl|rfl|rfl
    · exact ⟨by decide +kernel,by decide +kernel,by decide +kernel⟩
    · exact ⟨by decide +kernel,by decide +kernel,by decide +kernel⟩
    · exact h
 exact ⟨s.ok,CW 4 20 (by decide) _ s.fine,Nat.le_trans s.w (by decide),fun a b c e z=>(by cases z),fun a b ps z=>by cases z;show 3<=31;decide⟩
abbrev YW:Stmt:=top 77
theorem DN:FnScope ["_law_script","_law_k","_law_bag_here","_law_body_here","_law_paper","_law_place","_law_odd_here","_law_pairs_here","_law_thing","_law_pair"] ["_law_script"] (J5 YW):=⟨rfl,rfl,rfl,by decide +kernel,rfl,by decide +kernel,by decide +kernel⟩
def OG (K:Fg):Sp:=fun vs H Q _=>∃ (a:Addr) (ns:List Int),vs=[.ref a]/\SqL K H a (ns.map V.int)/\ns.length<=63/\∀ H',Q (.bl true) H'
structure C_law (P:Program)(w:World)(K:Fg)(mg:Str->Option Value)(base:Heap)(c:Cs):Prop where
 _law_lets_:Callee P w K mg base CX0 "_law_lets" 8 ["_law_paper","_law_due"] (Q6 K BT J2h)
 _law_bag_:Callee P w K mg base CX0 "_law_bag" 1 xl1 (QP K BT OP)
 _law_body_:Callee P w K mg base CX0 "_law_body" 2 WM (AG K BT J6w)
 _law_pairs_:Callee P w K mg base CX0 "_law_pairs" 2 J6y (AG K BT J6p)
 _law_spoiled_:Callee P w K mg base CX0 "_law_spoiled" 8 WL (AG K BT (WJ 5))
 _law_is_right_:Callee P w K mg base CX0 "_law_is_right" 4 ["_law_paper"] (Q6 K BT J6s)
theorem J8d {w:World} {f:Addr} (F:Fun K "law" "law" YW f fd) (Z:Bi mg) {c:Cs} (Y:Ex K mg base c) (G:C_law P w K mg base c):FnOk P w K mg base CX0 9 f fd ["_law_script"] (OG K):=by
 refine F.okLC BT DN (fun cdv A outer s H E ns hr hlen=>?_)
 · refine ⟨_,(Q4 (HF (V5 1) PassesOwn.never rfl (EJ fun H0=>(AU rfl Z.range_ (J0 (J4 (YE (by rfl)) J6l rfl Z.max_ QM (J0 J3 (J0 (J4 (YD (by rfl)) J6l rfl Z.min_ QL (J0 J3 (J0 (J4 (J8 K (by rfl)) AC rfl Z.len_ Z5 (J0 (jdv 0) J1)) J1))) J1))) J1))) (pg_name (i:=1) DN.nd rfl (by walk_at "o")) (Q4 (J5e (i:=2) rfl DN.nd rfl (by walk_at "o") G._law_bag_ hr.m rfl (SK fun H0=>(J0 (jdv 0) (J0 (jdv 1) J1))))
    (Q4 (BC (i:=3) DN.nd rfl (by walk_at "o") (Z6 G._law_body_ hr.m rfl (J6 (cjv 2) V0)))
    (Q4 (BC (i:=4) DN.nd rfl (by walk_at "o") (J5f (J6 (Q1 fun H0=>EB) (J6 (Q1 fun H0=>(jdv 3)) (J6 (Z6 G._law_pairs_ hr.m rfl (J6 (cjv 2) (J6 (Q1 fun H0=>(jdv 3)) V0))) V0)))))
    (Q4 (EI (BF fun H0=>(Y4 (Q7 (by rfl) (Y1 G._law_lets_ hr.m rfl (J0 (jdv 4) (J0 (Y1 G._law_is_right_ hr.m rfl (J0 (jdv 4) J1)) J1))) (fun _=>rfl)))) (V7 (DF (Q1 fun H0=>AK))) FE)
    (V7 (HF (V5 5) PassesOwn.never rfl (EJ fun H0=>(AU rfl Z.range_ (J0 J3 J1))) (pg_name (i:=5) DN.nd rfl (by walk_at "o")) (Q4 (BC (i:=6) DN.nd rfl (by walk_at "o") (Z6 G._law_spoiled_ hr.m rfl (J6 (cjv 2) (J6 (Q1 fun H0=>(jdv 4)) (J6 (Q1 fun H0=>J3) V0)))))
    (V7 (EI (BF fun H0=>(Y4 (Q7 (by rfl) (Y1 G._law_lets_ hr.m rfl (J0 (jdv 6) (J0 (Y1 G._law_is_right_ hr.m rfl (J0 (jdv 6) J1)) J1))) (fun _=>rfl)))) (V7 (DF (Q1 fun H0=>AK))) FE))))))))))
    (Q4 (BC (i:=3) DN.nd rfl (by walk_at "o") (Q1 fun H0=>(J9 (J0 (Y7 (J0 (J9 (J0 J3 (J0 J3 (J0 J3 J1)))) (J0 (J9 (J0 J3 (J0 J3 (J0 J3 J1)))) (J0 (J9 (J0 J3 (J0 J3 (J0 J3 J1)))) J1)))) (J0 (Y7 (J0 (J9 (J0 J3 (J0 J3 (J0 J3 J1)))) (J0 (J9 (J0 J3 (J0 J3 (J0 J3 J1)))) J1))) J1)))))
    (Q4 (BC (i:=7) DN.nd rfl (by walk_at "o") (Q1 fun H0=>(Y7 (J0 (J9 (J0 (J9 (J0 J3 (J0 J3 J1))) (J0 (J9 (J0 J3 (J0 J3 J1))) J1))) (J0 (J9 (J0 (J9 (J0 J3 (J0 J3 J1))) (J0 (J9 (J0 J3 (J0 J3 J1))) J1))) (J0 (J9 (J0 (J9 (J0 J3 (J0 J3 J1))) (J0 (J9 (J0 J3 (J0 J3 J1))) J1))) J1))))))
    (Q4 (HF (V5 8) PassesOwn.never rfl (EJ fun H0=>(Z4 (by rfl) (Y7 (J0 (J9 (J0 J3 (J0 (LF J3) J1))) (J0 (J9 (J0 (LF J3) (J0 J3 J1))) (J0 (J9 (J0 J3 (J0 AK J1))) (J0 (J9 (J0 AK (J0 J3 J1))) (J0 (J9 (J0 (LF J3) (J0 J3 J1))) (J0 (J9 (J0 J3 (J0 J3 J1))) (J0 (J9 (J0 J3 (J0 J3 J1))) (J0 (J9 (J0 J3 (J0 J3 J1))) J1))))))))))) (pg_name (i:=8) DN.nd rfl (by walk_at "o")) (V7 (HF (V5 9) PassesOwn.never rfl (EJ fun H0=>(Z4 (by rfl) (Y7 (J0 (J9 (J0 (jdv 8) (J0 (J9 (J0 J3 (J0 J3 J1))) J1))) (J0 (J9 (J0 (J9 (J0 J3 (J0 J3 J1))) (J0 (jdv 8) J1))) J1))))) (pg_name (i:=9) DN.nd rfl (by walk_at "o")) (Q4 (BC (i:=4) DN.nd rfl (by walk_at "o") (Q1 fun H0=>(J9 (J0 EB (J0 (jdv 3) (J0 (BG OW PF (FA (LO K (by rfl)) (jdv 7) GK (GJ J3)) (Y7 (J0 (jdv 9) J1))) J1))))))
    (V7 (EI (BF fun H0=>(Y4 (Q7 (by rfl) (Y1 G._law_lets_ hr.m rfl (J0 (jdv 4) (J0 (Y1 G._law_is_right_ hr.m rfl (J0 (jdv 4) J1)) J1))) (fun _=>rfl)))) (V7 (DF (Q1 fun H0=>AK))) FE))) RU)) RU)
    (V7 (DF (Q1 fun H0=>(Y1 G._law_lets_ hr.m rfl (J0 (J9 (J0 EB (J0 (J9 (J0 (Y7 (J0 (J9 (J0 J3 (J0 J3 (J0 J3 J1)))) J1)) (J0 (Y7 J1) J1))) (J0 (Y7 J1) J1)))) (J0 AK J1)))))))))),?_⟩
   walk_at "g"
   have n3:∀ m:Int,((fun i j=>if j>i then j else i) 1 ((fun i j=>if j<i then j else i) 3 m):Int)<=3:=by intro m;dsimp only;split<;>split<;>omega
   have n0:∀ m:Int,1<=((fun i j=>if j>i then j else i) 1 ((fun i j=>if j<i then j else i) 3 m):Int):=by intro m;dsimp only;split<;>split<;>omega
   replace n3:=n3 ns.length
   replace n0:=n0 ns.length
   refine And.intro ⟨by omega,by omega⟩ ?_
   refine ⟨fun i ρ _=>∃ v1 v2 v3 v4 v5 v6,ρ=[some (.scr ns),v1,v2,v3,v4,v5,v6,none,none,none],⟨_,_,_,_,_,_,rfl⟩,?_,?_⟩
   · rintro i x ρ n' e ⟨v1,v2,v3,v4,v5,v6,rfl⟩
     obtain ⟨rfl,hi⟩:=AZ e
     have hi6:i<10:=by omega
     clear e n3 n0
     walk_at "g"
     refine And.intro ⟨ns,i,(by rw [Int.zero_add]<;>rfl),by omega⟩ ?_
     walk_at "g"
     intro cs fl n1 bd h1
     walk_at "g"
     refine ⟨_,fl,rfl,bd.lf,by omega,fun qs n2 hq hp h2=>?_⟩
     obtain ⟨sz,th⟩:=J8c bd hq hp
     have ppr:=J3q sz hq
     walk_at "g"
     refine ⟨_,rfl,ppr,?_⟩
     walk_at "g"
     refine ⟨_,rfl,ppr,?_⟩
     walk_at "g"
     refine ⟨fun j ρ n'=>∃ v1 v3 v5 v6,ρ=[some (.scr ns),v1,some .bag,v3,some (RE cs fl qs),v5,v6,none,none,none]/\n'<=n2+18*j,⟨_,_,_,_,rfl,by omega⟩,?_,?_⟩
     · rintro j x ρ n3 e ⟨v1,v3,v5,v6,rfl,h3⟩
       obtain ⟨rfl,hj⟩:=AZ e
       have hj:j<4:=hj
       clear e
       walk_at "g"
       refine ⟨_,rfl,th,by omega,fun y n4 ty sy wy h4=>?_⟩
       have py:=J3a sz ty sy wy
       have ok:=py.ok
       have no:=AD py.ok
       clear ty sy wy th ppr sz
       cases y<;>(try (simp [Y3] at ok;done))
       all_goals
        walk_at "g"
        refine ⟨_,rfl,py,?_⟩
        walk_at "g"
        refine ⟨_,rfl,py,?_⟩
        walk_at "g"
        exact ⟨_,_,_,_,rfl,by omega⟩
     · rintro ρ n3 ⟨v1,v3,v5,v6,rfl,h3⟩
       exact ⟨_,_,_,_,_,_,rfl⟩
   · rintro ρ n' ⟨v1,v2,v3,v4,v5,v6,rfl⟩
     clear n0 n3
     walk_at "g"
     refine ⟨fun j ρ _=>∃ v1 v2 v4 v5 v6 v8 v9,ρ=[some (.scr ns),v1,v2,some J2b,v4,v5,v6,some (.lst J3j),v8,v9],⟨_,_,_,_,_,_,_,rfl⟩,?_,?_⟩
     · rintro j x ρ n1 e ⟨v1,v2,v4,v5,v6,v8,v9,rfl⟩
       obtain ⟨xs,rfl,sx⟩:=thF x (List.mem_of_getElem? e)
       clear e
       walk_at "g"
       refine ⟨fun j ρ _=>∃ v1 v2 v4 v5 v6 v9,ρ=[some (.scr ns),v1,v2,some J2b,v4,v5,v6,some (.lst J3j),some (.tup xs),v9],⟨_,_,_,_,_,_,rfl⟩,?_,?_⟩
       · rintro j y ρ n2 e ⟨v1,v2,v4,v5,v6,v9,rfl⟩
         obtain ⟨ys,rfl,sy⟩:∃ ys,y=.tup ys/\Szd y 8100 2:=by
          have s1:Szd (t2 1 0) 4000 1:=⟨by decide +kernel,by decide +kernel,by decide +kernel⟩
          have:=List.mem_of_getElem? e
          simp only [List.mem_cons,List.not_mem_nil,or_false] at this
          rcases this with rfl|rfl
          · exact ⟨_,rfl,(Szd.tup (ds:=[.tup xs,t2 1 0]) (m:=4000) (n:=1) (k:=2) (fun d q=>by
             simp only [List.mem_cons,List.not_mem_nil,or_false] at q
             rcases q with rfl|rfl<;>assumption) (Nat.le_refl 2)).mono (by decide) (by decide)⟩
          · exact ⟨_,rfl,(Szd.tup (ds:=[t2 1 0,.tup xs]) (m:=4000) (n:=1) (k:=2) (fun d q=>by
             simp only [List.mem_cons,List.not_mem_nil,or_false] at q
             rcases q with rfl|rfl<;>assumption) (Nat.le_refl 2)).mono (by decide) (by decide)⟩
         clear e
         have ppr:=J4f sy
         walk_at "g"
         have ec:L2.HV J3j none (some 2)++[D.tup ys]=[.tup [t2 0 0,t2 1 2],.tup [t2 0 1,t2 1 1],.tup ys]:=by rw [show L2.HV J3j none (some 2)=[.tup [t2 0 0,t2 1 2],.tup [t2 0 1,t2 1 1]] from rfl];rfl
         rw [ec]
         refine ⟨_,rfl,ppr,?_⟩
         walk_at "g"
         refine ⟨_,rfl,ppr,?_⟩
         walk_at "g"
         exact ⟨_,_,_,_,_,_,rfl⟩
       · rintro ρ n2 ⟨v1,v2,v4,v5,v6,v9,rfl⟩
         exact ⟨_,_,_,_,_,_,_,rfl⟩
     · rintro ρ n1 ⟨v1,v2,v4,v5,v6,v8,v9,rfl⟩
       walk_at "g"
       refine ⟨_,(show _=[D.tup [.str "fellows",.tup [.lst [t3 0 0 0],.lst []],.lst []],.bl (hoB (.tup [.str "fellows",.tup [.lst [t3 0 0 0],.lst []],.lst []]))] by rw [show hoB (.tup [.str "fellows",.tup [.lst [t3 0 0 0],.lst []],.lst []])=true by decide +kernel]),⟨by decide +kernel,by decide +kernel,by decide +kernel,fun a b c e z=>(by cases z),fun a b ps z=>by cases z;decide⟩,?_⟩
       walk_at "g"
end K
namespace K
open PySem L2
structure FnIn (K:Fg)(x:Str)(st:Stmt):Prop where
 ex:∃ (f:Addr) (fd:FuncData),PySem.W.nsIn K mainGlobals x=some (some (.ref f))/\Fun K x x st f fd
theorem fn_in {x:Str}{st:Stmt}{f:Addr}{oc:Value}{od an:Option Addr}{osl:Array (Option Value)}{kV doc pm cdv ct:Value}(a:PySem.W.nsIn K mainGlobals x=some (some (.ref f)))(l:K.lookup f=some ⟨oc,od,.func (PySem.W.fnOf x x (IM st) (BP st) (J5 st) .none kV doc pm an cdv ct),osl⟩)(c:PySem.W.codeIn K cdv x=true)(k:PySem.W.keepIn K (.ref f)=true):FnIn K x st:=⟨⟨_,_,a,J8o l c k⟩⟩
local macro_rules | `(tactic| walk_at "b1") => `(tactic| exact fun _ _ _ _ _ _ us hl => match us,hl with | [_],_ => rfl)
local macro_rules | `(tactic| walk_at "b2") => `(tactic| exact fun _ _ _ _ _ _ us hl => match us,hl with | [_,_],_ => rfl)
local macro_rules | `(tactic| walk_at "b3") => `(tactic| exact fun _ _ _ _ _ _ us hl => match us,hl with | [_,_,_],_ => rfl)
theorem Q0b {l:PySem.W.OpenLaw}{w:World} {h:Heap} {fa:Addr}(X:K.In h)(G:h.Ns mainGlobals mg)(hfa:mg "law" = some (.ref fa))
 (h0:FnIn K "is_whole" HP)
 (h1:FnIn K "is_whole_tuple" BN)
 (h2:FnIn K "is_corner" EM)
 (h3:FnIn K "is_face" IV)
 (h4:FnIn K "check_body" DY)
 (h5:FnIn K "is_body" IW)
 (h6:FnIn K "fellow" LS)
 (h7:FnIn K "sides_of" HN)
 (h8:FnIn K "is_side_place" DQ)
 (h9:FnIn K "are_fellows" CZ)
 (h10:FnIn K "fellows_hold" CK)
 (h11:FnIn K "holds" OL)
 (h12:FnIn K "_law_lets" GA)
 (h13:FnIn K "_law_bag" FL)
 (h14:FnIn K "_law_take" CG)
 (h15:FnIn K "_law_body" EN)
 (h16:FnIn K "_law_places" DC)
 (h17:FnIn K "_law_side" FZ)
 (h18:FnIn K "_law_pairs" DZ)
 (h19:FnIn K "_law_odd" HQ)
 (h20:FnIn K "_law_whole" FK)
 (h21:FnIn K "_law_spoiled" CL)
 (h22:FnIn K "_law_wholes" DB)
 (h23:FnIn K "_law_is_body" CN)
 (h24:FnIn K "_law_is_pair" CM)
 (h25:FnIn K "_law_is_right" BY)
 (h26:FnIn K "law" YW)
 (z_abs:PySem.W.nsIn K mainGlobals "abs" = some none)
 (z_len:PySem.W.nsIn K mainGlobals "len" = some none)
 (z_max:PySem.W.nsIn K mainGlobals "max" = some none)
 (z_min:PySem.W.nsIn K mainGlobals "min" = some none)
 (z_range:PySem.W.nsIn K mainGlobals "range" = some none)
 (z_isinstance:PySem.W.nsIn K mainGlobals "isinstance" = some none)
 (z_int:PySem.W.nsIn K mainGlobals "int" = some none)
 (z_bool:PySem.W.nsIn K mainGlobals "bool" = some none)
 (z_tuple:PySem.W.nsIn K mainGlobals "tuple" = some none)
 (z_all:PySem.W.nsIn K mainGlobals "all" = some none)
 (z_list:PySem.W.nsIn K mainGlobals "list" = some none)
 (z_sorted:PySem.W.nsIn K mainGlobals "sorted" = some none)
 (z_set:PySem.W.nsIn K mainGlobals "set" = some none)
 (z_repr:PySem.W.nsIn K mainGlobals "repr" = some none)
 (z_str:PySem.W.nsIn K mainGlobals "str" = some none)
 {t_LONGEST:Tok} (z_LONGEST:PySem.W.nsIn K mainGlobals "LONGEST" = some (some (.int 16 t_LONGEST)))
 {t_MOST:Tok} (z_MOST:PySem.W.nsIn K mainGlobals "MOST" = some (some (.int 24 t_MOST)))
 {t_GREATEST_COORDINATE:Tok} (z_GREATEST_COORDINATE:PySem.W.nsIn K mainGlobals "GREATEST_COORDINATE" = some (some (.int 999999 t_GREATEST_COORDINATE)))
 {c_ShadeError:Addr} (e_ShadeError:PySem.W.nsIn K mainGlobals "ShadeError" = some (some (.ref c_ShadeError)))
 {c_NoBody:Addr} (e_NoBody:PySem.W.nsIn K mainGlobals "NoBody" = some (some (.ref c_NoBody)))
 {c_NoFlat:Addr} (e_NoFlat:PySem.W.nsIn K mainGlobals "NoFlat" = some (some (.ref c_NoFlat)))
 {c_NoFace:Addr} (e_NoFace:PySem.W.nsIn K mainGlobals "NoFace" = some (some (.ref c_NoFace)))
 {c_NoBoard:Addr} (e_NoBoard:PySem.W.nsIn K mainGlobals "NoBoard" = some (some (.ref c_NoBoard)))
 (q_NoBody:PySem.W.excIn K c_NoBody bmV "ValueError.__new__" = true) (x1_NoBody:PySem.W.findIn K (.ref c_NoBody) "__getattribute__" = some (some (.builtin "BaseException.__getattribute__"))) (x5_NoBody:PySem.W.findIn K (.ref c_NoBody) "__getattr__" = some none) (x6_NoBody:PySem.W.subIn K (.ref c_NoBody) (.type "BaseException")=some true) (x2_NoBody:PySem.W.findObj K c_NoBody none "__class__" = some (.bind (.builtin "getset_descriptor.__get__") (.builtin "object.__class__"))) (x3_NoBody:PySem.W.mroIn K c_NoBody (.type "object")=some true) (x4_NoBody:(PySem.W.clsIn K c_NoBody).isSome=true) (v_NoBody:PySem.W.subIn K (.ref c_NoBody) (.type "ValueError")=some true) (s_NoBody:PySem.W.subIn K (.ref c_NoBody) (.ref c_ShadeError)=some true)
 (n_NoBody_NoFlat:PySem.W.kin_not K c_NoBody c_NoFlat=true)
 (n_NoBody_NoFace:PySem.W.kin_not K c_NoBody c_NoFace=true)
 (n_NoBody_NoBoard:PySem.W.kin_not K c_NoBody c_NoBoard=true)
 (xb1:(PySem.W.clsIn K c_ShadeError).isSome=true) (xb2:PySem.W.typeIn K (.ref c_ShadeError)=some (.type "type")) (xb3:PySem.W.subIn K (.ref c_ShadeError) (.type "BaseException")=some true)
 (yb1_NoBody:(PySem.W.clsIn K c_NoBody).isSome=true) (yb2_NoBody:PySem.W.typeIn K (.ref c_NoBody)=some (.type "type")) (yb3_NoBody:PySem.W.subIn K (.ref c_NoBody) (.type "BaseException")=some true) (ys_NoBody:PySem.W.subIn K (.ref c_NoBody) (.ref c_NoBody)=some true)
 : ∃ fd:FuncData,(∀ (s:Shared) (v:Value),BindsTo s fd ⟨[v],[]⟩ [("_law_script",v)])/\∀ base:Heap,K.In base->base.Ns mainGlobals mg->FnOk l.prog w K mg base CX0 9 fa fd ["_law_script"] (OG K):=by
 obtain ⟨f0,d0,a0,F0⟩:=h0.ex
 obtain ⟨f1,d1,a1,F1⟩:=h1.ex
 obtain ⟨f2,d2,a2,F2⟩:=h2.ex
 obtain ⟨f3,d3,a3,F3⟩:=h3.ex
 obtain ⟨f4,d4,a4,F4⟩:=h4.ex
 obtain ⟨f5,d5,a5,F5⟩:=h5.ex
 obtain ⟨f6,d6,a6,F6⟩:=h6.ex
 obtain ⟨f7,d7,a7,F7⟩:=h7.ex
 obtain ⟨f8,d8,a8,F8⟩:=h8.ex
 obtain ⟨f9,d9,a9,F9⟩:=h9.ex
 obtain ⟨f10,d10,a10,F10⟩:=h10.ex
 obtain ⟨f11,d11,a11,F11⟩:=h11.ex
 obtain ⟨f12,d12,a12,F12⟩:=h12.ex
 obtain ⟨f13,d13,a13,F13⟩:=h13.ex
 obtain ⟨f14,d14,a14,F14⟩:=h14.ex
 obtain ⟨f15,d15,a15,F15⟩:=h15.ex
 obtain ⟨f16,d16,a16,F16⟩:=h16.ex
 obtain ⟨f17,d17,a17,F17⟩:=h17.ex
 obtain ⟨f18,d18,a18,F18⟩:=h18.ex
 obtain ⟨f19,d19,a19,F19⟩:=h19.ex
 obtain ⟨f20,d20,a20,F20⟩:=h20.ex
 obtain ⟨f21,d21,a21,F21⟩:=h21.ex
 obtain ⟨f22,d22,a22,F22⟩:=h22.ex
 obtain ⟨f23,d23,a23,F23⟩:=h23.ex
 obtain ⟨f24,d24,a24,F24⟩:=h24.ex
 obtain ⟨f25,d25,a25,F25⟩:=h25.ex
 obtain ⟨f26,d26,a26,F26⟩:=h26.ex
 have e:=hfa.symm.trans (PySem.W.mg_of X G a26)
 cases e
 have Z:Bi mg:=⟨PySem.W.mg_none_of X G z_abs,PySem.W.mg_none_of X G z_len,PySem.W.mg_none_of X G z_max,PySem.W.mg_none_of X G z_min,PySem.W.mg_none_of X G z_range,PySem.W.mg_none_of X G z_isinstance,PySem.W.mg_none_of X G z_int,PySem.W.mg_none_of X G z_bool,PySem.W.mg_none_of X G z_tuple,PySem.W.mg_none_of X G z_all,PySem.W.mg_none_of X G z_list,PySem.W.mg_none_of X G z_sorted,PySem.W.mg_none_of X G z_set,PySem.W.mg_none_of X G z_repr,PySem.W.mg_none_of X G z_str,⟨_,PySem.W.mg_of X G z_LONGEST⟩,⟨_,PySem.W.mg_of X G z_MOST⟩,⟨_,PySem.W.mg_of X G z_GREATEST_COORDINATE⟩⟩
 have bl:=F26.binds (ps:=["_law_script"]) fun _ _ _ _ _ _ us hl=>match us,hl with | [_],_=>rfl
 obtain ⟨oc,od,kV,doc,pm,an,cdv,ct,osl,el,lk,hcd⟩:=F26.ex
 refine ⟨d26,fun s v=>by rw [el];exact .of_eq rfl,fun base kb gb=>?_⟩
 have Y:Ex K mg base ⟨c_ShadeError,c_NoBody,c_NoFlat,c_NoFace,c_NoBoard⟩:=⟨PySem.W.mg_of X G e_ShadeError,PySem.W.mg_of X G e_NoBody,PySem.W.mg_of X G e_NoFlat,PySem.W.mg_of X G e_NoFace,PySem.W.mg_of X G e_NoBoard,Q1c kb gb e_NoBody q_NoBody,⟨x1_NoBody,x5_NoBody,x2_NoBody,x3_NoBody,x4_NoBody,x6_NoBody⟩,v_NoBody,s_NoBody,n_NoBody_NoFlat,n_NoBody_NoFace,n_NoBody_NoBoard,⟨xb1,xb2,xb3⟩,⟨yb1_NoBody,yb2_NoBody,yb3_NoBody⟩,ys_NoBody⟩
 have G0:=Callee.mk' F0 (RH (P:=l.prog) (w:=w) (base:=base) F0 Z Y) (PySem.W.mg_of X G a0) (F0.binds (by walk_at "b1"))
 have G1:=Callee.mk' F1 (IG (P:=l.prog) (w:=w) (base:=base) F1 Z Y ⟨G0⟩) (PySem.W.mg_of X G a1) (F1.binds (by walk_at "b2"))
 have G2:=Callee.mk' F2 (OX (P:=l.prog) (w:=w) (base:=base) F2 Z Y ⟨G1⟩) (PySem.W.mg_of X G a2) (F2.binds (by walk_at "b1"))
 have G3:=Callee.mk' F3 (TK (P:=l.prog) (w:=w) (base:=base) F3 Z Y ⟨G1⟩) (PySem.W.mg_of X G a3) (F3.binds (by walk_at "b2"))
 have G4:=Callee.mk' F4 (MZ (P:=l.prog) (w:=w) (base:=base) F4 Z Y ⟨G2,G3⟩) (PySem.W.mg_of X G a4) (F4.binds (by walk_at "b1"))
 have G5:=Callee.mk' F5 (TL (P:=l.prog) (w:=w) (base:=base) F5 Z Y ⟨G4⟩) (PySem.W.mg_of X G a5) (F5.binds (by walk_at "b1"))
 have G6:=Callee.mk' F6 (WY (P:=l.prog) (w:=w) (base:=base) F6 Z Y) (PySem.W.mg_of X G a6) (F6.binds (by walk_at "b1"))
 have G7:=Callee.mk' F7 (RG (P:=l.prog) (w:=w) (base:=base) F7 Z Y) (PySem.W.mg_of X G a7) (F7.binds (by walk_at "b1"))
 have G8:=Callee.mk' F8 (JB (P:=l.prog) (w:=w) (base:=base) F8 Z Y ⟨G1⟩) (PySem.W.mg_of X G a8) (F8.binds (by walk_at "b2"))
 have G9:=Callee.mk' F9 (MB (P:=l.prog) (w:=w) (base:=base) F9 Z Y ⟨G6,G7,G8⟩) (PySem.W.mg_of X G a9) (F9.binds (by walk_at "b2"))
 have G10:=Callee.mk' F10 (KP (P:=l.prog) (w:=w) (base:=base) F10 Z Y ⟨G5,G9⟩) (PySem.W.mg_of X G a10) (F10.binds (by walk_at "b2"))
 have G11:=Callee.mk' F11 (ZS (P:=l.prog) (w:=w) (base:=base) F11 Z Y ⟨G10⟩) (PySem.W.mg_of X G a11) (F11.binds (by walk_at "b1"))
 have G12:=Callee.mk' F12 (PB (P:=l.prog) (w:=w) (base:=base) F12 Z Y ⟨G11⟩) (PySem.W.mg_of X G a12) (F12.binds (by walk_at "b2"))
 have G13:=Callee.mk' F13 (RJ (P:=l.prog) (w:=w) (base:=base) F13 Z Y) (PySem.W.mg_of X G a13) (F13.binds (by walk_at "b2"))
 have G14:=Callee.mk' F14 (OY (P:=l.prog) (w:=w) (base:=base) F14 Z Y) (PySem.W.mg_of X G a14) (F14.binds (by walk_at "b2"))
 have G15:=Callee.mk' F15 (PC (P:=l.prog) (w:=w) (base:=base) F15 Z Y ⟨G14⟩) (PySem.W.mg_of X G a15) (F15.binds (by walk_at "b1"))
 have G16:=Callee.mk' F16 (MD (P:=l.prog) (w:=w) (base:=base) F16 Z Y) (PySem.W.mg_of X G a16) (F16.binds (by walk_at "b1"))
 have G17:=Callee.mk' F17 (OZ (P:=l.prog) (w:=w) (base:=base) F17 Z Y) (PySem.W.mg_of X G a17) (F17.binds (by walk_at "b2"))
 have G18:=Callee.mk' F18 (NB (P:=l.prog) (w:=w) (base:=base) F18 Z Y ⟨G16,G17,G14⟩) (PySem.W.mg_of X G a18) (F18.binds (by walk_at "b2"))
 have G19:=Callee.mk' F19 (RI (P:=l.prog) (w:=w) (base:=base) F19 Z Y ⟨G14⟩) (PySem.W.mg_of X G a19) (F19.binds (by walk_at "b1"))
 have G20:=Callee.mk' F20 (NA (P:=l.prog) (w:=w) (base:=base) F20 Z Y) (PySem.W.mg_of X G a20) (F20.binds (by walk_at "b1"))
 have G21:=Callee.mk' F21 (EW (P:=l.prog) (w:=w) (base:=base) F21 Z Y ⟨G14,G19,G20⟩ (PySem.W.mg_of X G a21) (F21.binds (by walk_at "b3")) 5) (PySem.W.mg_of X G a21) (F21.binds (by walk_at "b3"))
 have G22:=Callee.mk' F22 (MC (P:=l.prog) (w:=w) (base:=base) F22 Z Y ⟨G20⟩) (PySem.W.mg_of X G a22) (F22.binds (by walk_at "b2"))
 have G23:=Callee.mk' F23 (KR (P:=l.prog) (w:=w) (base:=base) F23 Z Y ⟨G22⟩) (PySem.W.mg_of X G a23) (F23.binds (by walk_at "b1"))
 have G24:=Callee.mk' F24 (KQ (P:=l.prog) (w:=w) (base:=base) F24 Z Y ⟨G17,G22⟩) (PySem.W.mg_of X G a24) (F24.binds (by walk_at "b2"))
 have G25:=Callee.mk' F25 (JC (P:=l.prog) (w:=w) (base:=base) F25 Z Y ⟨G16,G23,G24⟩) (PySem.W.mg_of X G a25) (F25.binds (by walk_at "b1"))
 exact J8d (P:=l.prog) (w:=w) (base:=base) F26 Z Y ⟨G12,G13,G15,G18,G21,G25⟩
theorem Q2o {l:PySem.W.OpenLaw}{q:Program}{loose:List Str}{XP:(Str->Option Value)->Heap->Prop}{YP:World->Heap->Prop}{d:DefRec}{K:Params->Fg}(hn:l.most=some 63)(hdf:d.params.defaults=[])
 (hY:∀ (w:World) (h:Heap),YP w h->(K w.params).In h)
 (F:∀ (w:World) (mg:Str->Option Value) (fa:Addr) (h:Heap),(K w.params).In h->h.Ns mainGlobals mg->mg d.name=some (.ref fa) ->
  ∃ fd:FuncData,(∀ (s:Shared) (u:Value),BindsTo s fd ⟨[u],[]⟩ [("_law_script",u)])/\∀ base:Heap,(K w.params).In base->base.Ns mainGlobals mg->FnOk l.prog w (K w.params) mg base CX0 9 fa fd ["_law_script"] (OG (K w.params))) :
 PySem.W.WalkO q loose XP YP l.row.toRowW d [] (fun f vs=>PySem.call f vs) :=
 L2.J2w (n:=63) (k:=9) (x:="_law_script") (CX:=fun _=>CX0) (sp:=fun w=>OG (K w.params)) hn (by decide) hdf ⟨rfl,by decide,by decide,rfl⟩ hY F (fun _ _ a ns hl _ hS=>⟨a,ns,rfl,hS,hl,fun _=>rfl⟩) fun _ _ _ _ _ z=>z
end K
open PySem PySem.W PyProof.Rows
theorem PySem.W.Fast.tw12718474897911660861:True:=trivial
theorem PySem.W.Fast.tw11358676689740064795:True:=trivial
theorem PySem.W.Fast.tw7265332924552994999:True:=trivial
theorem PySem.W.Fast.tw2791614034502408214:True:=trivial
theorem PySem.W.Fast.tw12614674349761303221:True:=trivial
theorem PySem.W.Fast.tw4997508765129138549:True:=trivial
theorem PySem.W.Fast.tw15559967326117638644:True:=trivial
theorem PySem.W.Fast.tw9500400745626501682:True:=trivial
theorem PySem.W.Fast.tw8656508155068710480:True:=trivial
theorem PySem.W.Fast.tw5801995455844030318:True:=trivial
theorem PySem.W.Fast.tw17190224986285477742:True:=trivial
theorem PySem.W.Fast.tw5080173076597895534:True:=trivial
theorem PySem.W.Fast.tw7559380278376483821:True:=trivial
theorem PySem.W.Fast.tw1561482955530361260:True:=trivial
theorem PySem.W.Fast.tw13416790627443631468:True:=trivial
theorem PySem.W.Fast.tw9266853557728589160:True:=trivial
theorem PySem.W.Fast.tw8551636341444338630:True:=trivial
theorem PySem.W.Fast.tw8861596113350107494:True:=trivial
theorem PySem.W.Fast.tw18150622553373285957:True:=trivial
theorem PySem.W.Fast.tw11700271299702580613:True:=trivial
theorem PySem.W.Fast.tw6605705784505393413:True:=trivial
theorem PySem.W.Fast.tw988113203249169858:True:=trivial
theorem PySem.W.Fast.tw1364790473372038657:True:=trivial
theorem PySem.W.Fast.tw13784968126214134656:True:=trivial
theorem PySem.W.Fast.tw5427620880423173920:True:=trivial
theorem PySem.W.Fast.tw2349371543779665650:True:=trivial
local macro_rules | `(tactic| walk_at "fn") => `(tactic| (refine' _root_.K.fn_in ?a ?l ?c ?k; (case a => k_is); (case l => k_is); (case c => k_is); (case k => k_is)))
set_option maxRecDepth 100000 in
set_option maxHeartbeats 0 in
theorem PySem.Challenge.cw_onceshade_k67_papers_of_fellows_holds : PySem.Challenge.rw_onceshade_k67_papers_of_fellows.Holds := by
 w_on;o_law;k_head;(case hw=>w_witness2)
 k_fill
 refine K.Q2o (l:=PySem.Challenge.rw_onceshade_k67_papers_of_fellows) rfl rfl (fun w h Y=>PySem.W.kIn_of Y) ?F
 case F =>
  intro w mg fa h KX G hmg
  refine' K.Q0b KX G hmg ?h0 ?h1 ?h2 ?h3 ?h4 ?h5 ?h6 ?h7 ?h8 ?h9 ?h10 ?h11 ?h12 ?h13 ?h14 ?h15 ?h16 ?h17 ?h18 ?h19 ?h20 ?h21 ?h22 ?h23 ?h24 ?h25 ?h26 ?z_abs ?z_len ?z_max ?z_min ?z_range ?z_isinstance ?z_int ?z_bool ?z_tuple ?z_all ?z_list ?z_sorted ?z_set ?z_repr ?z_str ?z_LONGEST ?z_MOST ?z_GREATEST_COORDINATE ?e_ShadeError ?e_NoBody ?e_NoFlat ?e_NoFace ?e_NoBoard ?q_NoBody ?x1_NoBody ?x5_NoBody ?x6_NoBody ?x2_NoBody ?x3_NoBody ?x4_NoBody ?v_NoBody ?s_NoBody ?n_NoBody_NoFlat ?n_NoBody_NoFace ?n_NoBody_NoBoard ?xb1 ?xb2 ?xb3 ?yb1_NoBody ?yb2_NoBody ?yb3_NoBody ?ys_NoBody
  (case h0=>walk_at "fn")
  (case h1=>walk_at "fn")
  (case h2=>walk_at "fn")
  (case h3=>walk_at "fn")
  (case h4=>walk_at "fn")
  (case h5=>walk_at "fn")
  (case h6=>walk_at "fn")
  (case h7=>walk_at "fn")
  (case h8=>walk_at "fn")
  (case h9=>walk_at "fn")
  (case h10=>walk_at "fn")
  (case h11=>walk_at "fn")
  (case h12=>walk_at "fn")
  (case h13=>walk_at "fn")
  (case h14=>walk_at "fn")
  (case h15=>walk_at "fn")
  (case h16=>walk_at "fn")
  (case h17=>walk_at "fn")
  (case h18=>walk_at "fn")
  (case h19=>walk_at "fn")
  (case h20=>walk_at "fn")
  (case h21=>walk_at "fn")
  (case h22=>walk_at "fn")
  (case h23=>walk_at "fn")
  (case h24=>walk_at "fn")
  (case h25=>walk_at "fn")
  (case h26=>walk_at "fn")
  (case z_abs=>k_is)
  (case z_len=>k_is)
  (case z_max=>k_is)
  (case z_min=>k_is)
  (case z_range=>k_is)
  (case z_isinstance=>k_is)
  (case z_int=>k_is)
  (case z_bool=>k_is)
  (case z_tuple=>k_is)
  (case z_all=>k_is)
  (case z_list=>k_is)
  (case z_sorted=>k_is)
  (case z_set=>k_is)
  (case z_repr=>k_is)
  (case z_str=>k_is)
  (case z_LONGEST=>k_is)
  (case z_MOST=>k_is)
  (case z_GREATEST_COORDINATE=>k_is)
  (case e_ShadeError=>k_is)
  (case e_NoBody=>k_is)
  (case e_NoFlat=>k_is)
  (case e_NoFace=>k_is)
  (case e_NoBoard=>k_is)
  (case q_NoBody=>k_exc)
  (case x1_NoBody=>kernel_rfl)
  (case x5_NoBody=>kernel_rfl)
  (case x6_NoBody=>kernel_rfl)
  (case x2_NoBody=>kernel_rfl)
  (case x3_NoBody=>kernel_rfl)
  (case x4_NoBody=>kernel_rfl)
  (case v_NoBody=>kernel_rfl)
  (case s_NoBody=>kernel_rfl)
  (case n_NoBody_NoFlat=>kernel_rfl)
  (case n_NoBody_NoFace=>kernel_rfl)
  (case n_NoBody_NoBoard=>kernel_rfl)
  (case xb1=>kernel_rfl)
  (case xb2=>kernel_rfl)
  (case xb3=>kernel_rfl)
  (case yb1_NoBody=>kernel_rfl)
  (case yb2_NoBody=>kernel_rfl)
  (case yb3_NoBody=>kernel_rfl)
  (case ys_NoBody=>kernel_rfl)
