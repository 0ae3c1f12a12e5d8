import PyProof.Rows.All
import Wide.All
import OpenK.AllK
import Wide.FinOn
import Lean
import PyProof.EqAt
import PyProof.EqKinds
import PyProof.TupleCall
import PySem.Challenge.RW_onceshade_k46_coloured_boards
set_option bootstrap.genMatcherCode false
set_option Elab.async false
set_option linter.all false
set_option maxRecDepth 100000
open PySem PySem.Spec PyProof.Rows in
def B0:=@wpAny_bind
open PySem PySem.Spec PyProof.Rows in
def B1:=@wpAny_pure
open PySem PySem.Spec PyProof.Rows in
def B2:=@PySem.W.mg_of
open PySem PySem.Spec PyProof.Rows in
def B3:=@Heap.get?_push_of_some
open PySem PySem.Spec PyProof.Rows in
def B4:=@Heap.lt_size
abbrev Fg:=PySem.W.Frag
variable {P:PySem.Program}{K:Fg}{mg:PySem.Str->Option PySem.Value}{base:PySem.Heap}{fd:PySem.FuncData}{b:Option PySem.Addr}{M:PySem.Addr->Prop}
namespace L2
open PySem PySem.Spec PyProof.Rows
abbrev Key:=Sum Int Str
def J9y:Key->Value->Bool
 | .inl k,v=>Value.isInt k v
 | .inr x,v=>Value.isStrOf x v
def Q9n (w:World):Key->Int
 | .inl k=>hashInt k
 | .inr x=>hashStr w x
theorem BU:∀ {k:Key} {v:Value},J9y k v=true->(∃ i t,k=Sum.inl i/\v=Value.int i t)\/(∃ x t,k=Sum.inr x/\v=Value.str x t)
 | .inl i,v,h=>by
   obtain ⟨t,e⟩:=Value.isInt_shape (k:=i) (v:=v) h
   exact .inl ⟨i,t,rfl,e⟩
 | .inr x,v,h=>by
   obtain ⟨t,e⟩:=Value.isStrOf_shape (x:=x) (v:=v) h
   exact .inr ⟨x,t,rfl,e⟩
theorem Q2l (a b:Int):decide ((Sum.inl a:Key)=Sum.inl b)=(a==b):=by
 by_cases e:a=b
 · subst e;simp
 · have h:¬ (Sum.inl a:Key)=Sum.inl b:=fun q=>e (Sum.inl.inj q)
   rw [decide_eq_false h]
   exact (beq_eq_false_iff_ne.mpr e).symm
theorem Q2i (a b:Str):decide ((Sum.inr a:Key)=Sum.inr b)=decide (a=b):=by
 by_cases e:a=b
 · subst e;simp
 · have h:¬ (Sum.inr a:Key)=Sum.inr b:=fun q=>e (Sum.inr.inj q)
   rw [decide_eq_false h,decide_eq_false e]
theorem Q2k (a:Int)(b:Str):decide ((Sum.inl a:Key)=Sum.inr b)=false:=decide_eq_false (fun q=>nomatch q)
theorem Q2j (a:Str)(b:Int):decide ((Sum.inr a:Key)=Sum.inl b)=false:=decide_eq_false (fun q=>nomatch q)
def SN (prog:Program)(w:World):PySem.KeyKind prog w Key where
 is:=J9y
 hash:=Q9n w
 inj:=fun v a b ha hb=>by
  rcases BU ha with ⟨i,t,rfl,rfl⟩|⟨x,t,rfl,rfl⟩
  · rcases BU hb with ⟨j,u,rfl,e⟩|⟨y,u,rfl,e⟩
    · injection e with e1 _;rw [e1]
    · exact nomatch e
  · rcases BU hb with ⟨j,u,rfl,e⟩|⟨y,u,rfl,e⟩
    · exact nomatch e
    · injection e with e1 _;rw [e1]
 byValue:=fun k v h=>by
  rcases BU h with ⟨i,t,rfl,rfl⟩|⟨x,t,rfl,rfl⟩<;>rfl
 pyHash:=fun hv h=>by
  rcases BU hv with ⟨i,t,rfl,rfl⟩|⟨x,t,rfl,rfl⟩
  · exact wpAny_pyHash_int h
  · exact wpAny_pyHash_str h
 eqBool:=fun hu hv h=>by
  rcases BU hu with ⟨i,t,rfl,rfl⟩|⟨x,t,rfl,rfl⟩
  · rcases BU hv with ⟨j,u,rfl,rfl⟩|⟨y,u,rfl,rfl⟩
    · rw [Q2l] at h;exact wpAny_eqBool_int h
    · rw [Q2k] at h;exact SeqAt.EqAt.int_str i t y u _ _ _ _ h
  · rcases BU hv with ⟨j,u,rfl,rfl⟩|⟨y,u,rfl,rfl⟩
    · rw [Q2j] at h;exact SeqAt.EqAt.str_int x t j u _ _ _ _ h
    · rw [Q2i] at h;exact wpAny_eqBool_str h
 «strs»:=fun k x t v h=>by
  rcases BU h with ⟨i,u,rfl,e⟩|⟨y,u,rfl,e⟩
  · exact nomatch e
  · injection e with e1 _
    subst e1
    cases v<;>rfl
inductive V where
 | non|bl (b:Bool)|int (i:Int)|str (x:Str)|byt (b:Array UInt8)|flt (b:UInt64)|ref (a:Addr)|ty (n:String)
 deriving DecidableEq
def RelV:V->Value->Prop
 | .non,u=>u=Value.none
 | .bl b,u=>u=Value.bool b
 | .int i,u=>∃ t,u=Value.int i t
 | .str x,u=>∃ t,u=Value.str x t
 | .byt b,u=>∃ t,u=Value.bytes b t
 | .flt b,u=>∃ t,u=Value.float b t
 | .ref a,u=>u=Value.ref a
 | .ty n,u=>u=Value.type n
abbrev Vals:List V->List Value->Prop:=Paired RelV
theorem Vals.length {xs:List V}{us:List Value}(r:Vals xs us):xs.length=us.length:=Paired.length r
theorem Vals.get:∀ {xs:List V} {us:List Value} {i:Nat} {x:V},Vals xs us->xs[i]?=some x->∃ u,us[i]?=some u/\RelV x u
 | _,_,_,_,.nil,e=>by simp at e
 | _,_,0,_,.cons r _,e=>by simp at e;subst e;exact ⟨_,rfl,r⟩
 | _,_,i+1,x,.cons _ t,e=>by
   obtain ⟨u,h1,h2⟩:=Vals.get (i:=i) (x:=x) t (by simpa using e)
   exact ⟨u,by simpa using h1,h2⟩
theorem Vals.set {x:V}{u:Value}(r:RelV x u):∀ {xs:List V} {us:List Value} (i:Nat),Vals xs us->Vals (xs.set i x) (us.set i u)
 | _,_,_,.nil=>.nil
 | _,_,0,.cons _ t=>.cons r t
 | _,_,i+1,.cons q t=>.cons q (Vals.set r i t)
theorem Vals.append:∀ {xs ys:List V} {us ws:List Value},Vals xs us->Vals ys ws->Vals (xs++ys) (us++ws)
 | _,_,_,_,.nil,s=>s
 | _,_,_,_,.cons r t,s=>.cons r (Vals.append t s)
theorem Vals.take:∀ {xs:List V} {us:List Value} (n:Nat),Vals xs us->Vals (xs.take n) (us.take n)
 | _,_,0,_=>.nil
 | _,_,_+1,.nil=>.nil
 | _,_,n+1,.cons r t=>.cons r (Vals.take n t)
theorem Vals.drop:∀ {xs:List V} {us:List Value} (n:Nat),Vals xs us->Vals (xs.drop n) (us.drop n)
 | _,_,0,r=>r
 | _,_,_+1,.nil=>.nil
 | _,_,n+1,.cons _ t=>Vals.drop n t
def Q4w:Option V->Option Value->Prop
 | some v,some u=>RelV v u
 | none,none=>True
 | _,_=>False
def KV {κ:Type}:List (κ×V)->List (κ×Value)->Prop:=Paired fun (p:κ×V) (q:κ×Value)=>p.1=q.1/\RelV p.2 q.2
def kV:Key->V
 | .inl i=>.int i
 | .inr x=>.str x
inductive HO where
 | lst (xs:List V)
 | tup (xs:List V)
 | dK (kvs:List (Key×V))|dT (kvs:List (List Key×V))
 | set (S:Int->Bool) (n:Nat)
 | ins (C dx:Addr) (fs:List (Str×V))
 | own (x:Addr)
 | xd (fs:List (Str×V))
 | met (f x:Addr)
 | rng (lo hi:Int)
 | frz (o:Obj) (u:HO)
 | tbl (ps:Array Value)
 | ext (φ:Heap->Prop)
abbrev Hp:=Addr->Option HO
def upd (H:Hp)(a:Addr)(o:HO):Hp:=fun b=>if b=a then some o else H b
theorem Y3 {H:Hp}{a:Addr}{o:HO}:upd H a o a=some o:=by unfold upd;rw [if_pos rfl]
theorem V8 {H:Hp}{a b:Addr}{o:HO}(h:b≠a):upd H a o b=H b:=by unfold upd;rw [if_neg h]
theorem J3a {H:Hp}{a b:Addr}{o u:HO}(h:H a=some o)(h':H b=some u)(d:o≠u):a≠b:=by
 intro e;subst e;rw [h] at h';exact d (Option.some.inj h')
theorem Y5 {H:Hp}{a b:Addr}{o:HO}(h:H a=some o)(h':H b=none):a≠b:=by
 intro e;subst e;rw [h] at h';cases h'
section
variable (P:Program) (w:World)
def ObjOk (H:Hp)(h:Heap)(a:Addr):HO->Prop
 | .lst xs=>xs.length<=sizeLine/\∃ (its:List Value) (n:Nat),Vals xs its/\h.get? a=some { cls:=.type "list",data:=.seq its.toArray n }
 | .tup xs=>xs.length<=sizeLine/\∃ its:List Value,Vals xs its/\IsTup h a its.toArray
 | .dK kvs=>kvs.length<=sizeLine/\(a==sysModules)=false/\∃ vs,KV kvs vs/\h.DictOf (SN P w) a vs
 | .dT kvs=>kvs.length<=sizeLine/\(a==sysModules)=false/\∃ xs:List (List Key×Addr×Value),
  Paired (fun (p:List Key×V) (q:List Key×Addr×Value)=>p.1=q.1/\H q.2.1=some (.tup (p.1.map kV))/\RelV p.2 q.2.2) kvs xs /\
  ∃ o es ep,h.get? a=some o/\o.ExactDict/\o.data=.dict es ep/\es.toList=xs.map (entryOfKey (tupleKind (SN P w)))/\(xs.map (·.1)).Nodup
 | .set S n=>h.SetOf (intKind P w) a S n
 | .ins C dx fs=>H dx=some (.own a)/\fs.length<=1000/\dx≠a/\h.get? a=some (PySem.W.instObj C dx) /\
  ∃ mA,h.Ns1 dx mA/\(∀ f,Q4w (fs.lookup f) (mA f))/\PySem.Within mA (fs.map (·.1))
 | .own _=>∃ o,h.get? a=some o
 | .xd fs=>∃ mA,h.Ns1 a mA/\∀ f,Q4w (fs.lookup f) (mA f)
 | .rng lo hi=>∃ t u v,h.get? a=some { cls:=.type "range",data:=.fields #[.int lo t,.int hi u,.int 1 v] }
 | .frz o u=>h.get? a=some o/\ObjOk H h a u
 | .tbl ps=>h.get? a=some { cls:=.none,data:=.fields ps }
 | .met f x=>h.get? a=some (PySem.W.methodObj (.ref f) (.ref x))
 | .ext φ=>φ h/\(∃ o,h.get? a=some o)/\∀ h1 h2:Heap,φ h1->(∀ o,h1.get? a=some o->h2.get? a=some o)->φ h2
def HOk (H:Hp)(h:Heap):Prop:=∀ a o,H a=some o->ObjOk P w H h a o
end
section
variable {P:Program}{w:World}{H H':Hp}{h h':Heap}{a:Addr}{o:HO}
theorem ObjOk.lt (x:ObjOk P w H h a o):a<h.objs.size:=by
 cases o with
 | lst xs=>obtain ⟨_,_,_,_,e⟩:=x;exact B4 e
 | tup xs=>obtain ⟨_,_,_,p⟩:=x;exact p.lt
 | dK kvs=>obtain ⟨_,_,_,_,o,_,_,e,_⟩:=x;exact B4 e
 | dT kvs=>obtain ⟨_,_,_,_,o,_,_,e,_⟩:=x;exact B4 e
 | set S n=>obtain ⟨o,_,_,_,e,_⟩:=x;exact B4 e
 | ins C dx fs=>obtain ⟨_,_,_,e,_⟩:=x;exact B4 e
 | own y=>obtain ⟨_,e⟩:=x;exact B4 e
 | xd fs=>obtain ⟨_,⟨_,_,_,e,_⟩,_⟩:=x;exact B4 e
 | rng lo hi=>obtain ⟨_,_,_,e⟩:=x;exact B4 e
 | frz ob u=>obtain ⟨e,_⟩:=x;exact B4 e
 | tbl ps=>exact B4 (show h.get? a=some _ from x)
 | met f y=>exact B4 (show h.get? a=some _ from x)
 | ext φ=>obtain ⟨_,⟨_,e⟩,_⟩:=x;exact B4 e
theorem Paired.mapP {α β:Type}{F G:α->β->Prop}:∀ {l₁:List α} {l₂:List β},Paired F l₁ l₂->(∀ a b,F a b->G a b)->Paired G l₁ l₂
 | _,_,.nil,_=>.nil
 | _,_,.cons r t,f=>.cons (f _ _ r) (Paired.mapP t f)
theorem ObjOk.stay (x:ObjOk P w H h a o)(k:∀ b u,(b=a\/H b=some (.own a))->h.get? b=some u->h'.get? b=some u)
 (ho:∀ b,H b=some (.own a)->H' b=some (.own a)) (ht:∀ b xs,H b=some (.tup xs)->H' b=some (.tup xs)):ObjOk P w H' h' a o:=by
 induction o with
 | lst xs=>obtain ⟨z,its,n,r,e⟩:=x;exact ⟨z,its,n,r,k _ _ (.inl rfl) e⟩
 | tup xs=>obtain ⟨z,its,r,ob,e,c⟩:=x;exact ⟨z,its,r,ob,k _ _ (.inl rfl) e,c⟩
 | dK kvs=>obtain ⟨z,y,vs,r,ob,es,ep,e,c⟩:=x;exact ⟨z,y,vs,r,ob,es,ep,k _ _ (.inl rfl) e,c⟩
 | dT kvs =>
   obtain ⟨z,y,xs,r,ob,es,ep,e,c⟩:=x
   exact ⟨z,y,xs,Paired.mapP r fun p q z=>⟨z.1,ht _ _ z.2.1,z.2.2⟩,ob,es,ep,k _ _ (.inl rfl) e,c⟩
 | set S n=>obtain ⟨ob,es,ep,t,e,c⟩:=x;exact ⟨ob,es,ep,t,k _ _ (.inl rfl) e,c⟩
 | ins C dx fs =>
   obtain ⟨d,z,ne,e,mA,⟨od,es,ep,e2,c⟩,r⟩:=x
   exact ⟨ho _ d,z,ne,k _ _ (.inl rfl) e,mA,⟨od,es,ep,k _ _ (.inr d) e2,c⟩,r⟩
 | own y=>obtain ⟨ob,e⟩:=x;exact ⟨ob,k _ _ (.inl rfl) e⟩
 | xd fs=>obtain ⟨mA,⟨od,es,ep,e,c⟩,r⟩:=x;exact ⟨mA,⟨od,es,ep,k _ _ (.inl rfl) e,c⟩,r⟩
 | rng lo hi=>obtain ⟨t,u,v,e⟩:=x;exact ⟨t,u,v,k _ _ (.inl rfl) e⟩
 | frz ob u ih=>obtain ⟨e,q⟩:=x;exact ⟨k _ _ (.inl rfl) e,ih q⟩
 | tbl ps =>
   have e:h.get? a=some { cls:=.none,data:=.fields ps }:=x
   show h'.get? a=some { cls:=.none,data:=.fields ps }
   exact k a _ (.inl rfl) e
 | met f y =>
   have e:h.get? a=some (PySem.W.methodObj (.ref f) (.ref y)):=x
   show h'.get? a=some (PySem.W.methodObj (.ref f) (.ref y))
   exact k a _ (.inl rfl) e
 | ext φ=>obtain ⟨p,⟨o,e⟩,st⟩:=x;exact ⟨st _ _ p fun o q=>k _ _ (.inl rfl) q,⟨o,k _ _ (.inl rfl) e⟩,st⟩
theorem HOk.lt (x:HOk P w H h)(e:H a=some o):a<h.objs.size:=(x a o e).lt
theorem HOk.fresh (x:HOk P w H h)(e:h.objs.size<=a):H a=none:=by
 cases q:H a with
 | none=>rfl
 | some u=>exact absurd (Nat.lt_of_lt_of_le (x.lt q) e) (Nat.lt_irrefl _)
theorem HOk.kept (x:HOk P w H h)(k:∀ b u,h.get? b=some u->h'.get? b=some u):HOk P w H h':=fun a o e =>
 (x a o e).stay (fun b u _ q=>k b u q) (fun _ q=>q) fun _ _ q=>q
theorem HOk.laid (x:HOk P w H h)(k:∀ b u,h.get? b=some u->h'.get? b=some u)(hp:h.objs.size<=a)(new:ObjOk P w (upd H a o) h' a o):HOk P w (upd H a o) h':=fun b u e=>by
 have hn:=x.fresh hp
 by_cases hb:b=a
 · subst hb;rw [Y3] at e;cases e;exact new
 · rw [V8 hb] at e
   exact (x b u e).stay (fun c v _ q=>k c v q) (fun c q=>by rw [V8 (Y5 q hn)];exact q) fun c xs q=>by rw [V8 (Y5 q hn)];exact q
end
def Rd (H:Hp)(a:Addr)(u:HO):Prop:=H a=some u\/∃ o,H a=some (.frz o u)
theorem Rd.ok {w:World}{H:Hp}{h:Heap}{a:Addr}{u:HO}(r:Rd H a u)(x:HOk P w H h):ObjOk P w H h a u:=by
 rcases r with r|⟨o,r⟩
 · exact x a u r
 · obtain ⟨_,q⟩:=x a _ r
   exact q
def Mut:Option HO->Prop
 | some (.lst _)=>True
 | some (.dK _)=>True
 | some (.dT _)=>True
 | some (.set _ _)=>True
 | some (.ins _ _ _)=>True
 | some (.ext _)=>True
 | _=>False
section
variable {P:Program}{w:World}{H:Hp}{h h':Heap}{x e:Addr}{o':HO}
theorem HOk.write (ok:HOk P w H h)(mu:Mut (H x))(he:e=x\/H e=some (.own x))(k:∀ b u,b≠e->h.get? b=some u->h'.get? b=some u)(heo:∃ u,h'.get? e=some u)
 (new:ObjOk P w (upd H x o') h' x o'):HOk P w (upd H x o') h':=fun b u q=>by
 have nown:∀ c y,H c=some (.own y)->c≠x:=fun c y r z=>by subst z;rw [r] at mu;exact mu
 have ntup:∀ c xs,H c=some (.tup xs)->c≠x:=fun c xs r z=>by subst z;rw [r] at mu;exact mu
 by_cases hb:b=x
 · subst hb;rw [Y3] at q;cases q;exact new
 · rw [V8 hb] at q
   by_cases hbe:b=e
   · have q':H b=some (.own x):=by
      rcases he with z|z
      · exact absurd (hbe.trans z) hb
      · rw [hbe];exact z
     rw [q] at q';cases q'
     obtain ⟨v,hv⟩:=heo
     exact ⟨v,by rw [hbe];exact hv⟩
   · refine (ok b u q).stay (fun c v hc r=>k c v ?_ r) (fun c r=>by rw [V8 (nown c b r)];exact r) fun c xs r=>by rw [V8 (ntup c xs r)];exact r
     rcases hc with rfl|hc
     · exact hbe
     · rintro rfl
       rcases he with z|z
       · exact nown c b hc z
       · rw [hc] at z;cases z;exact hb rfl
end
structure Un (fs ex:List Addr)(H H':Hp)(h h':Heap):Prop where
 keep:∀ b o,h.get? b=some o->H b=none->b∉fs->b∉ex->h'.get? b=some o
 slot:∀ b o,h.get? b=some o->H b=none->b∈fs->b∉ex->∃ sl,h'.get? b=some { o with slots:=sl }
 free:∀ b o,h.get? b=some o->H b=none->b∉ex->H' b=none
 there:∀ b o,h.get? b=some o->b∉ex->∃ o',h'.get? b=some o'
 tups:∀ b xs,H b=some (.tup xs)->H' b=some (.tup xs)
 frzs:∀ b o u,H b=some (.frz o u)->H' b=some (.frz o u)
 tbls:∀ b ps,H b=some (.tbl ps)->∃ more,H' b=some (.tbl (ps++more))
section
variable {fs ex:List Addr}{H H1:Hp}{h h1 h':Heap}{a x e:Addr}{o:HO}
theorem Un.any (u:Un fs ex H H1 h h1){b:Addr}{ob:Obj}(q:h.get? b=some ob)(n:H b=none)(hx:b∉ex):∃ sl,h1.get? b=some { ob with slots:=sl }:=by
 by_cases hb:b∈fs
 · exact u.slot b ob q n hb hx
 · exact ⟨ob.slots,u.keep b ob q n hb hx⟩
theorem Un.kept (k:∀ b u,h.get? b=some u->h'.get? b=some u):Un fs ex H H h h' :=
 ⟨fun b ob q _ _ _=>k b ob q,fun b ob q _ _ _=>⟨ob.slots,k b ob q⟩,fun _ _ _ n _=>n,fun b ob q _=>⟨ob,k b ob q⟩,fun _ _ q=>q,fun _ _ _ q=>q,fun _ ps q=>⟨#[],by rw [q];simp⟩⟩
theorem Un.refl:Un fs ex H H h h:=Un.kept fun _ _ q=>q
theorem Un.laid (k:∀ b u,h.get? b=some u->h'.get? b=some u)(hp:h.objs.size<=a)(hn:H a=none):Un fs ex H (upd H a o) h h' where
 keep:=fun b u q _ _ _=>k b u q
 slot:=fun b u q _ _ _=>⟨u.slots,k b u q⟩
 free:=fun b u q n _=>by rw [V8 (Nat.ne_of_lt (Nat.lt_of_lt_of_le (B4 q) hp))];exact n
 there:=fun b u q _=>⟨u,k b u q⟩
 tups:=fun b xs q=>by rw [V8 (Y5 q hn)];exact q
 frzs:=fun b u xs q=>by rw [V8 (Y5 q hn)];exact q
 tbls:=fun b ps q=>⟨#[],by rw [V8 (Y5 q hn),q];simp⟩
theorem Un.write (mu:Mut (H x))(he:e=x\/H e=some (.own x))(k:∀ b u,b≠e->h.get? b=some u->h'.get? b=some u)(heo:∃ u,h'.get? e=some u):Un fs ex H (upd H x o) h h':=by
 have hx:∀ b,H b=none->b≠x:=fun b n z=>by subst z;rw [n] at mu;exact mu
 have hb:∀ b,H b=none->b≠e:=fun b n z=>by
  subst z
  rcases he with r|r
  · exact hx b n r
  · rw [n] at r;cases r
 have hm:∀ b u,H b=some u->¬ Mut (some u)->b≠x:=fun b u q nm z=>by subst z;rw [q] at mu;exact nm mu
 refine ⟨fun b u q n _ _=>k b u (hb b n) q,fun b u q n _ _=>⟨u.slots,k b u (hb b n) q⟩,fun b u q n _=>by rw [V8 (hx b n)];exact n,fun b u q _=>?_,
  fun b xs q=>by rw [V8 (hm b _ q fun z=>z)];exact q,fun b u xs q=>by rw [V8 (hm b _ q fun z=>z)];exact q,fun b ps q=>⟨#[],by rw [V8 (hm b _ q fun z=>z),q];simp⟩⟩
 by_cases hbe:b=e
 · subst hbe;exact heo
 · exact ⟨u,k b u hbe q⟩
end
def trk (h:Heap)(H:Hp):List Addr:=(List.range h.objs.size).filter fun a=>(H a).isSome
def SR (h:Heap)(H:Hp):Heap:=PySem.W.hideAll h (trk h H)
theorem J0u (h:Heap)(H:Hp):(SR h H).objs.size=h.objs.size:=PySem.W.hideAll_size _ _
theorem J3s {h:Heap}{H:Hp}{b:Addr}{o:Obj}(e:h.get? b=some o)(n:H b=none):(SR h H).get? b=some o :=
 PySem.W.hideAll_get _ e fun hm=>by
  have q:(H b).isSome=true:=(List.mem_filter.mp hm).2
  rw [n] at q;simp at q
theorem J7h {h:Heap}{H:Hp}{b:Addr}{o:Obj}(e:(SR h H).get? b=some o):h.get? b=some o/\H b=none:=by
 have e':h.get? b=some o:=PySem.W.of_hideAll (trk h H) e
 refine ⟨e',?_⟩
 cases q:H b with
 | none=>rfl
 | some x =>
   have hm:b∈trk h H:=List.mem_filter.mpr ⟨List.mem_range.mpr (B4 e'),by simp [q]⟩
   have z:(SR h H).get? b=none:=PySem.W.hideAll_none (trk h H) hm
   rw [z] at e;cases e
def J9k (g h:Heap)(L:Addr):List (Addr×Obj):=(List.range h.objs.size).filterMap fun a=>if a=L\/(g.get? a).isSome=true then none else (h.get? a).map fun o=>(a,o)
def rest (g h:Heap)(L d:Addr):List (Addr×Obj):=(J9k g h L).filter fun p=>decide (p.1≠d)
structure Mod (K:Fg)(mg:Str->Option Value)(base:Heap):Prop where
 kin:K.In base
 glob:base.Ns mainGlobals mg
 blt:∃ mb,base.Ns builtinsNs mb/\∀ x:Str,x≠"__name__"->mb x=bootBuiltins x
 nolimit:base.NoLimit
structure Cx where
 prog:Program
 w:World
 K:Fg
 mg:Str->Option Value
 base:Heap
 A:Around
 N:List Str
 s₀:Shared
 H₀:Hp
 env:Env
 outer:List Env
 stack:List Env
 ex:List Addr
 fn:Str->Bool
 calm:Bool
 pn:List (Addr×Obj)
 xe:Value->Shared->Prop
def frs (l:List Env):List Addr:=l.filterMap (·.frame)
abbrev Cx.fs (X:Cx):List Addr:=frs X.outer
def Vis (sc:Scope)(x:Str):Prop:=sc.names.lookup x=some .local\/sc.names.lookup x=some .cell\/sc.names.lookup x=some .free
def Loc (sc:Scope)(x:Str):Prop:=sc.names.lookup x=some .local\/sc.names.lookup x=some .cell
def V0r (env:Env)(h:Heap)(m:Str->Option Value)(x:Str)(u:Value):Prop :=
 (env.kindOf x=some .local/\m x=some u)\/((env.kindOf x=some .cell\/env.kindOf x=some .free)/\∃ c,env.cells.lookup x=some c/\h.IsCell c (some u))
structure Cx.Ok (X:Cx):Prop where
 mod:Mod X.K X.mg X.base
 kind:X.env.scope.kind=.function
 glob:X.env.globals=mainGlobals
 blt:X.env.builtins=builtinsNs
 above:X.s₀.heap.objs.size<=X.env.locals
 inj:∀ x y c,X.env.cells.lookup x=some c->X.env.cells.lookup y=some c->x=y
 has:∀ x,(X.env.kindOf x=some .cell\/X.env.kindOf x=some .free)->∃ c,X.env.cells.lookup x=some c
 cab:∀ x c,X.fn x=true->X.env.cells.lookup x=some c->X.s₀.heap.objs.size<=c
 hd:X.calm=true->X.A.handled=none
 frames:X.A.frames=some X.stack
 stk:X.stack=X.outer\/(X.stack=X.env::X.outer/\X.env.frame=some X.env.locals)
 exf:∀ b∈X.ex,b≠X.env.locals/\∀ x c,X.env.cells.lookup x=some c->c≠b
 bs:∀ b o,X.base.get? b=some o->X.s₀.heap.get? b=some o/\X.H₀ b=none
 bsz:X.base.objs.size<=X.s₀.heap.objs.size
 noex:∀ b o,X.base.get? b=some o->b∉X.ex
 exfs:∀ b∈X.ex,b∉X.fs
 funs:X.s₀.heap.FunFrames X.base X.outer
 frf:∀ b∈X.fs,X.H₀ b=none
structure Inv (X:Cx)(pins:List (Addr×Obj))(σ:List (Option V))(H:Hp)(s:Shared):Prop where
 ok:X.Ok
 os:s.os=X.s₀.os
 bare:AllBare s.gens
 base:Un X.fs X.ex X.H₀ H X.s₀.heap s.heap
 loc:∃ m,s.heap.Ns X.env.locals m/\∀ (i:Nat) (x:Str) (v:V),X.N[i]?=some x->σ[i]?=some (some v)->Vis X.env.scope x->∃ u,RelV v u/\V0r X.env s.heap m x u
 cell:∀ x c,X.env.cells.lookup x=some c->∃ v,s.heap.IsCell c v
 free:H X.env.locals=none
 freeC:∀ x c,X.env.cells.lookup x=some c->H c=none
 pin:∀ p∈X.pn++pins,s.heap.get? p.1=some p.2/\H p.1=none/\p.1≠X.env.locals/\p.1∉X.fs/\∀ v,p.2.data≠.cell v
 hok:HOk X.prog X.w H s.heap
 len:σ.length=X.N.length
section
variable {X:Cx}{pins:List (Addr×Obj)}{σ:List (Option V)}{H H':Hp}{s:Shared}{h':Heap}
theorem Cx.Ok.nofr (ok:X.Ok){b:Addr}{o:Obj}(e:X.base.get? b=some o):b∉X.fs:=fun hb=>by
 have:=(ok.funs.mem hb).1
 rw [e] at this;cases this
theorem Inv.bs (I:Inv X pins σ H s):∀ b o,X.base.get? b=some o->s.heap.get? b=some o/\H b=none:=fun b o e =>
 ⟨I.base.keep b o (I.ok.bs b o e).1 (I.ok.bs b o e).2 (I.ok.nofr e) (I.ok.noex b o e),I.base.free b o (I.ok.bs b o e).1 (I.ok.bs b o e).2 (I.ok.noex b o e)⟩
theorem Inv.bk (I:Inv X pins σ H s):∀ b o,X.base.get? b=some o->s.heap.get? b=some o:=fun b o e=>(I.bs b o e).1
theorem Inv.mod (I:Inv X pins σ H s):Mod X.K X.mg X.base:=I.ok.mod
theorem Inv.kIn (I:Inv X pins σ H s):X.K.In s.heap:=I.ok.mod.kin.keeps I.bk
theorem Inv.fr (I:Inv X pins σ H s):∃ m,Fr X.base X.env.locals s.heap m :=
 let ⟨m,hn,_⟩:=I.loc
 ⟨m,hn,I.bk,Nat.le_trans I.ok.bsz I.ok.above⟩
theorem Inv.lt (I:Inv X pins σ H s):X.env.locals<s.heap.objs.size:=let ⟨_,hn,_⟩:=I.loc;hn.lt
theorem Inv.sz (I:Inv X pins σ H s):X.s₀.heap.objs.size<=s.heap.objs.size:=Nat.le_trans I.ok.above (Nat.le_of_lt I.lt)
theorem Inv.nofs (I:Inv X pins σ H s){a:Addr}(h:s.heap.objs.size<=a):a∉X.fs:=fun hb=>by
 obtain ⟨_,o,ho,_⟩:=I.ok.funs.mem hb
 exact absurd (Nat.lt_of_lt_of_le (B4 ho) (Nat.le_trans I.sz h)) (Nat.lt_irrefl _)
theorem Inv.cne (I:Inv X pins σ H s):∀ x c,X.env.cells.lookup x=some c->c≠X.env.locals:=fun x c e z=>by
 obtain ⟨v,o,ho,hd⟩:=I.cell x c e
 obtain ⟨m,⟨o',es,ep,ho',hd',_⟩,_⟩:=I.loc
 rw [z,ho'] at ho;cases ho;rw [hd'] at hd;cases hd
theorem Inv.funs (I:Inv X pins σ H s):s.heap.FunFrames X.base X.outer:=by
 have all:∀ (l:List Env),(∀ b∈frs l,b∈X.fs)->X.s₀.heap.FunFrames X.base l->s.heap.FunFrames X.base l:=by
  intro l
  induction l with
  | nil=>intro _ _;trivial
  | cons env r ih =>
    intro hs hl
    obtain ⟨hk,⟨L,o,hf,hn,ho,hd⟩,hr⟩:=hl
    have hL:L∈X.fs:=hs L (by unfold frs;rw [List.filterMap_cons,hf];exact List.mem_cons_self)
    obtain ⟨sl,e⟩:=I.base.slot L o ho (I.ok.frf L hL) hL fun z=>I.ok.exfs L z hL
    exact ⟨hk,⟨L,_,hf,hn,e,hd⟩,ih (fun b hb=>hs b (by unfold frs;rw [List.filterMap_cons,hf];exact List.mem_cons_of_mem _ hb)) hr⟩
 exact all X.outer (fun _ hb=>hb) I.ok.funs
theorem Inv.stack (I:Inv X pins σ H s):s.heap.FunFrames X.base X.stack:=by
 rcases I.ok.stk with e|⟨e,hf⟩
 · rw [e];exact I.funs
 · rw [e]
   obtain ⟨m,hn,_⟩:=I.loc
   refine .cons (by rw [I.ok.kind];decide) hf hn ?_ I.funs
   exact Heap.get?_none_of_le (Nat.le_trans I.ok.bsz I.ok.above)
theorem Inv.stkSub (I:Inv X pins σ H s):∀ b∈frs X.stack,b∈X.env.locals::X.fs:=fun b hb=>by
 rcases I.ok.stk with e|⟨e,hf⟩
 · rw [e] at hb;exact List.mem_cons_of_mem _ hb
 · rw [e] at hb
   unfold frs at hb
   rw [List.filterMap_cons,hf] at hb
   exact hb
theorem Inv.stkFree (I:Inv X pins σ H s):∀ b∈frs X.stack,H b=none:=fun b hb=>by
 rcases List.mem_cons.mp (I.stkSub b hb) with e|hb
 · rw [e];exact I.free
 · obtain ⟨_,o,ho,_⟩:=I.ok.funs.mem hb
   exact I.base.free b o ho (I.ok.frf b hb) fun z=>I.ok.exfs b z hb
theorem Inv.step {g':Array GenState}{t':Nat}{d':Drawn}{ch:List Addr}(I:Inv X pins σ H s)
 (hch:∀ b∈ch,(b∈X.ex\/X.s₀.heap.objs.size<=b)/\b≠X.env.locals/\(∀ x c,X.env.cells.lookup x=some c->c≠b)/\∀ p∈X.pn++pins,p.1≠b)
 (keep:∀ b o,b≠X.env.locals->b∉X.fs->b∉ch->s.heap.get? b=some o->H b=none->h'.get? b=some o)
 (slot:∀ b o,b≠X.env.locals->b∈X.fs->b∉ch->s.heap.get? b=some o->H b=none->∃ sl,h'.get? b=some { o with slots:=sl }) (free:∀ b o,b∉ch->s.heap.get? b=some o->H b=none->H' b=none)
 (there:∀ b o,b∉ch->s.heap.get? b=some o->∃ o',h'.get? b=some o')
 (tups:∀ b xs,H b=some (.tup xs)->H' b=some (.tup xs)) (frzs:∀ b o u,H b=some (.frz o u)->H' b=some (.frz o u)) (tbls:∀ b ps,H b=some (.tbl ps)->∃ more,H' b=some (.tbl (ps++more)))
 (ns:∀ m,s.heap.Ns X.env.locals m->h'.Ns X.env.locals m) (hok:HOk X.prog X.w H' h') (hg:AllBare g') :
 Inv X pins σ H' { s with heap:=h',gens:=g',drawn:=d',toks:=t' }:=by
 have neL:∀ b o,X.s₀.heap.get? b=some o->b≠X.env.locals:=fun b o e=>Nat.ne_of_lt (Nat.lt_of_lt_of_le (B4 e) I.ok.above)
 have neC:∀ b o,X.s₀.heap.get? b=some o->b∉X.ex->b∉ch:=fun b o e hx hb=>by
  rcases (hch b hb).1 with z|z
  · exact hx z
  · exact absurd (Nat.lt_of_lt_of_le (B4 e) z) (Nat.lt_irrefl _)
 have cellK:∀ x c,X.env.cells.lookup x=some c->∀ v,s.heap.IsCell c v->h'.IsCell c v:=fun x c e v ⟨o,ho,hd⟩=>by
  have nch:c∉ch:=fun z=>(hch c z).2.2.1 x c e rfl
  by_cases hc:c∈X.fs
  · obtain ⟨sl,q⟩:=slot c o (I.cne x c e) hc nch ho (I.freeC x c e)
    exact ⟨_,q,hd⟩
  · exact ⟨o,keep c o (I.cne x c e) hc nch ho (I.freeC x c e),hd⟩
 refine ⟨I.ok,I.os,hg,⟨fun b o e n hb hx=>?_,fun b o e n hb hx=>?_,fun b o e n hx=>?_,fun b o e hx=>?_,fun b xs e=>tups b xs (I.base.tups b xs e),fun b o xs e=>frzs b o xs (I.base.frzs b o xs e),fun b ps e=>?_⟩,?_,fun x c e=>?_,?_,fun x c e=>?_,fun p hp=>?_,hok,I.len⟩
 · exact keep b o (neL b o e) hb (neC b o e hx) (I.base.keep b o e n hb hx) (I.base.free b o e n hx)
 · obtain ⟨sl,e1⟩:=I.base.slot b o e n hb hx
   obtain ⟨sl',e2⟩:=slot b _ (neL b o e) hb (neC b o e hx) e1 (I.base.free b o e n hx)
   exact ⟨sl',e2⟩
 · obtain ⟨o',e1⟩:=I.base.there b o e hx
   exact free b o' (neC b o e hx) e1 (I.base.free b o e n hx)
 · obtain ⟨o',e1⟩:=I.base.there b o e hx
   exact there b o' (neC b o e hx) e1
 · obtain ⟨m1,e1⟩:=I.base.tbls b ps e
   obtain ⟨m2,e2⟩:=tbls b _ e1
   exact ⟨m1++m2,by rw [e2,Array.append_assoc]⟩
 · obtain ⟨m,hn,hl⟩:=I.loc
   refine ⟨m,ns m hn,fun i x v e1 e2 e3=>?_⟩
   obtain ⟨u,r,l⟩:=hl i x v e1 e2 e3
   refine ⟨u,r,?_⟩
   rcases l with l|⟨k,c,e,z⟩
   · exact .inl l
   · exact .inr ⟨k,c,e,cellK x c e _ z⟩
 · obtain ⟨v,z⟩:=I.cell x c e
   exact ⟨v,cellK x c e v z⟩
 · obtain ⟨m,⟨o,_,_,ho,_⟩,_⟩:=I.loc
   exact free _ o (fun z=>(hch _ z).2.1 rfl) ho I.free
 · obtain ⟨v,o,ho,hd⟩:=I.cell x c e
   exact free c o (fun z=>(hch c z).2.2.1 x c e rfl) ho (I.freeC x c e)
 · obtain ⟨e,n,ne,nf,d⟩:=I.pin p hp
   have nch:p.1∉ch:=fun z=>(hch p.1 z).2.2.2 p hp rfl
   exact ⟨keep p.1 p.2 ne nf nch e n,free p.1 p.2 nch e n,ne,nf,d⟩
theorem Inv.un {t':Nat}(I:Inv X pins σ H s)(u:Un X.fs [] H H' s.heap h')(hok:HOk X.prog X.w H' h'):Inv X pins σ H' { s with heap:=h',toks:=t' }:=by
 obtain ⟨m,⟨o,es,ep,ho,r⟩,_⟩:=id I.loc
 obtain ⟨sl,hL⟩:=u.any ho I.free (by simp)
 exact I.step (g':=s.gens) (d':=s.drawn) (ch:=[]) (fun _ z=>nomatch z) (fun b o _ hb _ e n=>u.keep b o e n hb (by simp)) (fun b o _ hb _ e n=>u.slot b o e n hb (by simp)) (fun b o _ e n=>u.free b o e n (by simp)) (fun b o _ e=>u.there b o e (by simp)) u.tups u.frzs u.tbls (fun m' hm=>by
  obtain ⟨o',es',ep',ho',r'⟩:=hm
  rw [ho] at ho';cases ho'
  exact ⟨_,es',ep',hL,r'⟩) hok I.bare
theorem Inv.call {g':Array GenState}{t':Nat}{d':Drawn}{ch:List Addr}(I:Inv X pins σ H s)(u:Un (frs X.stack) ch H H' s.heap h')(hok:HOk X.prog X.w H' h')(hg:AllBare g')
 (hch:∀ b∈ch,(b∈X.ex\/X.s₀.heap.objs.size<=b)/\b≠X.env.locals/\(∀ x c,X.env.cells.lookup x=some c->c≠b)/\∀ p∈X.pn++pins,p.1≠b) :
 Inv X pins σ H' { s with heap:=h',gens:=g',drawn:=d',toks:=t' }:=by
 obtain ⟨m,⟨o,es,ep,ho,r⟩,_⟩:=id I.loc
 obtain ⟨sl,hL⟩:=u.any ho I.free fun z=>(hch _ z).2.1 rfl
 exact I.step (ch:=ch) hch (fun b o hL hb hc e n=>u.keep b o e n (fun z=>(List.mem_cons.mp (I.stkSub b z)).elim hL hb) hc) (fun b o _ _ hc e n=>u.any e n hc) (fun b o hc e n=>u.free b o e n hc) (fun b o hc e=>u.there b o e hc) u.tups u.frzs u.tbls (fun m' hm=>by
  obtain ⟨o',es',ep',ho',r'⟩:=hm
  rw [ho] at ho';cases ho'
  exact ⟨_,es',ep',hL,r'⟩) hok hg
theorem Inv.turned {t':Nat}{it:Addr}(I:Inv X pins σ H s)(k:∀ b o,b≠it->s.heap.get? b=some o->h'.get? b=some o)(hn:H it=none)(hL:it≠X.env.locals)
 (h1:it∈X.ex\/X.s₀.heap.objs.size<=it) (h2:∀ x c,X.env.cells.lookup x=some c->c≠it) (h3:∀ p∈X.pn++pins,p.1≠it):Inv X pins σ H { s with heap:=h',toks:=t' }:=by
 have nit:∀ b u,H b=some u->b≠it:=fun b u e z=>by rw [z,hn] at e;cases e
 refine I.step (g':=s.gens) (d':=s.drawn) (ch:=[it]) (fun b hb=>?_) (fun b o _ _ hc e _=>k b o (fun z=>hc (by simp [z])) e) (fun b o _ _ hc e _=>⟨o.slots,k b o (fun z=>hc (by simp [z])) e⟩) (fun _ _ _ _ n=>n)
  (fun b o hc e=>⟨o,k b o (fun z=>hc (by simp [z])) e⟩) (fun _ _ e=>e) (fun _ _ _ e=>e) (fun b ps e=>⟨#[],by rw [e];simp⟩) (fun m hm=>?_) (fun b u e=>?_) I.bare
 · have e:b=it:=by simpa using hb
   subst e
   exact ⟨h1,hL,h2,h3⟩
 · obtain ⟨o,es,ep,ho,r⟩:=hm
   exact ⟨o,es,ep,k _ o (Ne.symm hL) ho,r⟩
 · refine (I.hok b u e).stay (fun c v hc q=>k c v ?_ q) (fun _ q=>q) fun _ _ q=>q
   rcases hc with z|z
   · rw [z];exact nit b u e
   · exact nit c _ z
theorem Inv.tok (I:Inv X pins σ H s)(t:Nat):Inv X pins σ H { s with toks:=t }:=I.un (h':=s.heap) (t':=t) Un.refl I.hok
theorem Inv.kept {t':Nat}(I:Inv X pins σ H s)(k:∀ b u,s.heap.get? b=some u->h'.get? b=some u):Inv X pins σ H { s with heap:=h',toks:=t' }:=I.un (Un.kept k) (I.hok.kept k)
theorem Inv.laid {a:Addr}{o:HO}{t':Nat}(I:Inv X pins σ H s)(k:∀ b u,s.heap.get? b=some u->h'.get? b=some u)(hp:s.heap.objs.size<=a)(new:ObjOk X.prog X.w (upd H a o) h' a o) :
 Inv X pins σ (upd H a o) { s with heap:=h',toks:=t' }:=I.un (Un.laid k hp (I.hok.fresh hp)) (I.hok.laid k hp new)
theorem Inv.write {x e:Addr}{o:HO}{t':Nat}(I:Inv X pins σ H s)(mu:Mut (H x))(he:e=x\/H e=some (.own x))(k:∀ b u,b≠e->s.heap.get? b=some u->h'.get? b=some u)(heo:∃ u,h'.get? e=some u)
 (new:ObjOk X.prog X.w (upd H x o) h' x o):Inv X pins σ (upd H x o) { s with heap:=h',toks:=t' }:=I.un (Un.write mu he k heo) (I.hok.write mu he k heo new)
theorem Inv.weak {σ':List (Option V)}(I:Inv X pins σ H s)(hl:σ'.length=σ.length)(w:∀ (i:Nat) v,σ'[i]?=some (some v)->σ[i]?=some (some v)):Inv X pins σ' H s :=
 ⟨I.ok,I.os,I.bare,I.base,let ⟨m,hn,hl'⟩:=I.loc;⟨m,hn,fun i x v e1 e2 e3=>hl' i x v e1 (w i v e2) e3⟩,I.cell,I.free,I.freeC,I.pin,I.hok,hl.trans I.len⟩
theorem Inv.pins_of {pins':List (Addr×Obj)}(I:Inv X pins σ H s)(h:∀ p∈pins',s.heap.get? p.1=some p.2/\H p.1=none/\p.1≠X.env.locals/\p.1∉X.fs/\∀ v,p.2.data≠.cell v):Inv X pins' σ H s :=
 ⟨I.ok,I.os,I.bare,I.base,I.loc,I.cell,I.free,I.freeC,fun p hp=>(List.mem_append.mp hp).elim (fun z=>I.pin p (List.mem_append_left _ z)) (h p),I.hok,I.len⟩
theorem OS {N:List Str}(hN:N.Nodup){i j:Nat}{x:Str}(a:N[i]?=some x)(b:N[j]?=some x):i=j:=by
 obtain ⟨h1,e1⟩:=List.getElem?_eq_some_iff.mp a
 obtain ⟨h2,e2⟩:=List.getElem?_eq_some_iff.mp b
 exact (List.getElem_inj hN).mp (e1.trans e2.symm)
theorem QR {M:Model}{A:Around}{E:Value->Shared->Prop}{i:Nat}{x:Str}{v:V}{u:Value}{Q:Unit->Shared->Prop}(I:Inv X pins σ H s)(hN:X.N.Nodup)(hi:X.N[i]?=some x)(hx:Loc X.env.scope x)(r:RelV v u)
 (h:∀ s',Inv X pins (σ.set i (some v)) H s'->(∃ a,Heap.SameBut a s.heap s'.heap/\(a=X.env.locals\/X.env.cells.lookup x=some a))->Q () s') (hf:X.fn x=true\/X.env.scope.names.lookup x=some .local:=by first|exact .inl rfl|exact .inr rfl|assumption):wpAny M A (storeName X.env x u) Q E s:=by
 obtain ⟨m,hn,hl⟩:=id I.loc
 have hcls:(X.env.scope.kind==.class||(X.env.scope.kind==.module&&X.env.locals != X.env.globals))=false:=by rw [I.ok.kind];rfl
 have hiσ:i<σ.length:=by rw [I.len];exact (List.getElem?_eq_some_iff.mp hi).1
 have cne:=I.cne
 have tracked:∀ {a:Addr} {h':Heap},(∃ o,s.heap.get? a=some o/\H a=none)->Heap.SameBut a s.heap h'->HOk X.prog X.w H h':=fun {a h'} ha hs b ob e=>by
  obtain ⟨_,_,hfree⟩:=ha
  refine (I.hok b ob e).stay (fun c w' hc q=>(hs.2 c ?_).trans q) (fun _ q=>q) fun _ _ q=>q
  rintro rfl
  rcases hc with rfl|hc
  · rw [hfree] at e;cases e
  · rw [hfree] at hc;cases hc
 rcases hx with hk|hk
 · refine wpAny_storeName_local hk hn (fun h' hn' hs=>?_) hcls
   obtain ⟨oL,_,_,hoL,_⟩:=id hn
   refine h _ ⟨I.ok,I.os,I.bare,⟨fun b o e n hb hx=>?_,fun b o e n hb hx=>?_,I.base.free,fun b o e hx=>?_,I.base.tups,I.base.frzs,I.base.tbls⟩,⟨_,hn',fun j y v' e1 e2 e3=>?_⟩,fun y c e=>?_,I.free,I.freeC,fun p hp=>?_,tracked ⟨oL,hoL,I.free⟩ hs,by simpa using I.len⟩ ⟨_,hs,.inl rfl⟩
   · exact (hs.2 b (Nat.ne_of_lt (Nat.lt_of_lt_of_le (B4 e) I.ok.above))).trans (I.base.keep b o e n hb hx)
   · obtain ⟨sl,e1⟩:=I.base.slot b o e n hb hx
     exact ⟨sl,(hs.2 b (Nat.ne_of_lt (Nat.lt_of_lt_of_le (B4 e) I.ok.above))).trans e1⟩
   · obtain ⟨o',e1⟩:=I.base.there b o e hx
     exact ⟨o',(hs.2 b (Nat.ne_of_lt (Nat.lt_of_lt_of_le (B4 e) I.ok.above))).trans e1⟩
   · by_cases hj:j=i
     · subst hj
       rw [hi] at e1;cases e1
       rw [List.getElem?_set_self hiσ] at e2
       cases e2
       exact ⟨u,r,.inl ⟨hk,by simp⟩⟩
     · rw [List.getElem?_set_ne (Ne.symm hj)] at e2
       obtain ⟨u',r',q⟩:=hl j y v' e1 e2 e3
       refine ⟨u',r',?_⟩
       rcases q with ⟨k,e⟩|⟨k,c,e,z⟩
       · refine .inl ⟨k,?_⟩
         have:y≠x:=fun e=>hj (OS hN e1 (e▸hi))
         simp [this,e]
       · exact .inr ⟨k,c,e,z.sameBut hs (cne y c e)⟩
   · obtain ⟨w',z⟩:=I.cell y c e
     exact ⟨w',z.sameBut hs (cne y c e)⟩
   · obtain ⟨e,n,ne,nf,d⟩:=I.pin p hp
     exact ⟨(hs.2 p.1 ne).trans e,n,ne,nf,d⟩
 · have hfn:X.fn x=true:=by
    rcases hf with z|z
    · exact z
    · rw [z] at hk;cases hk
   obtain ⟨c,hc⟩:=I.ok.has x (.inl hk)
   obtain ⟨w',z⟩:=I.cell x c hc
   refine wpAny_storeName_cell I.ok.kind hk hc z (fun h' hc' hs=>?_)
   obtain ⟨oc,hoc,hocd⟩:=id z
   refine h { s with heap:=h' } ⟨I.ok,I.os,I.bare,⟨fun b o e n hb hx=>?_,fun b o e n hb hx=>?_,I.base.free,fun b o e hx=>?_,I.base.tups,I.base.frzs,I.base.tbls⟩,⟨m,hn.sameBut hs (Ne.symm (cne x c hc)),fun j y v' e1 e2 e3=>?_⟩,fun y c' e=>?_,I.free,I.freeC,fun p hp=>?_,tracked ⟨oc,hoc,I.freeC x c hc⟩ hs,by simpa using I.len⟩ ⟨c,hs,.inr hc⟩
   · exact (hs.2 b (Nat.ne_of_lt (Nat.lt_of_lt_of_le (B4 e) (I.ok.cab x c hfn hc)))).trans (I.base.keep b o e n hb hx)
   · obtain ⟨sl,e1⟩:=I.base.slot b o e n hb hx
     exact ⟨sl,(hs.2 b (Nat.ne_of_lt (Nat.lt_of_lt_of_le (B4 e) (I.ok.cab x c hfn hc)))).trans e1⟩
   · obtain ⟨o',e1⟩:=I.base.there b o e hx
     exact ⟨o',(hs.2 b (Nat.ne_of_lt (Nat.lt_of_lt_of_le (B4 e) (I.ok.cab x c hfn hc)))).trans e1⟩
   · by_cases hj:j=i
     · subst hj
       rw [hi] at e1;cases e1
       rw [List.getElem?_set_self hiσ] at e2
       cases e2
       exact ⟨u,r,.inr ⟨.inl hk,c,hc,hc'⟩⟩
     · rw [List.getElem?_set_ne (Ne.symm hj)] at e2
       obtain ⟨u',r',q⟩:=hl j y v' e1 e2 e3
       refine ⟨u',r',?_⟩
       rcases q with q|⟨k,c',e,z'⟩
       · exact .inl q
       · refine .inr ⟨k,c',e,z'.sameBut hs ?_⟩
         rintro rfl
         exact hj (OS hN e1 (I.ok.inj _ _ _ e hc▸hi))
   · by_cases hcc:c'=c
     · subst hcc;exact ⟨_,hc'⟩
     · obtain ⟨w2,z2⟩:=I.cell y c' e
       exact ⟨w2,z2.sameBut hs hcc⟩
   · obtain ⟨e,n,ne,nf,d⟩:=I.pin p hp
     refine ⟨(hs.2 p.1 ?_).trans e,n,ne,nf,d⟩
     intro q
     rw [q,hoc] at e
     have q':oc=p.2:=Option.some.inj e
     exact d w' (by rw [<- q'];exact hocd)
theorem GL {M:Model}{A:Around}{E:Value->Shared->Prop}{i:Nat}{x:Str}{v:V}{u:Value}{Q:Unit->Shared->Prop}(I:Inv X pins σ H s)(hN:X.N.Nodup)(hi:X.N[i]?=some x)(hx:Loc X.env.scope x)(r:RelV v u)
 (h:∀ s',Inv X pins (σ.set i (some v)) H s'->Q () s') (hf:X.fn x=true\/X.env.scope.names.lookup x=some .local:=by first|exact .inl rfl|exact .inr rfl|assumption):wpAny M A (storeName X.env x u) Q E s :=
 QR I hN hi hx r (fun s' I' _=>h s' I') hf
theorem Inv.call' {s':Shared}{ch:List Addr}(I:Inv X pins σ H s)(ho:s'.os=s.os)(u:Un (frs X.stack) ch H H' s.heap s'.heap)(hok:HOk X.prog X.w H' s'.heap)(hg:AllBare s'.gens)
 (hch:∀ b∈ch,(b∈X.ex\/X.s₀.heap.objs.size<=b)/\b≠X.env.locals/\(∀ x c,X.env.cells.lookup x=some c->c≠b)/\∀ p∈X.pn++pins,p.1≠b):Inv X pins σ H' s':=by
 obtain ⟨h',g',d',t',o'⟩:=s'
 have e:o'=s.os:=ho
 subst e
 exact I.call (g':=g') (t':=t') (d':=d') u hok hg hch
end
abbrev XK:=Value->Option Addr->Hp->Prop
abbrev St:=List (Option V)
abbrev VK:=V->Hp->Prop
abbrev TE:=St->Hp->VK->Prop
abbrev TT:=St->Hp->(Bool->Hp->Prop)->Prop
abbrev TA:=St->Hp->(List V->Hp->Prop)->Prop
structure Ends where
 nx:St->Hp->Prop
 rt:VK
 bk:St->Hp->Prop:=fun _ _=>False
 ct:St->Hp->Prop:=fun _ _=>False
abbrev TS:=Ends->St->Hp->Prop
def EP (X:Cx)(pins:List (Addr×Obj))(σ:St)(Q:VK)(u:Value)(s':Shared):Prop:=∃ v H',Inv X pins σ H' s'/\RelV v u/\Q v H'
def TP (X:Cx)(pins:List (Addr×Obj))(σ:St)(Q:Bool->Hp->Prop)(b:Bool)(s':Shared):Prop:=∃ H',Inv X pins σ H' s'/\Q b H'
def AP (X:Cx)(pins:List (Addr×Obj))(σ:St)(Q:List V->Hp->Prop)(us:List Value)(s':Shared):Prop:=∃ vs H',Inv X pins σ H' s'/\Vals vs us/\Q vs H'
def SP (X:Cx)(pins:List (Addr×Obj))(D:Ends)(f:Flow)(s':Shared):Prop :=
 match f with
 | .next=>∃ σ' H',Inv X pins σ' H' s'/\D.nx σ' H'
 | .brk=>∃ σ' H',Inv X pins σ' H' s'/\D.bk σ' H'
 | .cont=>∃ σ' H',Inv X pins σ' H' s'/\D.ct σ' H'
 | .ret u=>∃ v σ' H',Inv X pins σ' H' s'/\RelV v u/\D.rt v H'
def PE (X:Cx)(e:Expr)(t:TE):Prop :=
 ∀ (pins:List (Addr×Obj)) (s:Shared) (σ:St) (H:Hp) (Q:VK),Inv X pins σ H s->t σ H Q->wpAny (model X.prog X.w) X.A (eval e X.env) (EP X pins σ Q) X.xe s
def PT (X:Cx)(e:Expr)(t:TT):Prop :=
 ∀ (pins:List (Addr×Obj)) (s:Shared) (σ:St) (H:Hp) (Q:Bool->Hp->Prop),Inv X pins σ H s->t σ H Q->wpAny (model X.prog X.w) X.A (isTrue e X.env (eval e X.env)) (TP X pins σ Q) X.xe s
def PW (X:Cx)(e:Expr)(t:TT):Prop :=
 ∀ (whole:Sem Value) (pins:List (Addr×Obj)) (s:Shared) (σ:St) (H:Hp) (Q:Bool->Hp->Prop),Inv X pins σ H s->t σ H Q->wpAny (model X.prog X.w) X.A (isTrue e X.env whole) (TP X pins σ Q) X.xe s
theorem PW.pt {X:Cx}{e:Expr}{t:TT}(h:PW X e t):PT X e t:=h _
def PA (X:Cx)(es:List Expr)(t:TA):Prop :=
 ∀ (pos:Pos) (pins:List (Addr×Obj)) (s:Shared) (σ:St) (H:Hp) (Q:List V->Hp->Prop),Inv X pins σ H s->t σ H Q->wpAny (model X.prog X.w) X.A (spliced (backTo pos (starEach es X.env))) (AP X pins σ Q) X.xe s
def PS (X:Cx)(st:Stmt)(t:TS):Prop :=
 ∀ (pins:List (Addr×Obj)) (s:Shared) (σ:St) (H:Hp) (D:Ends),Inv X pins σ H s->t D σ H->wpAny (model X.prog X.w) X.A (exec st X.env) (SP X pins D) X.xe s
def PSs (X:Cx)(st:List Stmt)(t:TS):Prop :=
 ∀ (pins:List (Addr×Obj)) (s:Shared) (σ:St) (H:Hp) (D:Ends),Inv X pins σ H s->t D σ H->wpAny (model X.prog X.w) X.A (execs st X.env) (SP X pins D) X.xe s
theorem thn {α:Type}{t:Sem α}{Q Q':α->Shared->Prop}{M:Model}{A:Around}{E:Value->Shared->Prop}{s:Shared}(h:wpAny M A t Q E s)(hQ:∀ a s,Q a s->Q' a s):wpAny M A t Q' E s:=wpAny_mono h hQ fun _ _ x=>x
section
variable {X:Cx}
theorem bin {a b:Expr}{ta tb:TE}(ha:PE X a ta)(hb:PE X b tb){pins:List (Addr×Obj)}{s:Shared}{σ:St}{H:Hp}{R:V->V->Hp->Prop}(I:Inv X pins σ H s)(h:ta σ H fun x H1=>tb σ H1 fun y H2=>R x y H2)
 {α:Type} {Q:α->Shared->Prop} {f:Value->Value->Sem α}
 (hf:∀ v u s2 x y H2,Inv X pins σ H2 s2->RelV x v->RelV y u->R x y H2->wpAny (model X.prog X.w) X.A (f v u) Q X.xe s2) :
 wpAny (model X.prog X.w) X.A (eval a X.env) (fun v s₁=>wpAny (model X.prog X.w) X.A (eval b X.env) (fun u s₂=>wpAny (model X.prog X.w) X.A (f v u) Q X.xe s₂) X.xe s₁) X.xe s:=by
 refine thn (ha pins s σ H _ I h) fun v s1 ⟨x,H1,I1,r1,q1⟩=>?_
 refine thn (hb pins s1 σ H1 _ I1 q1) fun u s2 ⟨y,H2,I2,r2,q2⟩=>?_
 exact hf v u s2 x y H2 I2 r1 r2 q2
noncomputable def KG (i:Nat):TE:=fun σ H Q=>∃ v,σ[i]?=some (some v)/\Q v H
noncomputable def tC (v:V):TE:=fun _ H Q=>Q v H
theorem WK {i:Nat}{x:Str}{pos:Pos}(hN:X.N[i]?=some x)(hv:Vis X.env.scope x)(hd:(x==("__debug__" : Str))=false:=by decide) (hcd:(x==("__classdict__" : Str))=false:=by decide):PE X (.Name x pos) (KG i):=by
 intro pins s σ H Q I h
 obtain ⟨v,e,h⟩:=h
 obtain ⟨m,hn,hl⟩:=I.loc
 obtain ⟨u,r,l⟩:=hl i x v hN e hv
 have fin:EP X pins σ Q u s:=⟨v,H,I,r,h⟩
 rcases l with ⟨hk,hm⟩|⟨hk,c,hc,hcell⟩
 · exact wpAny_Name (wpAny_loadName_local I.ok.kind hk hn hm fin) hd
 · rcases hk with hk|hk
   · exact wpAny_Name (wpAny_loadName_cell I.ok.kind hk hc hcell fin) hd
   · exact wpAny_Name (wpAny_loadName_free I.ok.kind hk hc hcell fin hcd) hd
theorem AC {i j pos}:PE X (.Constant (.int i) j pos) (tC (.int i)):=fun _ _ _ H _ I h=>wpAny_Constant_int ⟨.int i,H,I.tok _,⟨_,rfl⟩,h⟩
theorem J9v {b j pos}:PE X (.Constant (.bool b) j pos) (tC (.bl b)):=fun _ _ _ H _ I h=>Constant_bool ⟨.bl b,H,I,rfl,h⟩
theorem Q1y {j pos}:PE X (.Constant .none j pos) (tC .non):=fun _ _ _ H _ I h=>Constant_none ⟨.non,H,I,rfl,h⟩
theorem J2n {x j pos}:PE X (.Constant (.str x) j pos) (tC (.str x)):=fun _ _ _ H _ I h=>Calls.Constant_str ⟨.str x,H,I.tok _,⟨_,rfl⟩,h⟩
def Gl (X:Cx)(x:Str):Prop:=X.env.kindOf x=some .globalImplicit
theorem LA {E:Value->Shared->Prop}{pins:List (Addr×Obj)}{s:Shared}{σ:St}{H:Hp}{x:Str}{u:Value}{pos:Pos}{Q:Value->Shared->Prop}(I:Inv X pins σ H s)(hg:Gl X x)(hm:X.mg x=some u)(h:Q u s)
 (hd:(x==("__debug__" : Str))=false:=by decide):wpAny (model X.prog X.w) X.A (eval (.Name x pos) X.env) Q E s :=
 Calls.Name_function_global I.ok.kind hg (Calls.loadGlobal_global (by rw [I.ok.glob];exact I.mod.glob.keeps I.bk) hm h) hd
theorem IM {E:Value->Shared->Prop}{pins:List (Addr×Obj)}{s:Shared}{σ:St}{H:Hp}{x:Str}{u:Value}{pos:Pos}{Q:Value->Shared->Prop}(I:Inv X pins σ H s)(hg:Gl X x)(hm:X.mg x=none)(hv:bootBuiltins x=some u)(h:Q u s)
 (hn:x≠"__name__":=by decide) (hd:(x==("__debug__" : Str))=false:=by decide):wpAny (model X.prog X.w) X.A (eval (.Name x pos) X.env) Q E s:=by
 obtain ⟨mb,h1,h2⟩:=I.mod.blt
 exact Calls.Name_function_global I.ok.kind hg (Calls.loadGlobal_builtin (by rw [I.ok.glob];exact I.mod.glob.keeps I.bk) hm (by rw [I.ok.blt];exact h1.keeps I.bk) ((h2 x hn).trans hv) h) hd
theorem YI {x:Str}{v:V}{u:Value}{pos:Pos}(hg:Gl X x)(hm:X.mg x=some u)(r:RelV v u)(hd:(x==("__debug__" : Str))=false:=by decide):PE X (.Name x pos) (tC v) :=
 fun _ _ _ H _ I h=>LA I hg hm ⟨v,H,I,r,h⟩ hd
theorem YK {x:Str}{v:V}{u:Value}{pos:Pos}(hg:Gl X x)(hm:X.mg x=none)(hv:bootBuiltins x=some u)(r:RelV v u)(hn:x≠"__name__":=by decide) (hd:(x==("__debug__" : Str))=false:=by decide):PE X (.Name x pos) (tC v) :=
 fun _ _ _ H _ I h=>IM I hg hm hv ⟨v,H,I,r,h⟩ hn hd
def t2I (ta tb:TE)(k:Int->Int->Hp->Prop):St->Hp->Prop:=fun σ H=>ta σ H fun x H1=>tb σ H1 fun y H2=>∃ i j,x=.int i/\y=.int j/\k i j H2
noncomputable def V2y (ta tb:TE):TE:=fun σ H Q=>t2I ta tb (fun i j H2=>Q (.int (i+j)) H2) σ H
noncomputable def V2o (ta tb:TE):TE:=fun σ H Q=>t2I ta tb (fun i j H2=>Q (.int (i - j)) H2) σ H
noncomputable def V2q (ta tb:TE):TE:=fun σ H Q=>t2I ta tb (fun i j H2=>(-(2 ^ 64)<i/\i<2 ^ 64)/\Q (.int (i*j)) H2) σ H
variable {a b:Expr}{ta tb:TE}{pos:Pos}
def PC (X:Cx)(op:CmpOp)(a b:Expr)(t:TE):Prop :=
 ∀ (pins:List (Addr×Obj)) (s:Shared) (σ:St) (H:Hp) (Q:VK),Inv X pins σ H s->t σ H Q ->
  wpAny (model X.prog X.w) X.A (eval a X.env) (fun v s₁=>wpAny (model X.prog X.w) X.A (eval b X.env) (fun u s₂=>wpAny (model X.prog X.w) X.A (compareOp op v u) (EP X pins σ Q) X.xe s₂) X.xe s₁) X.xe s
noncomputable def ZW (p:Int->Int->Bool)(ta tb:TE):TE:=fun σ H Q=>t2I ta tb (fun i j H2=>Q (.bl (p i j)) H2) σ H
noncomputable abbrev tLt:TE->TE->TE:=ZW fun i j=>decide (i<j)
noncomputable abbrev tLe:TE->TE->TE:=ZW fun i j=>decide (i<=j)
noncomputable abbrev tGt:TE->TE->TE:=ZW fun i j=>decide (j<i)
noncomputable abbrev tGe:TE->TE->TE:=ZW fun i j=>decide (j<=i)
noncomputable abbrev V2t:TE->TE->TE:=ZW fun i j=>decide (i=j)
noncomputable abbrev V2p:TE->TE->TE:=ZW fun i j=>!decide (i=j)
noncomputable def V2r (ta:TE):TE:=fun σ H Q=>ta σ H fun x H1=>Q (.bl (decide (x=.non))) H1
noncomputable def V0x (ta:TE):TE:=fun σ H Q=>ta σ H fun x H1=>Q (.bl (!decide (x=.non))) H1
noncomputable def tB (t:TE):TT:=fun σ H Q=>t σ H fun x H1=>∃ c,x=.bl c/\Q c H1
variable {tA tB':TT}{rest:List Expr}
noncomputable def Q5r (t u:TT):TT:=fun σ H Q=>t σ H fun c H1=>if c=true then u σ H1 Q else Q false H1
noncomputable def tOr (t u:TT):TT:=fun σ H Q=>t σ H fun c H1=>if c=true then Q true H1 else u σ H1 Q
noncomputable def Q8q (t:TT):TT:=fun σ H Q=>t σ H fun c H1=>Q (!c) H1
theorem J6v (ha:PT X a tA):PW X (.BoolOp .And [a] pos) tA:=by
 intro wh pins s σ H Q I h
 refine isTrue_and (thn (ha pins s σ H Q I h) fun c s1 e=>?_)
 cases c with
 | true=>exact isTrue_and_nil e
 | false=>exact e
theorem Q1p (ha:PT X a tA):PW X (.BoolOp .Or [a] pos) tA:=by
 intro wh pins s σ H Q I h
 refine isTrue_or (thn (ha pins s σ H Q I h) fun c s1 e=>?_)
 cases c with
 | false=>exact isTrue_or_nil e
 | true=>exact e
theorem Q1q (ha:PT X a tA)(hb:PW X (.BoolOp .And (b::rest) pos) tB'):PW X (.BoolOp .And (a::b::rest) pos) (Q5r tA tB'):=by
 intro wh pins s σ H Q I h
 refine isTrue_and (thn (ha pins s σ H _ I h) fun c s1 ⟨H1,I1,q1⟩=>?_)
 cases c with
 | true=>exact hb wh pins s1 σ H1 Q I1 q1
 | false=>exact ⟨H1,I1,q1⟩
theorem Q5z (ha:PT X a tA)(hb:PW X (.BoolOp .Or (b::rest) pos) tB'):PW X (.BoolOp .Or (a::b::rest) pos) (tOr tA tB'):=by
 intro wh pins s σ H Q I h
 refine isTrue_or (thn (ha pins s σ H _ I h) fun c s1 ⟨H1,I1,q1⟩=>?_)
 cases c with
 | true=>exact ⟨H1,I1,q1⟩
 | false=>exact hb wh pins s1 σ H1 Q I1 q1
theorem Q1s (ha:PT X a tA):PT X (.UnaryOp .Not a pos) (Q8q tA):=by
 intro pins s σ H Q I h
 exact isTrue_not (ha pins s σ H (fun c H1=>Q (!c) H1) I h)
noncomputable def Q5q (ta tb:TE):TE:=fun σ H Q=>ta σ H fun x H1=>∃ c,x=.bl c/\if c=true then tb σ H1 Q else Q (.bl false) H1
noncomputable def Q8p (ta tb:TE):TE:=fun σ H Q=>ta σ H fun x H1=>∃ c,x=.bl c/\if c=true then Q (.bl true) H1 else tb σ H1 Q
noncomputable def Q5n (ta:TE):TE:=fun σ H Q=>ta σ H fun x H1=>∃ c,x=.bl c/\Q (.bl (!c)) H1
theorem WN {op}{t:TE}(h:PE X a t):PE X (.BoolOp op [a] pos) t:=fun pins s σ H Q I hw=>BoolOp_one (h pins s σ H Q I hw)
theorem RZ (ha:PE X a ta)(hb:PE X (.BoolOp .And (b::rest) pos) tb):PE X (.BoolOp .And (a::b::rest) pos) (Q5q ta tb):=by
 intro pins s σ H Q I h
 refine BoolOp_and (thn (ha pins s σ H _ I h) fun v s1 ⟨x,H1,I1,r1,q1⟩=>?_)
 obtain ⟨c,rfl,q1⟩:=q1
 cases r1
 refine wpAny_truthy_bool ?_
 cases c with
 | true=>exact hb pins s1 σ H1 Q I1 q1
 | false=>exact ⟨.bl false,H1,I1,rfl,q1⟩
theorem Q6b (ha:PE X a ta)(hb:PE X (.BoolOp .Or (b::rest) pos) tb):PE X (.BoolOp .Or (a::b::rest) pos) (Q8p ta tb):=by
 intro pins s σ H Q I h
 refine BoolOp_or (thn (ha pins s σ H _ I h) fun v s1 ⟨x,H1,I1,r1,q1⟩=>?_)
 obtain ⟨c,rfl,q1⟩:=q1
 cases r1
 refine wpAny_truthy_bool ?_
 cases c with
 | false=>exact hb pins s1 σ H1 Q I1 q1
 | true=>exact ⟨.bl true,H1,I1,rfl,q1⟩
theorem Q1x (ha:PE X a ta):PE X (.UnaryOp .Not a pos) (Q5n ta):=by
 intro pins s σ H Q I h
 refine UnaryOp_ (thn (ha pins s σ H _ I h) fun v s1 ⟨x,H1,I1,r1,q1⟩=>?_)
 obtain ⟨c,rfl,q1⟩:=q1
 cases r1
 exact not_of (wpAny_truthy_bool ⟨.bl (!c),H1,I1,rfl,q1⟩)
noncomputable def tIf (t:TT)(ta tb:TE):TE:=fun σ H Q=>t σ H fun c H1=>if c=true then ta σ H1 Q else tb σ H1 Q
theorem J2p {c:Expr}(hc:PT X c tA)(ha:PE X a ta)(hb:PE X b tb):PE X (.IfExp c a b pos) (tIf tA ta tb):=by
 intro pins s σ H Q I h
 refine wpAny_IfExp (thn (hc pins s σ H _ I h) fun d s1 ⟨H1,I1,q1⟩=>?_)
 cases d with
 | true=>exact ha pins s1 σ H1 Q I1 q1
 | false=>exact hb pins s1 σ H1 Q I1 q1
end
def SqL (K:Fg)(H:Hp)(a:Addr)(xs:List V):Prop :=
 Rd H a (.lst xs) \/
  ∃ (o:Obj) (its:Array Value) (n:Nat),K.lookup a=some o/\o.cls=.type "list"/\o.dict=none/\o.data=.seq its n/\its.size<=sizeLine/\Vals xs its.toList
def SqT (K:Fg)(H:Hp)(a:Addr)(xs:List V):Prop :=
 Rd H a (.tup xs) \/
  ∃ (o:Obj) (its:Array Value) (n:Nat),K.lookup a=some o/\o.cls=.type "tuple"/\o.data=.seq its n/\its.size<=sizeLine/\Vals xs its.toList
def V0m:Value->Option V
 | .none=>some .non
 | .bool b=>some (.bl b)
 | .int i _=>some (.int i)
 | .str x _=>some (.str x)
 | .bytes b _=>some (.byt b)
 | .float b _=>some (.flt b)
 | .ref a=>some (.ref a)
 | .type n=>some (.ty n)
 | _=>none
theorem RelV.abs {x:V}{u:Value}(r:RelV x u):V0m u=some x:=by
 cases x with
 | non=>cases r;rfl
 | bl _=>cases r;rfl
 | int _=>obtain ⟨t,rfl⟩:=r;rfl
 | str _=>obtain ⟨t,rfl⟩:=r;rfl
 | byt _=>obtain ⟨t,rfl⟩:=r;rfl
 | flt _=>obtain ⟨t,rfl⟩:=r;rfl
 | ref _=>cases r;rfl
 | ty _=>cases r;rfl
theorem RelV.inj {x y:V}{u:Value}(r:RelV x u)(q:RelV y u):x=y:=Option.some.inj (r.abs.symm.trans q.abs)
theorem Vals.inj:∀ {xs ys:List V} {us:List Value},Vals xs us->Vals ys us->xs=ys
 | _,_,_,.nil,.nil=>rfl
 | _,_,_,.cons r t,.cons r' t'=>by rw [r.inj r',Vals.inj t t']
section
variable {X:Cx}{pins:List (Addr×Obj)}{σ:St}{H:Hp}{s:Shared}{a:Addr}{xs ys:List V}
theorem SqL.of (h:H a=some (.lst xs)):SqL K H a xs:=.inl (.inl h)
theorem SqT.of (h:H a=some (.tup xs)):SqT K H a xs:=.inl (.inl h)
theorem Inv.list (I:Inv X pins σ H s)(h:SqL X.K H a xs):∃ its:List Value,Vals xs its/\PlainL s.heap a its.toArray/\xs.length<=sizeLine:=by
 rcases h with h|⟨o,its,n,hk,hc,hd,hs,hz,r⟩
 · obtain ⟨z,its,n,r,e⟩:=h.ok I.hok
   exact ⟨its,r,⟨_,n,e,rfl,rfl,rfl⟩,z⟩
 · refine ⟨its.toList,r,⟨o,n,I.kIn a o hk,hc,hd,by simpa using hs⟩,?_⟩
   have e:=r.length
   simp only [Array.length_toList] at e
   omega
theorem Inv.tuple (I:Inv X pins σ H s)(h:SqT X.K H a xs):∃ its:List Value,Vals xs its/\IsTup s.heap a its.toArray/\xs.length<=sizeLine:=by
 rcases h with h|⟨o,its,n,hk,hc,hs,hz,r⟩
 · obtain ⟨z,its,r,p⟩:=h.ok I.hok
   exact ⟨its,r,p,z⟩
 · refine ⟨its.toList,r,⟨o,I.kIn a o hk,hc,n,by simpa using hs⟩,?_⟩
   have e:=r.length
   simp only [Array.length_toList] at e
   omega
theorem Inv.list_inj (I:Inv X pins σ H s)(h:SqL X.K H a xs)(h':SqL X.K H a ys):xs=ys:=by
 obtain ⟨its,r,⟨o,n,e,_,_,d⟩,_⟩:=I.list h
 obtain ⟨its',r',⟨o',n',e',_,_,d'⟩,_⟩:=I.list h'
 rw [e] at e';cases e'
 rw [d] at d'
 injection d' with d1 _
 have:its=its':=by simpa using congrArg Array.toList d1
 subst this
 exact r.inj r'
theorem Inv.tuple_inj (I:Inv X pins σ H s)(h:SqT X.K H a xs)(h':SqT X.K H a ys):xs=ys:=by
 obtain ⟨its,r,⟨o,e,_,n,d⟩,_⟩:=I.tuple h
 obtain ⟨its',r',⟨o',e',_,n',d'⟩,_⟩:=I.tuple h'
 rw [e] at e';cases e'
 rw [d] at d'
 injection d' with d1 _
 have:its=its':=by simpa using congrArg Array.toList d1
 subst this
 exact r.inj r'
end
abbrev Cx.wish (X:Cx)(E:Value->Shared->Prop):Cx:={ X with xe:=E }
abbrev Cx.nox (X:Cx):Cx:=X.wish fun _ _=>False
theorem Cx.Ok.wish {X:Cx}(ok:X.Ok)(E:Value->Shared->Prop):(X.wish E).Ok :=
 ⟨ok.mod,ok.kind,ok.glob,ok.blt,ok.above,ok.inj,ok.has,ok.cab,ok.hd,ok.frames,ok.stk,ok.exf,ok.bs,ok.bsz,ok.noex,ok.exfs,ok.funs,ok.frf⟩
theorem Cx.Ok.unwish {X:Cx}{E:Value->Shared->Prop}(ok:(X.wish E).Ok):X.Ok :=
 ⟨ok.mod,ok.kind,ok.glob,ok.blt,ok.above,ok.inj,ok.has,ok.cab,ok.hd,ok.frames,ok.stk,ok.exf,ok.bs,ok.bsz,ok.noex,ok.exfs,ok.funs,ok.frf⟩
section
variable {X:Cx}{pins:List (Addr×Obj)}{σ:St}{H:Hp}{s:Shared}{E:Value->Shared->Prop}
theorem Inv.wish (I:Inv X pins σ H s)(E:Value->Shared->Prop):Inv (X.wish E) pins σ H s:=⟨I.ok.wish E,I.os,I.bare,I.base,I.loc,I.cell,I.free,I.freeC,I.pin,I.hok,I.len⟩
theorem Inv.unwish (I:Inv (X.wish E) pins σ H s):Inv X pins σ H s:=⟨I.ok.unwish,I.os,I.bare,I.base,I.loc,I.cell,I.free,I.freeC,I.pin,I.hok,I.len⟩
theorem SP.unwish {D:Ends}{f:Flow}{s':Shared}(h:SP (X.wish E) pins D f s'):SP X pins D f s':=by
 cases f with
 | next=>obtain ⟨σ',H',I,q⟩:=h;exact ⟨σ',H',I.unwish,q⟩
 | brk=>obtain ⟨σ',H',I,q⟩:=h;exact ⟨σ',H',I.unwish,q⟩
 | cont=>obtain ⟨σ',H',I,q⟩:=h;exact ⟨σ',H',I.unwish,q⟩
 | ret u=>obtain ⟨v,σ',H',I,r,q⟩:=h;exact ⟨v,σ',H',I.unwish,r,q⟩
theorem PSs.nox {st:List Stmt}{t:TS}(h:PSs X.nox st t):PSs X st t:=fun pins s σ H D I hw =>
 wpAny_mono (h pins s σ H D (I.wish _) hw) (fun _ _ q=>q.unwish) fun _ _ z=>False.elim z
end
section
variable {X:Cx}{st:Stmt}{rest:List Stmt}{t u:TS}{e:Expr}{te:TE}{pos:Pos}
noncomputable def Q5o:TS:=fun D σ H=>D.nx σ H
noncomputable def Q8n (t u:TS):TS:=fun D σ H=>t { D with nx:=u D } σ H
theorem NK:PSs X [] Q5o:=fun _ _ σ H _ I h=>wpAny_execs_nil ⟨σ,H,I,h⟩
theorem AQ (h1:PS X st t)(h2:PSs X rest u):PSs X (st::rest) (Q8n t u):=by
 intro pins s σ H D I h
 refine wpAny_execs_cons (thn (h1 pins s σ H { D with nx:=u D } I h) fun f s1 q=>?_)
 cases f with
 | next =>
   obtain ⟨σ',H',I',q⟩:=q
   exact h2 pins s1 σ' H' D I' q
 | ret v=>exact q
 | brk=>exact q
 | cont=>exact q
theorem EC (h1:PS X st t):PSs X [st] t:=by
 intro pins s σ H D I h
 refine wpAny_execs_cons (thn (h1 pins s σ H D I h) fun f s1 q=>?_)
 cases f with
 | next=>exact wpAny_execs_nil q
 | ret v=>exact q
 | brk=>exact q
 | cont=>exact q
noncomputable def Q9c:TS:=fun D σ H=>D.bk σ H
noncomputable def V1c:TS:=fun D σ H=>D.ct σ H
theorem Inv.quiet {pins:List (Addr×Obj)}{σ:St}{H:Hp}{s:Shared}(I:Inv X pins σ H s):interactive X.env=false:=by simp [interactive,I.ok.kind]
noncomputable def XZ (te:TE):TS:=fun D σ H=>te σ H fun _ H1=>D.nx σ H1
theorem HJ (he:PE X e te)(hs:swapsWith e none pos.line X.env=pure false:=by rfl):PS X (.Expr e pos) (XZ te):=by
 intro pins s σ H D I h
 exact wpAny_Expr_any (thn (he pins s σ H _ I h) fun v s1 ⟨x,H1,I1,r1,q1⟩=>⟨σ,H1,I1,q1⟩) I.quiet hs
noncomputable def Q8o (te:TE):TS:=fun D σ H=>te σ H D.rt
theorem GG (he:PE X e te):PS X (.Return (some e) pos) (Q8o te):=by
 intro pins s σ H D I h
 exact wpAny_Return_some (thn (he pins s σ H _ I h) fun v s1 ⟨x,H1,I1,r1,q1⟩=>⟨x,σ,H1,I1,r1,q1⟩)
noncomputable def V0w:TS:=fun D _ H=>D.rt .non H
noncomputable def Q8s (c:TT)(t u:TS):TS:=fun D σ H=>c σ H fun b H1=>if b=true then t D σ H1 else u D σ H1
theorem YF {c:Expr}{a b:List Stmt}{tc:TT}(hc:PT X c tc)(ha:PSs X a t)(hb:PSs X b u):PS X (.If c a b pos) (Q8s tc t u):=by
 intro pins s σ H D I h
 refine wpAny_If (thn (hc pins s σ H _ I h) fun d s1 ⟨H1,I1,q1⟩=>?_)
 cases d with
 | true=>exact ha pins s1 σ H1 D I1 q1
 | false=>exact hb pins s1 σ H1 D I1 q1
noncomputable def Q1e:TS:=fun _ _ _=>False
theorem J2k:PS X st Q1e:=fun _ _ _ _ _ _ h=>h.elim
end
abbrev TG:=V->St->Hp->(St->Hp->Prop)->Prop
abbrev TGs:=List V->St->Hp->(St->Hp->Prop)->Prop
def PG (X:Cx)(target:Expr)(t:TG):Prop :=
 ∀ (pins:List (Addr×Obj)) (s:Shared) (σ:St) (H:Hp) (v:V) (u:Value) (Q:St->Hp->Prop),Inv X pins σ H s->RelV v u->t v σ H Q ->
  wpAny (model X.prog X.w) X.A (assign target X.env u) (fun _ s'=>∃ σ' H',Inv X pins σ' H' s'/\Q σ' H') X.xe s
def PGs (X:Cx)(ts:List Expr)(t:TGs):Prop :=
 ∀ (pins:List (Addr×Obj)) (s:Shared) (σ:St) (H:Hp) (vs:List V) (us:List Value) (Q:St->Hp->Prop),Inv X pins σ H s->Vals vs us->t vs σ H Q ->
  wpAny (model X.prog X.w) X.A (assignInOrder ((assignEach ts X.env).map (·.2)) us) (fun _ s'=>∃ σ' H',Inv X pins σ' H' s'/\Q σ' H') X.xe s
abbrev J9m:=V->V->V->Hp->(Hp->Prop)->Prop
def Q7w (X:Cx)(t:J9m):Prop :=
 ∀ (pins:List (Addr×Obj)) (s:Shared) (σ:St) (H:Hp) (o i v:V) (ov iv u:Value) (Q:Hp->Prop),Inv X pins σ H s->RelV o ov->RelV i iv->RelV v u->t o i v H Q ->
  wpAny (model X.prog X.w) X.A (setItem ov iv u) (fun _ s'=>∃ H',Inv X pins σ H' s'/\Q H') X.xe s
abbrev TIp:=V->V->Hp->VK->Prop
def PIp (X:Cx)(op:Operator)(t:TIp):Prop :=
 ∀ (pins:List (Addr×Obj)) (s:Shared) (σ:St) (H:Hp) (x y:V) (v u:Value) (Q:VK),Inv X pins σ H s->RelV x v->RelV y u->t x y H Q ->
  wpAny (model X.prog X.w) X.A (inplaceOp op v u) (EP X pins σ Q) X.xe s
section
variable {X:Cx}{pos:Pos}
noncomputable def UZ (i:Nat):TG:=fun v σ H Q=>Q (σ.set i (some v)) H
theorem pg_name {i:Nat} {x:Str} (hN:X.N.Nodup) (hi:X.N[i]?=some x) (hx:Loc X.env.scope x) (hf:X.fn x=true\/X.env.scope.names.lookup x=some .local:=by first|exact .inl rfl|exact .inr rfl|assumption):PG X (.Name x pos) (UZ i):=by
 intro pins s σ H v u Q I r h
 exact wpAny_assign_Name (GL I hN hi hx r (fun s' I'=>⟨_,H,I',h⟩) hf)
noncomputable def Q6s:TGs:=fun vs σ H Q=>vs=[]/\Q σ H
noncomputable def Q0c (t:TG)(u:TGs):TGs:=fun vs σ H Q=>∃ v r,vs=v::r/\t v σ H fun σ' H'=>u r σ' H' Q
theorem V3:PGs X [] Q6s:=by
 intro pins s σ H vs us Q I r h
 obtain ⟨e,h⟩:=h
 subst e
 cases r
 exact assignInOrder_nil ⟨σ,H,I,h⟩
theorem J5 {e:Expr}{es:List Expr}{t:TG}{u:TGs}(h1:PG X e t)(h2:PGs X es u)
 (hs:(assignEach (e::es) X.env).map (·.2)=assign e X.env::(assignEach es X.env).map (·.2):=by rfl):PGs X (e::es) (Q0c t u):=by
 intro pins s σ H vs us Q I r h
 obtain ⟨v,vr,e1,h⟩:=h
 subst e1
 cases r with
 | cons r rr =>
   rw [hs]
   refine assignInOrder_cons (thn (h1 pins s σ H _ _ _ I r h) fun _ s1 ⟨σ1,H1,I1,q1⟩=>?_)
   exact h2 pins s1 σ1 H1 _ _ Q I1 rr q1
noncomputable def Q2y (K:Fg)(n:Nat)(t:TGs):TG:=fun v σ H Q=>∃ a xs,v=.ref a/\SqT K H a xs/\xs.length=n/\t xs σ H Q
theorem Q1v {es:List Expr}{k:Nat}{t:TGs}{n:Nat}(hc:X.calm=true)(h:PGs X es t)
 (hn:(assignEach es X.env).length=n:=by rfl) (hst:(assignEach es X.env).findIdx? (·.1)=none:=by rfl):PG X (.Tuple es k pos) (Q2y X.K n t):=by
 intro pins s σ H v u Q I r hw
 obtain ⟨a,xs,e1,hq,hl,hw⟩:=hw
 subst e1
 cases r
 obtain ⟨its,rv,ht,hz⟩:=I.tuple hq
 refine assign_Tuple_tuple (I.ok.hd hc) ht (by simp [hn,<- hl,rv.length]) hst fun h' hx=>?_
 have I1:Inv X pins σ H { s with heap:=h' }:=I.kept (t':=s.toks) fun b o e=>hx b o (Nat.ne_of_lt (B4 e)) e
 exact h pins _ σ H xs _ Q I1 (by simpa using rv) hw
noncomputable def Q9t (to ti:TE)(t:J9m):TG:=fun v σ H Q=>to σ H fun o H1=>ti σ H1 fun i H2=>t o i v H2 fun H3=>Q σ H3
theorem J2m {o i:Expr}{to ti:TE}{t:J9m}(ho:PE X o to)(hi:PE X i ti)(hs:Q7w X t)
 (ha:∀ v,assign (.Subscript o i pos) X.env v=(do
  let ov <- holding [v] (eval o X.env)
  let iv <- holding [v,ov] (eval i X.env)
  standAt pos
  holding [v,ov,iv] (setItem ov iv v)
  release [v,ov,iv] []):=by intro _;rfl):PG X (.Subscript o i pos) (Q9t to ti t):=by
 intro pins s σ H v u Q I r h
 rw [ha]
 refine B0 (wpAny_holding (thn (ho pins s σ H _ I h) fun ov s1 ⟨x,H1,I1,r1,q1⟩=>?_))
 refine B0 (wpAny_holding (thn (hi pins s1 σ H1 _ I1 q1) fun iv s2 ⟨y,H2,I2,r2,q2⟩=>?_))
 refine B0 (wpAny_standAt (B0 (wpAny_holding (thn (hs pins s2 σ H2 x y v ov iv u _ I2 r1 r2 r q2) fun _ s3 ⟨H3,I3,q3⟩=>?_))))
 exact wpAny_release ⟨σ,H3,I3,q3⟩
noncomputable def J6o (te:TE)(g:TG):TS:=fun D σ H=>te σ H fun x H1=>g x σ H1 D.nx
theorem RU {tg e:Expr}{te:TE}{g:TG}(he:PE X e te)(hg:PG X tg g)(hs:swapsWithSole [tg] e pos.line X.env=pure false:=by rfl)(hw:swappedStores [tg] e X.env=pure none:=by rfl)
 (h1:(assignEach [tg] X.env).map (·.2)=[assign tg X.env]:=by rfl):PS X (.Assign [tg] e pos) (J6o te g):=by
 intro pins s σ H D I h
 refine wpAny_Assign_stores (thn (he pins s σ H _ I h) fun v s1 ⟨x,H1,I1,r1,q1⟩=>?_) hs hw
 rw [h1]
 exact thn (hg pins s1 σ H1 x v _ I1 r1 q1) fun _ s2 q=>q
theorem CK {i:Nat} {x:Str} {e:Expr} {te:TE} {pos':Pos} (hN:X.N.Nodup) (hi:X.N[i]?=some x) (hx:Loc X.env.scope x) (he:PE X e te) (hs:swapsWith e (some (.Name x pos')) pos.line X.env=pure false:=by rfl) (hf:X.fn x=true\/X.env.scope.names.lookup x=some .local:=by first|exact .inl rfl|exact .inr rfl|assumption) :
 PS X (.Assign [.Name x pos'] e pos) (J6o te (UZ i)):=by
 intro pins s σ H D I h
 refine wpAny_Assign_Name (thn (he pins s σ H _ I h) fun v s1 ⟨y,H1,I1,r1,q1⟩=>?_) hs
 exact GL I1 hN hi hx r1 (fun s2 I2=>⟨_,H1,I2,q1⟩) hf
noncomputable def Q5m (i j:Nat)(ta:TA):TS:=fun D σ H=>ta σ H fun vs H1=>∃ v w,vs=[v,w]/\D.nx ((σ.set i (some v)).set j (some w)) H1
theorem J2j {i j:Nat}{x y:Str}{a b:Expr}{ta:TA}{px py pt:Pos}{kt k2 pt2}(hc:X.calm=true)(hN:X.N.Nodup)(hi:X.N[i]?=some x)(hj:X.N[j]?=some y)(hij:i≠j)
 (hx:X.env.scope.names.lookup x=some .local) (hy:X.env.scope.names.lookup y=some .local) (ha:PA X [a,b] ta)
 (hw:swappedStores [.Tuple [.Name x px,.Name y py] kt pt] (.Tuple [a,b] k2 pt2) X.env=pure (some [x,y]))
 (hs:swapsWithSole [.Tuple [.Name x px,.Name y py] kt pt] (.Tuple [a,b] k2 pt2) pos.line X.env=pure false:=by rfl) :
 PS X (.Assign [.Tuple [.Name x px,.Name y py] kt pt] (.Tuple [a,b] k2 pt2) pos) (Q5m i j ta):=by
 intro pins s σ H D I h
 rw [exec_Assign_arm]
 refine B0 (wpAny_standAt ?_)
 rw [hs]
 refine B0 (B1 ?_)
 rw [if_neg (by decide)]
 refine B0 (Tuple_ (thn (ha _ pins s σ H _ I h) fun us s1 ⟨vs,H1,I1,r1,q1⟩=>?_))
 obtain ⟨v,w,e1,q1⟩:=q1
 subst e1
 obtain ⟨u1,u2,rfl,rv,rw'⟩:∃ u1 u2,us=[u1,u2]/\RelV v u1/\RelV w u2:=by
  cases r1 with
  | cons p q =>
    cases q with
    | cons p' q' =>
      cases q'
      exact ⟨_,_,rfl,p,p'⟩
 refine wpAny_newObj_type ?_ (by show 2<=sizeLine;decide)
 have I2:Inv X pins σ H1 { s1 with heap:=s1.heap.push { cls:=.type "tuple",data:=.seq [u1,u2].toArray } }:=I1.kept (t':=s1.toks) fun b o e=>B3 _ e
 rw [hw]
 refine B0 (B1 ?_)
 show wpAny (model X.prog X.w) X.A (do rule "assign.swapped-stores";let items <- unpackItems (.ref s1.heap.objs.size) 2 none;assignInOrder [fun v=>bindName X.env y v,fun v=>bindName X.env x v] items.reverse;pure Flow.next) _ _ _
 refine B0 (wpAny_rule (B0 (unpackItems_tuple (items:=#[u1,u2]) (I.ok.hd hc) (IsTup.new s1.heap _) fun h' hx'=>?_)))
 have I3:=I2.kept (h':=h') (t':=s1.toks) fun b o e=>hx' b o (Nat.ne_of_lt (B4 e)) e
 show wpAny _ _ (assignInOrder [fun v=>bindName X.env y v,fun v=>bindName X.env x v] [u2,u1] >>= fun _=>pure Flow.next) _ _ _
 refine B0 (assignInOrder_cons (wpAny_bindName (GL I3 hN hj (.inl hy) rw' (fun s2 I4=>?_) (.inr hy))))
 refine assignInOrder_cons (wpAny_bindName (GL I4 hN hi (.inl hx) rv (fun s3 I5=>assignInOrder_nil (B1 ?_)) (.inr hx)))
 rw [List.set_comm _ _ (Ne.symm hij)] at I5
 exact ⟨_,H1,I5,q1⟩
noncomputable def V2x (i:Nat)(te:TE)(ti:TIp):TS:=fun D σ H=>∃ x,σ[i]?=some (some x)/\te σ H fun y H1=>ti x y H1 fun z H2=>D.nx (σ.set i (some z)) H2
noncomputable def V1d (to ti te:TE)(tget:V->V->Hp->VK->Prop)(tip:TIp)(tset:J9m):TS:=fun D σ H=>to σ H fun o H1=>ti σ H1 fun i H2=>tget o i H2 fun x H3=>te σ H3 fun y H4=>tip x y H4 fun z H5=>tset o i z H5 fun H6=>D.nx σ H6
def V3u (X:Cx)(t:V->V->Hp->VK->Prop):Prop :=
 ∀ (pins:List (Addr×Obj)) (s:Shared) (σ:St) (H:Hp) (o i:V) (ov iv:Value) (Q:VK),Inv X pins σ H s->RelV o ov->RelV i iv->t o i H Q ->
  wpAny (model X.prog X.w) X.A (getItem ov iv) (EP X pins σ Q) X.xe s
def ipI (f:Int->Int->Int):TIp:=fun x y H Q=>∃ i j,x=.int i/\y=.int j/\Q (.int (f i j)) H
end
section
variable {X:Cx}{pos:Pos}
noncomputable def VX (c:TT)(tb:TS):TS:=fun D σ H=>∃ W:Nat->St->Hp->Prop,(∃ m,W m σ H)/\∀ m σ H,W m σ H ->
 c σ H fun b H1=>if b=true then ∃ N:St->Hp->Prop,(∀ σ' H',N σ' H'->∃ m',m'<m/\W m' σ' H')/\tb { D with nx:=N,ct:=N,bk:=D.nx } σ H1 else D.nx σ H1
theorem UE {c:Expr}{body:List Stmt}{tc:TT}{tb:TS}(hp:PassesOwn (model X.prog X.w) X.A X.env X.xe)(hc:PT X c tc)(hb:PSs X body tb):PS X (.While c body [] pos) (VX tc tb):=by
 intro pins s σ H D I h
 obtain ⟨W,⟨m0,w0⟩,turn⟩:=h
 refine wpAny_While (codeAny_whileLoop (fun n s'=>∃ σ' H',Inv X pins σ' H' s'/\W n σ' H') ?_ m0 ⟨σ,H,I,w0⟩)
 rintro n s1 ⟨σ1,H1,I1,w1⟩
 refine wpAny_passesOwn hp (thn (hc pins s1 σ1 H1 _ I1 (turn n σ1 H1 w1)) fun b s2 ⟨H2,I2,q2⟩=>?_)
 cases b with
 | true =>
   obtain ⟨N,hN,q2⟩:=q2
   rw [if_pos rfl]
   refine wpAny_passesOwn hp (thn (hb pins s2 σ1 H2 _ I2 q2) fun f s3 q3=>?_)
   cases f with
   | next =>
     obtain ⟨σ3,H3,I3,n3⟩:=q3
     obtain ⟨m',hm,w3⟩:=hN σ3 H3 n3
     exact ⟨m',hm,σ3,H3,I3,w3⟩
   | cont =>
     obtain ⟨σ3,H3,I3,n3⟩:=q3
     obtain ⟨m',hm,w3⟩:=hN σ3 H3 n3
     exact ⟨m',hm,σ3,H3,I3,w3⟩
   | brk=>exact q3
   | ret v=>exact q3
 | false =>
   rw [if_neg Bool.false_ne_true]
   exact wpAny_execs_nil ⟨σ1,H2,I2,q2⟩
end
structure It where
 go:Nat->Hp->Prop
 yld:Nat->Hp->V->Hp->Prop
 stop:Nat->Hp->Prop
def KB (X:Cx)(pins:List (Addr×Obj))(H:Hp)(b:Addr):Prop :=
 H b=none/\b≠X.env.locals/\b∉X.fs/\(b∈X.ex\/X.s₀.heap.objs.size<=b)/\(∀ x c,X.env.cells.lookup x=some c->c≠b)/\∀ p∈X.pn++pins,p.1≠b
theorem Inv.fpOk {X:Cx}{pins:List (Addr×Obj)}{σ:St}{H H':Hp}{s:Shared}{b:Addr}(I:Inv X pins σ H s)(hb:s.heap.objs.size<=b)(hn:H' b=none):KB X pins H' b:=by
 refine ⟨hn,Nat.ne_of_gt (Nat.lt_of_lt_of_le I.lt hb),I.nofs hb,.inr (Nat.le_trans I.sz hb),fun x c e z=>?_,fun p hp z=>?_⟩
 · obtain ⟨v,q⟩:=I.cell x c e
   exact absurd (Nat.lt_of_lt_of_le q.lt (by rw [z];exact hb)) (Nat.lt_irrefl _)
 · exact absurd (Nat.lt_of_lt_of_le (B4 (I.pin p hp).1) (by rw [z];exact hb)) (Nat.lt_irrefl _)
structure Turn (P:Program)(w:World)(K:Fg)(tg:Expr)(J:It)(fp:List Addr)(it:Addr)(tn:Nat->Heap->Prop):Prop where
 mem:it∈fp
 obj:∀ i h,tn i h->∀ b∈fp,∃ o,h.get? b=some o/\∀ v,o.data≠.cell v
 keep:∀ i h h',tn i h->(∀ b∈fp,∀ o,h.get? b=some o->h'.get? b=some o)->tn i h'
 item:∀ (X:Cx),X.prog=P->X.w=w->X.K=K->X.calm=true->∀ (i:Nat) (pins:List (Addr×Obj)) (s:Shared) (σ:St) (H:Hp) (E:Value->Shared->Prop),Inv X pins σ H s->(∀ b∈fp,KB X pins H b)->tn i s.heap->J.go i H ->
  wpAny (model P w) X.A (pyNext (.ref it)) (fun r s1=>∃ u,r=some u /\
   wpAny (model P w) X.A (letOwnedTupleGo tg (.ref it) u) (fun _ s2=>∃ x H',Inv X pins σ H' s2/\RelV x u/\J.yld i H x H'/\tn (i+1) s2.heap/\∀ b∈fp,H' b=none) E s1) E s
 done:∀ (X:Cx),X.prog=P->X.w=w->X.K=K->X.calm=true->∀ (i:Nat) (pins:List (Addr×Obj)) (s:Shared) (σ:St) (H:Hp) (E:Value->Shared->Prop),Inv X pins σ H s->(∀ b∈fp,KB X pins H b)->tn i s.heap->J.stop i H ->
  wpAny (model P w) X.A (pyNext (.ref it)) (fun r s1=>r=none/\Inv X pins σ H s1) E s
 self:∀ (A:Around) (i:Nat) (s:Shared) (Q:Value->Shared->Prop) (E:Value->Shared->Prop),tn i s.heap->Q (.ref it) s->wpAny (model P w) A (pyIter (.ref it)) Q E s
abbrev TI:=St->Hp->(It->Hp->Prop)->Prop
def PIE (X:Cx)(pins:List (Addr×Obj))(σ:St)(tg:Expr)(R:It->Hp->Prop)(itv:Value)(s2:Shared):Prop :=
 ∃ (it:Addr) (fp:List Addr) (tn:Nat->Heap->Prop) (J:It) (H':Hp),itv=.ref it/\Inv X pins σ H' s2/\Turn X.prog X.w X.K tg J fp it tn/\tn 0 s2.heap/\(∀ b∈fp,KB X pins H' b)/\R J H'
def PI (X:Cx)(tg iter:Expr)(wi:TI):Prop :=
 ∀ (pins:List (Addr×Obj)) (s:Shared) (σ:St) (H:Hp) (R:It->Hp->Prop),Inv X pins σ H s->wi σ H R ->
  wpAny (model X.prog X.w) X.A (eval iter X.env) (fun v s1=>wpAny (model X.prog X.w) X.A (pyIter v) (PIE X pins σ tg R) X.xe s1) X.xe s
theorem YV {M:Model}{A:Around}{E:Value->Shared->Prop}{s:Shared}{tg:Expr}{it:Addr}{u:Value}{o:Obj}{n:String}{vs:Array Value}{Q:Unit->Shared->Prop}(ho:s.heap.get? it=some o)(hc:o.cls=.type n)(hd:o.data=.fields vs)
 (hn:["enumerate","zip","dict_itemiterator","dict_reverseitemiterator","odict_iterator","itertools.zip_longest","itertools.pairwise"].contains n=false) (hQ:Q () s):wpAny M A (letOwnedTupleGo tg (.ref it) u) Q E s:=by
 unfold letOwnedTupleGo
 cases tg<;>first
  | exact B1 hQ
  | (cases u<;>first
   | exact B1 hQ
   | (refine B0 (wpAny_load ho ?_)
      rw [hc,hd]
      show wpAny M A (if (["enumerate","zip","dict_itemiterator","dict_reverseitemiterator","odict_iterator","itertools.zip_longest","itertools.pairwise"].contains n&&vs[0]?==some (rawInt _))=true then _ else _) Q E s
      rw [if_neg (by intro h;rw [hn,Bool.false_and] at h;cases h)]
      exact B1 hQ))
def Itl (K:Fg)(a:Addr):It :=
 ⟨fun i H=>∃ xs x,SqL K H a xs/\xs[i]?=some x,fun i H x H'=>H'=H/\∀ xs,SqL K H a xs->xs[i]?=some x,fun i H=>∃ xs,SqL K H a xs/\xs.length<=i⟩
def Itt (K:Fg)(a:Addr):It :=
 ⟨fun i H=>∃ xs x,SqT K H a xs/\xs[i]?=some x,fun i H x H'=>H'=H/\∀ xs,SqT K H a xs->xs[i]?=some x,fun i H=>∃ xs,SqT K H a xs/\xs.length<=i⟩
def Itr (lo:Int)(n:Nat):It:=⟨fun i _=>i<n,fun i H x H'=>H'=H/\x=.int (lo+i),fun i _=>n<=i⟩
theorem ZU {w:World} {tg:Expr}(a it:Addr):Turn P w K tg (Itl K a) [it] it (fun i h=>h.IsListIter it a i) where
 mem:=by simp
 obj:=fun i h st b hb=>by
  have e:b=it:=by simpa using hb
  subst e
  obtain ⟨o,e,c,d⟩:=st
  exact ⟨o,e,fun v z=>by rw [d] at z;cases z⟩
 keep:=fun i h h' st k=>st.at fun o e=>k it (by simp) o e
 item:=by
  intro X hP hw hK hc i pins s σ H E I hf st hg
  subst hP hw hK
  obtain ⟨xs,x,hq,hx⟩:=hg
  obtain ⟨its,rv,p,hz⟩:=I.list hq
  obtain ⟨u,hu,ru⟩:=rv.get hx
  obtain ⟨f0,f1,f2,f3,f4,f5⟩:=hf it (by simp)
  refine wpAny_pyNext_list_item st p.isList (x:=u) (by simpa using hu) fun h' st' sb=>?_
  have I1:Inv X pins σ H { s with heap:=h' }:=I.turned (t':=s.toks) (fun b o hb e=>(sb.2 b hb).trans e) f0 f1 f3 f4 f5
  obtain ⟨o,e,c,d⟩:=id st'
  exact ⟨u,rfl,YV (s:={ s with heap:=h' }) e c d (by decide) ⟨x,H,I1,ru,⟨rfl,fun ys hy=>by rw [I.list_inj hy hq];exact hx⟩,st',fun b hb=>(hf b hb).1⟩⟩
 done:=by
  intro X hP hw hK hc i pins s σ H E I hf st hg
  subst hP hw hK
  obtain ⟨xs,hq,hx⟩:=hg
  obtain ⟨its,rv,p,hz⟩:=I.list hq
  obtain ⟨f0,f1,f2,f3,f4,f5⟩:=hf it (by simp)
  have hl:=rv.length
  exact wpAny_pyNext_list_end (I.ok.hd hc) st p.isList (by simp;omega) fun h' eb=>⟨rfl,I.turned (t':=s.toks) (fun b o hb e=>eb b o hb e) f0 f1 f3 f4 f5⟩
 self:=fun _ _ _ _ _ st h=>wpAny_pyIter_listiter st h
theorem VU {w:World} {tg:Expr}(a it:Addr):Turn P w K tg (Itt K a) [it] it (fun i h=>h.IsTupleIter it a i) where
 mem:=by simp
 obj:=fun i h st b hb=>by
  have e:b=it:=by simpa using hb
  subst e
  obtain ⟨o,e,c,d⟩:=st
  exact ⟨o,e,fun v z=>by rw [d] at z;cases z⟩
 keep:=fun i h h' st k=>st.at fun o e=>k it (by simp) o e
 item:=by
  intro X hP hw hK hc i pins s σ H E I hf st hg
  subst hP hw hK
  obtain ⟨xs,x,hq,hx⟩:=hg
  obtain ⟨its,rv,p,hz⟩:=I.tuple hq
  obtain ⟨u,hu,ru⟩:=rv.get hx
  obtain ⟨f0,f1,f2,f3,f4,f5⟩:=hf it (by simp)
  refine wpAny_pyNext_tuple_item st (show s.heap.IsTuple a its.toArray from p) (x:=u) (by simpa using hu) fun h' st' sb=>?_
  have I1:Inv X pins σ H { s with heap:=h' }:=I.turned (t':=s.toks) (fun b o hb e=>(sb.2 b hb).trans e) f0 f1 f3 f4 f5
  obtain ⟨o,e,c,d⟩:=id st'
  exact ⟨u,rfl,YV (s:={ s with heap:=h' }) e c d (by decide) ⟨x,H,I1,ru,⟨rfl,fun ys hy=>by rw [I.tuple_inj hy hq];exact hx⟩,st',fun b hb=>(hf b hb).1⟩⟩
 done:=by
  intro X hP hw hK hc i pins s σ H E I hf st hg
  subst hP hw hK
  obtain ⟨xs,hq,hx⟩:=hg
  obtain ⟨its,rv,p,hz⟩:=I.tuple hq
  obtain ⟨f0,f1,f2,f3,f4,f5⟩:=hf it (by simp)
  have hl:=rv.length
  exact wpAny_pyNext_tuple_end (I.ok.hd hc) st (show s.heap.IsTuple a its.toArray from p) (by simp;omega) fun h' eb=>⟨rfl,I.turned (t':=s.toks) (fun b o hb e=>eb b o hb e) f0 f1 f3 f4 f5⟩
 self:=fun _ _ _ _ _ st h=>wpAny_pyIter_tupleiter st h
theorem VW {w:World} {tg:Expr}(it:Addr)(lo:Int)(n:Nat):Turn P w K tg (Itr lo n) [it] it (fun i h=>IsRangeIter h it (lo+(i:Nat)*1) ((n:Int) - (i:Nat)) 1) where
 mem:=by simp
 obj:=fun i h st b hb=>by
  have e:b=it:=by simpa using hb
  subst e
  exact ⟨_,st,fun v z=>by
   have z':Data.fields _=Data.cell v:=z
   cases z'⟩
 keep:=fun i h h' st k=>k it (by simp) _ st
 item:=by
  intro X hP hw hK hc i pins s σ H E I hf st hg
  subst hP hw hK
  obtain ⟨f0,f1,f2,f3,f4,f5⟩:=hf it (by simp)
  have W:=Walks.range (prog:=X.prog) (w:=X.w) (I.ok.hd hc) it lo 1 n
  refine W.item i s _ _ hg st fun v h' tk hv st' kk=>?_
  obtain ⟨t,rfl⟩:=hv
  have I1:Inv X pins σ H { s with heap:=h',toks:=tk }:=I.turned (fun b o hb e=>kk b o (by simpa using hb) e) f0 f1 f3 f4 f5
  refine ⟨_,rfl,YV (s:={ s with heap:=h',toks:=tk }) (n:="range_iterator") st' rfl rfl (by decide) ⟨.int (lo+i),H,I1,⟨t,?_⟩,⟨rfl,rfl⟩,st',fun b hb=>(hf b hb).1⟩⟩
  rw [Int.mul_one]
 done:=by
  intro X hP hw hK hc i pins s σ H E I hf st hg
  subst hP hw hK
  obtain ⟨f0,f1,f2,f3,f4,f5⟩:=hf it (by simp)
  exact wpAny_pyNext_range_end (I.ok.hd hc) st (by have:n<=i:=hg;omega) fun h' eb=>⟨rfl,I.turned (t':=s.toks) (fun b o hb e=>eb b o hb e) f0 f1 f3 f4 f5⟩
 self:=fun _ _ _ _ _ st h=>wpAny_pyIter_rangeiter st h
section
variable {X:Cx}{tg:Expr}
noncomputable def V1o (K:Fg)(tl:TE):TI:=fun σ H R=>tl σ H fun x H1=>∃ a,x=.ref a/\(∃ xs,SqL K H1 a xs)/\R (Itl K a) H1
noncomputable def V3i (K:Fg)(tl:TE):TI:=fun σ H R=>tl σ H fun x H1=>∃ a,x=.ref a/\(∃ xs,SqT K H1 a xs)/\R (Itt K a) H1
theorem J2a {pins:List (Addr×Obj)}{σ:St}{H:Hp}{s:Shared}{R:It->Hp->Prop}{E:Value->Shared->Prop}{lo hi:Int}{t u v:Tok}{tk:Nat}(I:Inv X pins σ H s)(h1 : -(2 ^ 62)<=lo)(h2:lo<2 ^ 62)(h3 : -(2 ^ 62)<=hi)(h4:hi<2 ^ 62)
 (q:R (Itr lo (hi - lo).toNat) H):wpAny (model X.prog X.w) X.A (pyIter (.ref s.heap.objs.size)) (PIE X pins σ tg R) E { s with heap:=s.heap.push { cls:=.type "range",data:=.fields #[.int lo t,.int hi u,.int 1 v] },toks:=tk }:=by
 refine wpAny_pyIter_range (IsRange.new ..) (small_one h1 h2 h3 h4) ?_
 have I1:Inv X pins σ H { s with heap:=s.heap.push { cls:=.type "range",data:=.fields #[.int lo t,.int hi u,.int 1 v] },toks:=tk }:=I.kept fun b o e=>B3 _ e
 refine ⟨(s.heap.push { cls:=.type "range",data:=.fields #[.int lo t,.int hi u,.int 1 v] }).objs.size,[(s.heap.push { cls:=.type "range",data:=.fields #[.int lo t,.int hi u,.int 1 v] }).objs.size],_,_,H,rfl,
  I1.kept (t':=tk) fun b o e=>B3 _ e,VW _ lo (hi - lo).toNat,?_,fun b hb=>?_,q⟩
 · have e1:lo+((0:Nat):Int)*1=lo:=by simp
   have e2:(((hi - lo).toNat:Nat):Int) - ((0:Nat):Int)=Builtin.Range.rangeSize lo hi 1:=by rw [rangeSize_one];split<;>omega
   show IsRangeIter _ _ (lo+((0:Nat):Int)*1) ((((hi - lo).toNat:Nat):Int) - ((0:Nat):Int)) 1
   rw [e1,e2]
   exact Heap.get?_push_size _ rfl
 · have e:b=(s.heap.push { cls:=.type "range",data:=.fields #[.int lo t,.int hi u,.int 1 v] }).objs.size:=by simpa using hb
   subst e
   exact I1.fpOk (Nat.le_refl _) (I1.hok.fresh (Nat.le_refl _))
noncomputable def Q6p (ta:TA):TI:=fun σ H R=>ta σ H fun vs H1=>∃ j:Int,vs=[.int j]/\-(2 ^ 62)<=j/\j<2 ^ 62/\R (Itr 0 j.toNat) H1
noncomputable def V1n (ta:TA):TI:=fun σ H R=>ta σ H fun vs H1=>∃ i j:Int,vs=[.int i,.int j]/\(-(2 ^ 62)<=i/\i<2 ^ 62/\-(2 ^ 62)<=j/\j<2 ^ 62)/\R (Itr i (j - i).toNat) H1
theorem QT {a:Expr}{ta:TA}{p pos:Pos}(hg:Gl X "range") (hm:X.mg "range" = none) (ha:PA X [a] ta) (hs:starEach [a] X.env=[(false,eval a X.env)]:=by rfl):PI X tg (.Call (.Name "range" p) [a] [] pos) (Q6p ta):=by
 intro pins s σ H R I h
 refine Call_ (IM I hg hm boot_range (PyProof.Rows.callWith_type1 (thn (ha pos pins s σ H _ I h) fun us s1 ⟨vs,H1,I1,r1,q1⟩=>?_) hs rfl))
 obtain ⟨j,e,q1,q2,q⟩:=q1
 subst e
 cases r1 with
 | cons r rr =>
   cases rr
   obtain ⟨t,rfl⟩:=r
   exact call_range_1 (J2a I1 (by omega) (by omega) q1 q2 (by simpa using q))
noncomputable def J6n (wi:TI)(g:TG)(tb:TS):TS:=fun D σ H=>wi σ H fun J H1=>∃ W:Nat->Nat->St->Hp->Prop,(∃ m,W 0 m σ H1)/\∀ i m σ H,W i m σ H ->
 (J.stop i H/\D.nx σ H)\/(J.go i H/\∃ N:St->Hp->Prop,(∀ σ' H',N σ' H'->∃ m',m'<m/\W (i+1) m' σ' H')/\∀ x H',J.yld i H x H'->g x σ H' fun σ2 H2=>tb { D with nx:=N,ct:=N,bk:=D.nx } σ2 H2)
def OC (fp:List Addr)(h:Heap):List (Addr×Obj):=fp.filterMap fun b=>(h.get? b).map fun o=>(b,o)
theorem HM {fp:List Addr}{h:Heap}{b:Addr}{o:Obj}(hb:b∈fp)(e:h.get? b=some o):(b,o)∈OC fp h:=List.mem_filterMap.mpr ⟨b,hb,by rw [e];rfl⟩
theorem J0h {fp:List Addr}{h:Heap}{p:Addr×Obj}(hp:p∈OC fp h):p.1∈fp/\h.get? p.1=some p.2:=by
 obtain ⟨b,hb,e⟩:=List.mem_filterMap.mp hp
 cases q:h.get? b with
 | none=>rw [q] at e;cases e
 | some o =>
   rw [q] at e
   have e':(b,o)=p:=Option.some.inj e
   subst e'
   exact ⟨hb,q⟩
theorem Inv.pinned {pins:List (Addr×Obj)}{σ:St}{H:Hp}{s:Shared}{fp:List Addr}(I:Inv X pins σ H s)(hf:∀ b∈fp,KB X pins H b)(ho:∀ b∈fp,∃ o,s.heap.get? b=some o/\∀ v,o.data≠.cell v):Inv X (pins++OC fp s.heap) σ H s :=
 I.pins_of fun p hp=>(List.mem_append.mp hp).elim (fun z=>I.pin p (List.mem_append_right _ z)) fun z=>by
  obtain ⟨hb,e⟩:=J0h z
  obtain ⟨f0,f1,f2,_⟩:=hf p.1 hb
  obtain ⟨o,e',d⟩:=ho p.1 hb
  rw [e] at e';cases e'
  exact ⟨e,f0,f1,f2,d⟩
theorem Inv.unpinned {pins pl:List (Addr×Obj)}{σ:St}{H:Hp}{s:Shared}(I:Inv X (pins++pl) σ H s):Inv X pins σ H s:=I.pins_of fun p hp=>I.pin p (List.mem_append_right _ (List.mem_append_left _ hp))
theorem WH {iter:Expr}{body:List Stmt}{wi:TI}{g:TG}{tb:TS}{pos:Pos}(hp:PassesOwn (model X.prog X.w) X.A X.env X.xe)(hc:X.calm=true)(hi:PI X tg iter wi)(hg:PG X tg g)(hb:PSs X body tb)
 (hs:∀ x,foldedSetIterable iter X.env x=pure x:=by intro _;rfl):PS X (.For tg iter body [] pos) (J6n wi g tb):=by
 intro pins s σ H D I h
 refine wpAny_For (thn (hi pins s σ H _ I h) fun v s1 h1=>thn h1 fun itv s2 h2=>?_) hs
 obtain ⟨it,fp,tn,J,H2,e,I2,T,st2,f2,W,⟨m0,w0⟩,turn⟩:=h2
 subst e
 have stat:∀ {H':Hp},(∀ b∈fp,H' b=none)->∀ b∈fp,KB X pins H' b:=fun hn b hb=>⟨hn b hb,(f2 b hb).2⟩
 refine codeAny_forLoop_any (fun n s'=>∃ i σ' H',Inv X pins σ' H' s'/\tn i s'.heap/\(∀ b∈fp,H' b=none)/\W i n σ' H') ?_ m0 ⟨0,σ,H2,I2,st2,fun b hb=>(f2 b hb).1,w0⟩
 rintro n s3 ⟨i,σ3,H3,I3,st3,fr3,w3⟩
 rcases turn i n σ3 H3 w3 with ⟨stop,qn⟩|⟨go,N,hN,step⟩
 · refine wpAny_passesOwn hp (thn (T.done X rfl rfl rfl hc i pins s3 σ3 H3 X.xe I3 (stat fr3) st3 stop) fun r s4 ⟨hr,I4⟩=>?_)
   subst hr
   exact wpAny_execs_nil ⟨σ3,H3,I4,qn⟩
 · refine wpAny_passesOwn hp (thn (T.item X rfl rfl rfl hc i pins s3 σ3 H3 X.xe I3 (stat fr3) st3 go) fun r s4 ⟨u,hr,h4⟩=>?_)
   subst hr
   refine wpAny_passesOwn hp (thn h4 fun _ s5 ⟨x,H5,I5,r5,y5,st5,fr5⟩=>?_)
   have I5':=I5.pinned (stat fr5) (T.obj _ _ st5)
   refine wpAny_passesOwn hp (thn (hg _ s5 σ3 H5 x u _ I5' r5 (step x H5 y5)) fun _ s6 ⟨σ6,H6,I6,q6⟩=>?_)
   refine wpAny_passesOwn hp (thn (hb _ s6 σ6 H6 _ I6 q6) fun f s7 q7=>?_)
   have again:∀ {σ7:St} {H7:Hp},Inv X (pins++OC fp s5.heap) σ7 H7 s7->N σ7 H7->∃ m,m<n/\∃ i σ' H',Inv X pins σ' H' s7/\tn i s7.heap/\(∀ b∈fp,H' b=none)/\W i m σ' H':=fun {σ7 H7} I7 n7=>by
    obtain ⟨m',hm,w7⟩:=hN σ7 H7 n7
    refine ⟨m',hm,i+1,σ7,H7,I7.unpinned,T.keep _ _ _ st5 fun b hb o e=>(I7.pin (b,o) (List.mem_append_right _ (List.mem_append_right _ (HM hb e)))).1,fun b hb=>?_,w7⟩
    obtain ⟨o,e,d⟩:=T.obj _ _ st5 b hb
    exact (I7.pin (b,o) (List.mem_append_right _ (List.mem_append_right _ (HM hb e)))).2.1
   cases f with
   | next=>obtain ⟨σ7,H7,I7,n7⟩:=q7;exact again I7 n7
   | cont=>obtain ⟨σ7,H7,I7,n7⟩:=q7;exact again I7 n7
   | brk=>obtain ⟨σ7,H7,I7,q7⟩:=q7;exact ⟨σ7,H7,I7.unpinned,q7⟩
   | ret v=>obtain ⟨x7,σ7,H7,I7,r7,q7⟩:=q7;exact ⟨x7,σ7,H7,I7.unpinned,r7,q7⟩
end
theorem J1m {c:TT}{tb:TS}{D:Ends}{σ:St}{H:Hp}(Pv:St->Hp->Prop)(μ:St->Hp->Nat)(h0:Pv σ H)
 (hs:∀ σ H,Pv σ H->c σ H fun b H1=>if b=true then tb { D with nx:=fun σ' H'=>Pv σ' H'/\μ σ' H'<μ σ H,ct:=fun σ' H'=>Pv σ' H'/\μ σ' H'<μ σ H,bk:=D.nx } σ H1 else D.nx σ H1)
 (mono:∀ σ H Q Q',(∀ b H1,Q b H1->Q' b H1)->c σ H Q->c σ H Q'):VX c tb D σ H:=by
 refine ⟨fun m σ H=>m=μ σ H/\Pv σ H,⟨_,rfl,h0⟩,?_⟩
 rintro m σ H ⟨rfl,p⟩
 refine mono σ H _ _ (fun b H1 q=>?_) (hs σ H p)
 cases b with
 | true=>exact ⟨_,fun σ' H' ⟨p',l⟩=>⟨_,l,rfl,p'⟩,q⟩
 | false=>exact q
abbrev R2:=V->V->Hp->VK->Prop
def OpR (X:Cx)(f:Value->Value->Sem Value)(r:R2):Prop :=
 ∀ (pins:List (Addr×Obj)) (s:Shared) (σ:St) (H:Hp) (x y:V) (v u:Value) (Q:VK),Inv X pins σ H s->RelV x v->RelV y u->r x y H Q ->
  wpAny (model X.prog X.w) X.A (f v u) (EP X pins σ Q) X.xe s
def UnR (X:Cx)(f:Value->Sem Value)(r:V->Hp->VK->Prop):Prop :=
 ∀ (pins:List (Addr×Obj)) (s:Shared) (σ:St) (H:Hp) (x:V) (v:Value) (Q:VK),Inv X pins σ H s->RelV x v->r x H Q ->
  wpAny (model X.prog X.w) X.A (f v) (EP X pins σ Q) X.xe s
def DL (X:Cx)(f:Value)(r:List V->Hp->VK->Prop):Prop :=
 ∀ (pins:List (Addr×Obj)) (s:Shared) (σ:St) (H:Hp) (xs:List V) (us:List Value) (Q:VK),Inv X pins σ H s->Vals xs us->r xs H Q ->
  wpAny (model X.prog X.w) X.A (call f us) (EP X pins σ Q) X.xe s
def V0p (X:Cx)(r:V->Hp->(Bool->Hp->Prop)->Prop):Prop :=
 ∀ (pins:List (Addr×Obj)) (s:Shared) (σ:St) (H:Hp) (x:V) (v:Value) (Q:Bool->Hp->Prop),Inv X pins σ H s->RelV x v->r x H Q ->
  wpAny (model X.prog X.w) X.A (truthy v) (TP X pins σ Q) X.xe s
noncomputable def tOp (r:R2)(ta tb:TE):TE:=fun σ H Q=>ta σ H fun x H1=>tb σ H1 fun y H2=>r x y H2 Q
noncomputable def tUn (r:V->Hp->VK->Prop)(ta:TE):TE:=fun σ H Q=>ta σ H fun x H1=>r x H1 Q
noncomputable def rI (C:Int->Int->Prop)(g:Int->Int->V):R2:=fun x y H Q=>∃ i j,x=.int i/\y=.int j/\C i j/\Q (g i j) H
noncomputable def rI0 (g:Int->Int->V):R2:=fun x y H Q=>∃ i j,x=.int i/\y=.int j/\Q (g i j) H
noncomputable def rU (g:Int->V):V->Hp->VK->Prop:=fun x H Q=>∃ i,x=.int i/\Q (g i) H
section
variable {X:Cx}{a b:Expr}{ta tb:TE}{pos:Pos}
theorem Q4r (ha:PE X a ta)(hb:PE X b tb){pins:List (Addr×Obj)}{s:Shared}{σ:St}{H:Hp}{R:V->V->Hp->Prop}(I:Inv X pins σ H s)
 (h:ta σ H fun x H1=>tb σ H1 fun y H2=>R x y H2) {Q:Value->Shared->Prop} {f:Value->Value->Sem Value}
 (hf:∀ v u s2 x y H2,Inv X pins σ H2 s2->RelV x v->RelV y u->R x y H2->wpAny (model X.prog X.w) X.A (f v u) Q X.xe s2) :
 wpAny (model X.prog X.w) X.A (eval a X.env) (fun v s₁=>wpAny (model X.prog X.w) X.A (eval b X.env) (fun u s₂=>wpAny (model X.prog X.w) X.A (f v u) Q X.xe s₂) X.xe s₁) X.xe s:=by
 refine thn (ha pins s σ H _ I h) fun v s1 ⟨x,H1,I1,r1,q1⟩=>?_
 refine thn (hb pins s1 σ H1 _ I1 q1) fun u s2 ⟨y,H2,I2,r2,q2⟩=>?_
 exact hf v u s2 x y H2 I2 r1 r2 q2
theorem BE {op:Operator}{r:R2}(ho:OpR X (binaryOp op) r)(ha:PE X a ta)(hb:PE X b tb):PE X (.BinOp a op b pos) (tOp r ta tb):=by
 intro pins s σ H Q I h
 exact wpAny_BinOp (Q4r ha hb I h fun v u s2 x y H2 I2 rx ry q=>ho pins s2 σ H2 x y v u Q I2 rx ry q)
theorem Q6a {op:UnaryOp}{r:V->Hp->VK->Prop}(ho:UnR X (unaryOp op) r)(ha:PE X a ta):PE X (.UnaryOp op a pos) (tUn r ta):=by
 intro pins s σ H Q I h
 exact UnaryOp_ (thn (ha pins s σ H _ I h) fun v s1 ⟨x,H1,I1,r1,q1⟩=>ho pins s1 σ H1 x v Q I1 r1 q1)
theorem opI {f:Value->Value->Sem Value}{C:Int->Int->Prop}{g:Int->Int->Int}
 (rule:∀ (i j:Int) (t u:Tok) (s:Shared) (Q:Value->Shared->Prop) (E:Value->Shared->Prop),C i j->Q (.int (g i j) s.toks) { s with toks:=s.toks+1 }->wpAny (model X.prog X.w) X.A (f (.int i t) (.int j u)) Q E s) :
 OpR X f (rI C fun i j=>.int (g i j)):=by
 intro pins s σ H x y v u Q I rx ry h
 obtain ⟨i,j,rfl,rfl,hc,q⟩:=h
 obtain ⟨t,rfl⟩:=rx
 obtain ⟨t',rfl⟩:=ry
 exact rule i j t t' s _ _ hc ⟨.int (g i j),H,I.tok _,⟨_,rfl⟩,q⟩
theorem Q6e {f:Value->Value->Sem Value}{g:Int->Int->Int}
 (rule:∀ (i j:Int) (t u:Tok) (s:Shared) (Q:Value->Shared->Prop) (E:Value->Shared->Prop),Q (.int (g i j) s.toks) { s with toks:=s.toks+1 }->wpAny (model X.prog X.w) X.A (f (.int i t) (.int j u)) Q E s) :
 OpR X f (rI0 fun i j=>.int (g i j)):=by
 intro pins s σ H x y v u Q I rx ry h
 obtain ⟨i,j,rfl,rfl,q⟩:=h
 obtain ⟨t,rfl⟩:=rx
 obtain ⟨t',rfl⟩:=ry
 exact rule i j t t' s _ _ ⟨.int (g i j),H,I.tok _,⟨_,rfl⟩,q⟩
theorem J7e {f:Value->Value->Sem Value}{g:Int->Int->Bool}
 (rule:∀ (i j:Int) (t u:Tok) (s:Shared) (Q:Value->Shared->Prop) (E:Value->Shared->Prop),Q (.bool (g i j)) s->wpAny (model X.prog X.w) X.A (f (.int i t) (.int j u)) Q E s) :
 OpR X f (rI0 fun i j=>.bl (g i j)):=by
 intro pins s σ H x y v u Q I rx ry h
 obtain ⟨i,j,rfl,rfl,q⟩:=h
 obtain ⟨t,rfl⟩:=rx
 obtain ⟨t',rfl⟩:=ry
 exact rule i j t t' s _ _ ⟨.bl (g i j),H,I,rfl,q⟩
def V3z (i j:Int):Prop:=0<j/\j<1073741824
def V2n (i j:Int):Prop:=j≠0/\j.natAbs<1073741824
def V0v (i j:Int):Prop:=0<=j/\j<=1000000/\i.natAbs<2 ^ 64
def CMul (i j:Int):Prop:=(-(2 ^ 64)<i/\i<2 ^ 64)\/(-(2 ^ 64)<j/\j<2 ^ 64)
theorem CMul.ok {i j:Int}(h:CMul i j):IntMulOk i j:=by
 rcases h with ⟨h1,h2⟩|⟨h1,h2⟩
 · exact .of_left (intBits_le_64 h1 h2)
 · exact .of_right (intBits_le_64 h1 h2)
theorem BB:OpR X (binaryOp .Add) (rI0 fun i j=>.int (i+j)):=Q6e fun _ _ _ _ _ _ _ q=>add_int q
theorem AG:OpR X (binaryOp .Sub) (rI0 fun i j=>.int (i - j)):=Q6e fun _ _ _ _ _ _ _ q=>sub_int q
theorem II:OpR X (binaryOp .Mod) (rI (fun _ j=>0<j) fun i j=>.int (i % j)):=opI fun i j _ _ _ _ _ hc q=>by
 have h1:(0:Int)<j:=hc
 exact mod_int' (by omega) (by rw [Int.fmod_eq_emod_of_nonneg i (by omega)];exact q)
theorem J7c:OpR X (binaryOp .Mod) (rI (fun _ j=>j≠0) fun i j=>.int (i.fmod j)):=opI fun _ _ _ _ _ _ _ hc q=>mod_int' hc q
theorem GH:OpR X (binaryOp .Pow) (rI V0v fun i j=>.int (i ^ j.toNat)):=opI fun _ _ _ _ _ _ _ hc q=>pow_int_small hc.1 hc.2.1 hc.2.2 q
theorem unI {f:Value->Sem Value}{g:Int->Int}
 (rule:∀ (i:Int) (t:Tok) (s:Shared) (Q:Value->Shared->Prop) (E:Value->Shared->Prop),Q (.int (g i) s.toks) { s with toks:=s.toks+1 }->wpAny (model X.prog X.w) X.A (f (.int i t)) Q E s) :
 UnR X f (rU fun i=>.int (g i)):=by
 intro pins s σ H x v Q I rx h
 obtain ⟨i,rfl,q⟩:=h
 obtain ⟨t,rfl⟩:=rx
 exact rule i t s _ _ ⟨.int (g i),H,I.tok _,⟨_,rfl⟩,q⟩
theorem Q0y:UnR X (unaryOp .USub) (rU fun i=>.int (-i)):=unI fun _ _ _ _ _ q=>neg_int q
end
def Q5t:V->V->Bool
 | .non,.non=>true|.non,.int _=>true|.int _,.non=>true|.non,.bl _=>true|.bl _,.non=>true|.non,.str _=>true|.str _,.non=>true
 | .int _,.int _=>true|.bl _,.bl _=>true|.str _,.str _=>true|.byt _,.byt _=>true
 | .int _,.str _=>true|.str _,.int _=>true|.bl _,.str _=>true|.str _,.bl _=>true
 | _,_=>false
noncomputable def rEq:R2:=fun x y H Q=>Q5t x y=true/\Q (.bl (decide (x=y))) H
noncomputable def rNe:R2:=fun x y H Q=>Q5t x y=true/\Q (.bl (!decide (x=y))) H
theorem YY {i j:Int}:decide (V.int i=V.int j)=(i==j):=by
 rw [Bool.eq_iff_iff]
 simp
theorem J4e {i j:Bool}:decide (V.bl i=V.bl j)=(i==j):=by
 rw [Bool.eq_iff_iff]
 simp
theorem YX {i j:Str}:decide (V.str i=V.str j)=(i==j):=by
 rw [Bool.eq_iff_iff]
 simp
theorem YZ {i j:Array UInt8}:decide (V.byt i=V.byt j)=(i.toList==j.toList):=by
 rw [Bool.eq_iff_iff]
 cases i
 cases j
 simp
section
variable {X:Cx}{a b c:Expr}{ta tb tc:TE}{pos:Pos}
theorem AJ {pins:List (Addr×Obj)}{σ:St}{H:Hp}{s:Shared}{Q:VK}{k k':Bool}(I:Inv X pins σ H s)(q:Q (.bl k) H)(e:k=k'):EP X pins σ Q (.bool k') s:=by
 subst e
 exact ⟨.bl k,H,I,rfl,q⟩
theorem DK:OpR X (compareOp .Eq) rEq:=by
 intro pins s σ H x y v u Q I rx ry h
 obtain ⟨hs,q⟩:=h
 cases x with
 | non =>
   cases rx
   cases y with
   | non=>cases ry;exact PySem.EqNone.eq_none_none (AJ I q (by simp))
   | bl j=>cases ry;exact PySem.EqNone.eq_none_bool (AJ I q (by simp))
   | int j=>obtain ⟨t',rfl⟩:=ry;exact PySem.EqNone.eq_none_int (AJ I q (by simp))
   | str j=>obtain ⟨t',rfl⟩:=ry;exact PySem.EqNone.eq_none_str (AJ I q (by simp))
   | _=>exact absurd (show false=true from hs) Bool.false_ne_true
 | bl i =>
   cases rx
   cases y with
   | non=>cases ry;exact PySem.EqNone.eq_bool_none (AJ I q (by simp))
   | bl j=>cases ry;exact eq_bool (AJ I q J4e)
   | str j=>obtain ⟨t',rfl⟩:=ry;exact PySem.EqMixed.eq_bool_str (AJ I q (by simp))
   | _=>exact absurd (show false=true from hs) Bool.false_ne_true
 | int i =>
   obtain ⟨t,rfl⟩:=rx
   cases y with
   | non=>cases ry;exact PySem.EqNone.eq_int_none (AJ I q (by simp))
   | int j=>obtain ⟨t',rfl⟩:=ry;exact eq_int (AJ I q YY)
   | str j=>obtain ⟨t',rfl⟩:=ry;exact PySem.EqMixed.eq_int_str (AJ I q (by simp))
   | _=>exact absurd (show false=true from hs) Bool.false_ne_true
 | str i =>
   obtain ⟨t,rfl⟩:=rx
   cases y with
   | non=>cases ry;exact PySem.EqNone.eq_str_none (AJ I q (by simp))
   | bl j=>cases ry;exact PySem.EqMixed.eq_str_bool (AJ I q (by simp))
   | int j=>obtain ⟨t',rfl⟩:=ry;exact PySem.EqMixed.eq_str_int (AJ I q (by simp))
   | str j=>obtain ⟨t',rfl⟩:=ry;exact eq_str (AJ I q YX)
   | _=>exact absurd (show false=true from hs) Bool.false_ne_true
 | byt i =>
   obtain ⟨t,rfl⟩:=rx
   cases y with
   | byt j=>obtain ⟨t',rfl⟩:=ry;exact PySem.W.eq_bytes (AJ I q YZ)
   | _=>exact absurd (show false=true from hs) Bool.false_ne_true
 | _=>cases y<;>exact absurd (show false=true from hs) Bool.false_ne_true
theorem J2s:OpR X (compareOp .NotEq) rNe:=by
 intro pins s σ H x y v u Q I rx ry h
 obtain ⟨hs,q⟩:=h
 cases x with
 | non =>
   cases rx
   cases y with
   | non=>cases ry;exact PySem.EqNone.ne_none_none (AJ I q (by simp))
   | bl j=>cases ry;exact PySem.EqNone.ne_none_bool (AJ I q (by simp))
   | int j=>obtain ⟨t',rfl⟩:=ry;exact PySem.EqNone.ne_none_int (AJ I q (by simp))
   | str j=>obtain ⟨t',rfl⟩:=ry;exact PySem.EqNone.ne_none_str (AJ I q (by simp))
   | _=>exact absurd (show false=true from hs) Bool.false_ne_true
 | bl i =>
   cases rx
   cases y with
   | non=>cases ry;exact PySem.EqNone.ne_bool_none (AJ I q (by simp))
   | bl j=>cases ry;exact ne_bool (AJ I q (congrArg not J4e))
   | str j=>obtain ⟨t',rfl⟩:=ry;exact PySem.EqMixed.ne_bool_str (AJ I q (by simp))
   | _=>exact absurd (show false=true from hs) Bool.false_ne_true
 | int i =>
   obtain ⟨t,rfl⟩:=rx
   cases y with
   | non=>cases ry;exact PySem.EqNone.ne_int_none (AJ I q (by simp))
   | int j=>obtain ⟨t',rfl⟩:=ry;exact ne_int (AJ I q (congrArg not YY))
   | str j=>obtain ⟨t',rfl⟩:=ry;exact PySem.EqMixed.ne_int_str (AJ I q (by simp))
   | _=>exact absurd (show false=true from hs) Bool.false_ne_true
 | str i =>
   obtain ⟨t,rfl⟩:=rx
   cases y with
   | non=>cases ry;exact PySem.EqNone.ne_str_none (AJ I q (by simp))
   | bl j=>cases ry;exact PySem.EqMixed.ne_str_bool (AJ I q (by simp))
   | int j=>obtain ⟨t',rfl⟩:=ry;exact PySem.EqMixed.ne_str_int (AJ I q (by simp))
   | str j=>obtain ⟨t',rfl⟩:=ry;exact ne_str (AJ I q (congrArg not YX))
   | _=>exact absurd (show false=true from hs) Bool.false_ne_true
 | byt i =>
   obtain ⟨t,rfl⟩:=rx
   cases y with
   | byt j=>obtain ⟨t',rfl⟩:=ry;exact PySem.W.ne_bytes (AJ I q (congrArg not YZ))
   | _=>exact absurd (show false=true from hs) Bool.false_ne_true
 | _=>cases y<;>exact absurd (show false=true from hs) Bool.false_ne_true
theorem OE:OpR X (compareOp .Lt) (rI0 fun i j=>.bl (decide (i<j))):=J7e fun _ _ _ _ _ _ _ q=>lt_int q
theorem J9x:OpR X (compareOp .LtE) (rI0 fun i j=>.bl (decide (i<=j))):=J7e fun _ _ _ _ _ _ _ q=>le_int q
theorem UG:OpR X (compareOp .Gt) (rI0 fun i j=>.bl (decide (j<i))):=J7e fun _ _ _ _ _ _ _ q=>gt_int q
theorem Q6d:OpR X (compareOp .GtE) (rI0 fun i j=>.bl (decide (j<=i))):=J7e fun _ _ _ _ _ _ _ q=>ge_int q
def V1l:HO->Bool
 | .lst _=>true
 | .ins _ _ _=>true
 | _=>false
theorem Y2 (b:Expr){op:CmpOp}(h:op≠.In:=by decide)(h2:op≠.NotIn:=by decide):behindInMarks op b=false:=by
 have e1:(op==CmpOp.In)=false:=by cases op<;>first|rfl|exact absurd rfl h
 have e2:(op==CmpOp.NotIn)=false:=by cases op<;>first|rfl|exact absurd rfl h2
 cases b<;>simp [behindInMarks,e1,e2]
theorem RY {op:CmpOp}{r:R2}(ho:OpR X (compareOp op) r)(ha:PE X a ta)(hb:PE X b tb)(hm:behindInMarks op b=false):PE X (.Compare a [op] [b] pos) (tOp r ta tb):=by
 intro pins s σ H Q I h
 exact wpAny_Compare1 (Q4r ha hb I h fun v u s2 x y H2 I2 rx ry q=>ho pins s2 σ H2 x y v u Q I2 rx ry q) hm
noncomputable def Q5k (t:TE):TT:=fun σ H Q=>t σ H fun x H'=>∃ k,x=.bl k/\Q k H'
theorem KQ {op:CmpOp}{r:R2}(ho:OpR X (compareOp op) r)(ha:PE X a ta)(hb:PE X b tb)(hm:behindInMarks op b=false):PT X (.Compare a [op] [b] pos) (Q5k (tOp r ta tb)):=by
 intro pins s σ H Q I h
 refine wpAny_isTrue_Compare1 (thn (ha pins s σ H _ I h) fun v s1 ⟨x,H1,I1,r1,q1⟩=>thn (hb pins s1 σ H1 _ I1 q1) fun u s2 ⟨y,H2,I2,r2,q2⟩ =>
  thn (ho pins s2 σ H2 x y v u _ I2 r1 r2 q2) fun c s3 ⟨z,H3,I3,r3,k,e,q3⟩=>?_) hm
 subst e
 cases r3
 exact wpAny_truthy_bool ⟨H3,I3,q3⟩
noncomputable def Q1f (r r':R2)(ta tb tc:TE):TE:=fun σ H Q=>ta σ H fun x H1=>tb σ H1 fun y H2=>r x y H2 fun z H3=>∃ k,z=.bl k /\
 (if k=true then tc σ H3 fun w' H4=>r' y w' H4 Q else Q (.bl false) H3)
theorem J2r {op op':CmpOp}{r r':R2}(ho:OpR X (compareOp op) r)(ho':OpR X (compareOp op') r')(ha:PE X a ta)(hb:PE X b tb)(hc:PE X c tc)
 (hm:lastMarks [op,op'] [b,c]=false:=by with_unfolding_all rfl):PE X (.Compare a [op,op'] [b,c] pos) (Q1f r r' ta tb tc):=by
 intro pins s σ H Q I h
 refine Compare_chain (thn (ha pins s σ H _ I h) fun v s1 ⟨x,H1,I1,r1,q1⟩=>chain_link (thn (hb pins s1 σ H1 _ I1 q1) fun u s2 ⟨y,H2,I2,r2,q2⟩ =>
  thn (ho pins s2 σ H2 x y v u _ I2 r1 r2 q2) fun d s3 ⟨z,H3,I3,r3,k,e,q3⟩=>?_)) hm
 subst e
 cases r3
 refine wpAny_truthy_bool ?_
 cases k with
 | false=>exact ite_ff ⟨.bl false,H3,I3,rfl,q3⟩
 | true=>exact ite_tt (chain_last (thn (hc pins s3 σ H3 _ I3 q3) fun w' s4 ⟨z',H4,I4,r4,q4⟩=>ho' pins s4 σ H4 y z' u w' Q I4 r2 r4 q4))
def Q4u (K:Fg)(x:V)(H:Hp)(k:Bool):Prop :=
 match x with
 | .non=>k=false
 | .bl b=>k=b
 | .int i=>k=(i != 0)
 | .str y=>y.length<=sizeLine/\k=((y.length:Int)!=0)
 | .byt y=>y.size<=sizeLine/\k=((y.size:Int)!=0)
 | .ref p=>(∃ xs,SqL K H p xs/\k = !xs.isEmpty)\/(∃ xs,SqT K H p xs/\k = !xs.isEmpty)\/∃ kvs,H p=some (.dK kvs)/\k = !kvs.isEmpty
 | _=>False
theorem XF {κ:Type}{kvs:List (κ×V)}{vs:List (κ×Value)}(r:KV kvs vs):(!vs.isEmpty) = !kvs.isEmpty:=by
 cases r<;>rfl
theorem OU {xs:List V}{its:List Value}(r:Vals xs its):(!its.toArray.isEmpty) = !xs.isEmpty:=by
 cases r<;>simp
theorem OT:(sizeLine:Nat)<2 ^ 63:=by rw [sizeLine_eq];decide
theorem Q1a:V0p X (fun x H Q=>∃ k,Q4u X.K x H k/\Q k H):=by
 intro pins s σ H x v Q I rx h
 obtain ⟨k,e,q⟩:=h
 have hl:=OT
 have hs:sizeLine=16777216:=sizeLine_eq
 cases x with
 | non =>
   cases rx
   have e':k=false:=e
   subst e'
   exact truthy_none ⟨H,I,q⟩
 | bl b =>
   cases rx
   have e':k=b:=e
   subst e'
   exact wpAny_truthy_bool ⟨H,I,q⟩
 | int i =>
   obtain ⟨t,rfl⟩:=rx
   have e':k=(i != 0):=e
   subst e'
   exact PySem.P.truthy_int ⟨H,I,q⟩
 | str y =>
   obtain ⟨t,rfl⟩:=rx
   obtain ⟨hy,e'⟩:y.length<=sizeLine/\k=((y.length:Int)!=0):=e
   subst e'
   exact PySem.P.truthy_str (by omega) ⟨H,I.tok _,q⟩
 | byt y =>
   obtain ⟨t,rfl⟩:=rx
   obtain ⟨hy,e'⟩:y.size<=sizeLine/\k=((y.size:Int)!=0):=e
   subst e'
   exact PySem.W.truthy_bytes (by omega) ⟨H,I.tok _,q⟩
 | ref p =>
   cases rx
   have e':(∃ xs,SqL X.K H p xs/\k = !xs.isEmpty)\/(∃ xs,SqT X.K H p xs/\k = !xs.isEmpty)\/∃ kvs,H p=some (.dK kvs)/\k = !kvs.isEmpty:=e
   rcases e' with ⟨xs,hx,e'⟩|⟨xs,hx,e'⟩|⟨kvs,hx,e'⟩
   · subst e'
     obtain ⟨its,r,pl,hz⟩:=I.list hx
     have hlen:=r.length
     exact wpAny_truthy_list pl.isList (by simp only [List.size_toArray];omega) ⟨H,I.tok _,by rw [OU r];exact q⟩
   · subst e'
     obtain ⟨its,r,pl,hz⟩:=I.tuple hx
     have hlen:=r.length
     exact truthy_tuple pl (by simp only [List.size_toArray];omega) ⟨H,I.tok _,by rw [OU r];exact q⟩
   · subst e'
     obtain ⟨hz,hS,vs,r,m⟩:kvs.length<=sizeLine/\(p==sysModules)=false/\∃ vs,KV kvs vs/\s.heap.DictOf (SN X.prog X.w) p vs:=I.hok p _ hx
     have hlen:kvs.length=vs.length:=Paired.length r
     exact wpAny_truthy_dict hS m (by omega) ⟨H,I.tok _,by rw [XF r];exact q⟩
 | _=>exact (show False from e).elim
theorem J2g (ha:PE X a ta)(he:∀ whole,isTrue a X.env whole=(do let v <- whole;standAt a.pos;holding [v] (truthy v))) :
 PT X a (fun σ H Q=>ta σ H fun x H'=>∃ k,Q4u X.K x H' k/\Q k H'):=by
 intro pins s σ H Q I h
 exact isTrue_plain (thn (ha pins s σ H _ I h) fun v s1 ⟨x,H1,I1,r1,q1⟩=>Q1a pins s1 σ H1 x v Q I1 r1 q1) (he _)
def Q7v (b:Expr):Prop:=∀ o i,subscripted b false o i=operate [o,i] (getItem o i)
theorem KC {x:V}{us:List Value}(r:Vals [x] us):∃ u,us=[u]/\RelV x u:=by
 cases r with
 | cons r1 r2=>cases r2;exact ⟨_,rfl,r1⟩
theorem MW {x y:V}{us:List Value}(r:Vals [x,y] us):∃ u w',us=[u,w']/\RelV x u/\RelV y w':=by
 cases r with
 | cons r1 r2 =>
   cases r2 with
   | cons r3 r4=>cases r4;exact ⟨_,_,rfl,r1,r3⟩
theorem GT:DL X (.builtin "abs") (fun xs H Q=>∃ i,xs=[.int i]/\Q (.int (if i<0 then -i else i)) H):=by
 intro pins s σ H xs us Q I r h
 obtain ⟨i,rfl,q⟩:=h
 obtain ⟨u,rfl,t,rfl⟩:=KC r
 exact call_abs_int fun u tk=>⟨.int (if i<0 then -i else i),H,I.tok _,⟨_,rfl⟩,q⟩
theorem MO (hc:X.calm=true):DL X (.builtin "max") (fun xs H Q=>∃ i j,xs=[.int i,.int j]/\Q (.int (if j>i then j else i)) H):=by
 intro pins s σ H xs us Q I r h
 obtain ⟨i,j,rfl,q⟩:=h
 obtain ⟨u,w',rfl,⟨t,rfl⟩,⟨t',rfl⟩⟩:=MW r
 refine max_two_ints (I.ok.hd hc) fun h' tk k=>⟨_,H,I.kept k,?_,q⟩
 by_cases hj:j>i
 · rw [if_pos hj,if_pos hj];exact ⟨_,rfl⟩
 · rw [if_neg hj,if_neg hj];exact ⟨_,rfl⟩
theorem GS (hc:X.calm=true):DL X (.builtin "min") (fun xs H Q=>∃ i j,xs=[.int i,.int j]/\Q (.int (if j<i then j else i)) H):=by
 intro pins s σ H xs us Q I r h
 obtain ⟨i,j,rfl,q⟩:=h
 obtain ⟨u,w',rfl,⟨t,rfl⟩,⟨t',rfl⟩⟩:=MW r
 refine min_two_ints (I.ok.hd hc) fun h' tk k=>⟨_,H,I.kept k,?_,q⟩
 by_cases hj:j<i
 · rw [if_pos hj,if_pos hj];exact ⟨_,rfl⟩
 · rw [if_neg hj,if_neg hj];exact ⟨_,rfl⟩
theorem FH:DL X (.type "int") (fun xs H Q=>(∃ i,xs=[.int i]/\Q (.int i) H)\/∃ k,xs=[.bl k]/\Q (.int (if k then 1 else 0)) H):=by
 intro pins s σ H xs us Q I r h
 rcases h with ⟨i,rfl,q⟩|⟨k,rfl,q⟩
 · obtain ⟨u,rfl,t,rfl⟩:=KC r
   exact call_int_int ⟨.int i,H,I,⟨_,rfl⟩,q⟩
 · obtain ⟨u,rfl,r1⟩:=KC r
   cases r1
   exact call_int_bool ⟨.int (if k then 1 else 0),H,I.tok _,⟨_,rfl⟩,q⟩
def V3x (K:Fg)(x:V)(H:Hp)(n:Nat):Prop :=
 match x with
 | .str y=>y.length<=sizeLine/\n=y.length
 | .byt y=>y.size<=sizeLine/\n=y.size
 | .ref p=>(∃ xs,SqL K H p xs/\n=xs.length)\/∃ xs,SqT K H p xs/\n=xs.length
 | _=>False
end
structure ObjM (h:Heap)(x dx C:Addr)(mA:Str->Option Value):Prop where
 obj:h.get? x=some (PySem.W.instObj C dx)
 ns:h.Ns1 dx mA
 ne:dx≠x
theorem J0l {h:Heap}{dx:Addr}{mA:Str->Option Value}(n:h.Ns1 dx mA):∃ od,h.get? dx=some od/\∀ name,PySem.W.lookIn name od=some (mA name):=by
 obtain ⟨o,es,ep,ho,hd,hk,_,hm⟩:=n
 refine ⟨o,ho,fun name=>?_⟩
 have e:=hm name
 unfold nsFind findBy at e
 rw [<- Array.find?_toList] at e
 unfold PySem.W.lookIn
 rw [hd]
 dsimp only
 split
 · rename_i y q
   rw [q] at e
   exact congrArg some e
 · rename_i q
   rw [q] at e
   have a:es.toList.any (·.refKey)=false:=by
    rw [List.any_eq_false]
    intro y hy
    obtain ⟨z,t,hkey⟩:=hk y (Array.mem_toList_iff.mp hy)
    simp [DictEntry.refKey,hkey]
   have a':¬ es.toList.any (·.refKey)=true:=by rw [a];exact Bool.false_ne_true
   rw [if_neg a']
   exact congrArg some e
theorem ObjM.look {h:Heap}{x dx C:Addr}{mA:Str->Option Value}(I:ObjM h x dx C mA):∃ od,PySem.W.InstAt h x (PySem.W.instObj C dx) C (some od)/\∀ name,PySem.W.lookIn name od=some (mA name) :=
 let ⟨od,ho,hl⟩:=J0l I.ns
 ⟨od,⟨I.obj,rfl,rfl,ho⟩,hl⟩
def Q1r (f:Str)(v:V):List (Str×V)->List (Str×V)
 | []=>[(f,v)]
 | (g,x)::r=>if g=f then (g,v)::r else (g,x)::Q1r f v r
section
variable {P:Program}{w:World}{H:Hp}{h:Heap}{a C dx:Addr}{fs:List (Str×V)}
theorem J7y (hok:HOk P w H h)(e:H a=some (.ins C dx fs)):∃ mA,ObjM h a dx C mA/\(∀ f,Q4w (fs.lookup f) (mA f))/\PySem.Within mA (fs.map (·.1))/\fs.length<=1000/\H dx=some (.own a):=by
 obtain ⟨d,z,ne,ob,mA,n,r,q⟩:=(show ObjOk P w H h a (.ins C dx fs) from hok a _ e)
 exact ⟨mA,⟨ob,n,ne⟩,r,q,z,d⟩
end
structure Cls (K:Fg)(C:Addr):Prop where
 pg:PySem.W.plainGet K C Str.empty=true
 hd:PySem.W.hasDictIn K C=true
 po:PySem.W.plainOver K C=true
 sa:PySem.W.findIn K (.ref C) "__setattr__" = some (some (.builtin "object.__setattr__"))
theorem Cls.get {C:Addr}(c:Cls K C)(f:Str):PySem.W.plainGet K C f=true:=c.pg
def XV (K:Fg)(C:Addr)(f:Str):Prop:=PySem.W.findIn K (.ref C) f=some none
structure Con (K:Fg)(C:Addr)(f:Str)(v:V)(u:Value):Prop where
 at_:PySem.W.findIn K (.ref C) f=some (some u)
 rel:RelV v u
 get:PySem.W.specialIn K u "__get__" = some none
 cp:PySem.W.copiedNames.contains f=false
structure Meth (K:Fg)(C:Addr)(m:Str)(f:Addr):Prop where
 at_:PySem.W.findIn K (.ref C) m=some (some (.ref f))
 fn:PySem.W.isFn K (.ref f)=true
 kp:PySem.W.keepIn K (.ref f)=true
noncomputable def V2s (K:Fg)(ta:TE)(f:Str):TE:=fun σ H Q=>ta σ H fun x H1=>∃ a C dx fs v,x=.ref a/\H1 a=some (.ins C dx fs)/\Cls K C/\XV K C f/\fs.lookup f=some v/\Q v H1
noncomputable def V2v (K:Fg)(ta:TE)(f:Str):TE:=fun σ H Q=>ta σ H fun x H1=>∃ a C dx fs v u,x=.ref a/\H1 a=some (.ins C dx fs)/\Cls K C/\Con K C f v u/\fs.lookup f=none/\Q v H1
noncomputable def V2z (K:Fg)(ta tv:TE)(f:Str):TS:=fun D σ H=>tv σ H fun y H1=>ta σ H1 fun x H2=>∃ a C dx fs,x=.ref a/\H2 a=some (.ins C dx fs)/\Cls K C/\XV K C f/\fs.length<1000 /\
 D.nx σ (upd H2 a (.ins C dx (Q1r f y fs)))
def V3y (X:Cx)(op:Operator)(rd:V->V->Hp->VK->Prop):Prop :=
 ∀ (pins:List (Addr×Obj)) (s:Shared) (σ:St) (H:Hp) (x y:V) (u v:Value) (Q:VK),Inv X pins σ H s->RelV x u->RelV y v->rd x y H Q->wpAny (model X.prog X.w) X.A (inplaceOp op u v) (EP X pins σ Q) X.xe s
noncomputable def Q8a (K:Fg)(ta tv:TE)(rd:V->V->Hp->VK->Prop)(f:Str):TS:=fun D σ H=>ta σ H fun x H1=>∃ a C dx fs v,x=.ref a/\H1 a=some (.ins C dx fs)/\Cls K C/\XV K C f/\fs.lookup f=some v /\
 tv σ H1 fun y H2=>rd v y H2 fun z H3=>∃ dx' fs',H3 a=some (.ins C dx' fs')/\fs'.length<1000/\D.nx σ (upd H3 a (.ins C dx' (Q1r f z fs')))
section
noncomputable def V3d:V->V->Hp->VK->Prop:=fun x y H Q=>∃ i j,x=.int i/\y=.int j/\Q (.int (i+j)) H
noncomputable def V3a:V->V->Hp->VK->Prop:=fun x y H Q=>∃ i j,x=.int i/\y=.int j/\Q (.int (i - j)) H
end
section
variable {X:Cx}{pins:List (Addr×Obj)}{σ:St}{H:Hp}{s:Shared}{A:Around}{E:Value->Shared->Prop}{Q:Value->Shared->Prop}{c:Value}{b:Bool}
inductive TyOf (K:Fg)(H:Hp):V->Value->Prop where
 | non:TyOf K H .non (.type "NoneType")
 | bl (x:Bool):TyOf K H (.bl x) (.type "bool")
 | int (i:Int):TyOf K H (.int i) (.type "int")
 | str (x:Str):TyOf K H (.str x) (.type "str")
 | flt (x:UInt64):TyOf K H (.flt x) (.type "float")
 | lst {a:Addr} {xs:List V} (e:H a=some (.lst xs)):TyOf K H (.ref a) (.type "list")
 | frz {a:Addr} {o:Obj} {xs:List V} (e:H a=some (.frz o (.lst xs))):TyOf K H (.ref a) (.type "list")
 | tup {a:Addr} {xs:List V} (e:H a=some (.tup xs)):TyOf K H (.ref a) (.type "tuple")
 | dK {a:Addr} {kvs:List (Key×V)} (e:H a=some (.dK kvs)):TyOf K H (.ref a) (.type "dict")
 | dT {a:Addr} {kvs:List (List Key×V)} (e:H a=some (.dT kvs)):TyOf K H (.ref a) (.type "dict")
 | ins {a C dx:Addr} {fs:List (Str×V)} (e:H a=some (.ins C dx fs)) (cl:Cls K C) (ha:PySem.W.findIn K (.ref C) "__class__" = some (some (.builtin "object.__class__")))
  (hn:PySem.W.specialIn K (.builtin "object.__class__") "__get__" = some (some (.builtin "getset_descriptor.__get__"))) (htk:PySem.W.takesIn K (.builtin "object.__class__")=some true)
  (hm:PySem.W.mroIn K C (.type "object")=some true):TyOf K H (.ref a) (.ref C)
theorem J0q {x:V}{u t:Value}(I:Inv X pins σ H s)(rx:RelV x u)(ty:TyOf X.K H x t)(e:PySem.W.kitOne X.K t c=some b)(h:∀ tk,Q (.bool b) { s with toks:=tk }) :
 wpAny (model X.prog X.w) A (call (.builtin "isinstance") [u,c]) Q E s:=by
 cases ty with
 | non=>cases (show u=Value.none from rx);exact PySem.W.kia_one PySem.W.kitx_none I.kIn True.intro e (fun z=>nomatch z) h
 | bl y=>cases (show u=Value.bool y from rx);exact PySem.W.kia_one PySem.W.kitx_bool I.kIn True.intro e (fun z=>nomatch z) h
 | int i=>obtain ⟨t,q⟩:=(show ∃ t,u=Value.int i t from rx);cases q;exact PySem.W.kia_one PySem.W.kitx_int I.kIn True.intro e (fun z=>nomatch z) h
 | str y=>obtain ⟨t,q⟩:=(show ∃ t,u=Value.str y t from rx);cases q;exact PySem.W.kia_one PySem.W.kitx_str I.kIn True.intro e (fun z=>nomatch z) h
 | flt y=>obtain ⟨t,q⟩:=(show ∃ t,u=Value.float y t from rx);cases q;exact PySem.W.kia_one PySem.W.kitx_float I.kIn True.intro e (fun z=>nomatch z) h
 | @lst a xs ea =>
   cases (show u=Value.ref a from rx)
   obtain ⟨_,_,n,_,h1⟩:=(show ObjOk X.prog X.w H s.heap a (.lst xs) from I.hok a _ ea)
   exact PySem.W.kia_one PySem.W.kitx_list I.kIn ⟨_,h1,rfl⟩ e (fun z=>nomatch z) h
 | @frz a ob xs ea =>
   cases (show u=Value.ref a from rx)
   obtain ⟨_,_,_,n,_,h1⟩:=(show ObjOk X.prog X.w H s.heap a (.frz ob (.lst xs)) from I.hok a _ ea)
   exact PySem.W.kia_one PySem.W.kitx_list I.kIn ⟨_,h1,rfl⟩ e (fun z=>nomatch z) h
 | @tup a xs ea =>
   cases (show u=Value.ref a from rx)
   obtain ⟨_,_,_,p⟩:=(show ObjOk X.prog X.w H s.heap a (.tup xs) from I.hok a _ ea)
   obtain ⟨o,h1,h2,_⟩:=p
   exact PySem.W.kia_one PySem.W.kitx_tuple I.kIn ⟨o,h1,h2⟩ e (fun z=>nomatch z) h
 | @dK a kvs ea =>
   cases (show u=Value.ref a from rx)
   obtain ⟨_,_,vs,_,p⟩:=(show ObjOk X.prog X.w H s.heap a (.dK kvs) from I.hok a _ ea)
   obtain ⟨o,es,ep,h1,h2,_⟩:=p
   exact PySem.W.kia_one PySem.W.kitx_dict I.kIn ⟨o,h1,h2.1⟩ e (fun z=>nomatch z) h
 | @dT a kvs ea =>
   cases (show u=Value.ref a from rx)
   obtain ⟨_,_,xs,_,o,es,ep,h1,h2,_⟩:=(show ObjOk X.prog X.w H s.heap a (.dT kvs) from I.hok a _ ea)
   exact PySem.W.kia_one PySem.W.kitx_dict I.kIn ⟨o,h1,h2.1⟩ e (fun z=>nomatch z) h
 | @ins a C dx fs ea cl ha hn htk hm =>
   cases (show u=Value.ref a from rx)
   obtain ⟨mA,O,_⟩:=J7y I.hok ea
   obtain ⟨od,J,_⟩:=O.look
   exact PySem.W.kia_one (PySem.W.kitx_own (cl.get _) cl.hd ha hn htk hm) I.kIn J e (fun z=>nomatch z) h
end
structure Room (k:Nat)(A:Around):Prop where
 hd:A.handled=none
 dp:A.depth+3*k+5<recursionLimit
 un:A.units+16*k+200<cLine
theorem Room.mono {j k:Nat}{A:Around}(r:Room k A)(h:j<=k):Room j A:=⟨r.hd,by have:=r.dp;omega,by have:=r.un;omega⟩
theorem Room.deeper {k:Nat}{A:Around}(r:Room (k+1) A)(env:Env):Room k (A.deeper env) :=
 ⟨r.hd,by have:=r.dp;show A.depth+1+3*k+5<_;omega,by have:=r.un;show A.units+3+16*k+200<_;omega⟩
theorem Room.depth {k:Nat}{A:Around}(r:Room k A):A.depth<recursionLimit:=by have:=r.dp;omega
theorem Room.units {k:Nat}{A:Around}(r:Room k A):A.units+64<cLine:=by have:=r.un;omega
noncomputable def Q1d:TA:=fun _ H Q=>Q [] H
noncomputable def J1s (ta:TE)(tr:TA):TA:=fun σ H Q=>ta σ H fun x H1=>tr σ H1 fun xs H2=>Q (x::xs) H2
section
variable {X:Cx}{e:Expr}{es:List Expr}{te:TE}{t:TA}{pos:Pos}
theorem AA:PA X [] Q1d:=fun _ _ _ _ H Q I h=>Calls.spliced_nil ⟨[],H,I,.nil,h⟩
theorem V2 (ha:PE X e te)(hr:PA X es t)(hs:starEach (e::es) X.env=(false,eval e X.env)::starEach es X.env:=by rfl):PA X (e::es) (J1s te t):=by
 intro pos pins s σ H Q I h
 rw [hs]
 show wpAny _ _ (spliced ((false,eval e X.env)::backTo pos (starEach es X.env))) _ _ s
 refine Calls.spliced_cons (thn (ha pins s σ H _ I h) fun u s1 ⟨x,H1,I1,r1,q1⟩=>?_)
 exact thn (hr pos pins s1 σ H1 _ I1 q1) fun us s2 ⟨xs,H2,I2,r2,q2⟩=>⟨x::xs,H2,I2,.cons r1 r2,q2⟩
noncomputable def Q5i (t:TA):TE:=fun σ H Q=>t σ H fun xs H1=>xs.length<=sizeLine/\∀ p,H1 p=none->Q (.ref p) (upd H1 p (.tup xs))
noncomputable def Q8r (t:TA):TE:=fun σ H Q=>t σ H fun xs H1=>xs.length<=sizeLine/\∀ p,H1 p=none->Q (.ref p) (upd H1 p (.lst xs))
theorem WM {x1}(h:PA X es t):PE X (.Tuple es x1 pos) (Q5i t):=by
 intro pins s σ H Q I hq
 refine wpAny_Tuple_spliced (thn (h pos pins s σ H _ I hq) fun us s1 ⟨xs,H1,I1,r,z,q⟩=>⟨by rw [<- r.length];exact z,?_⟩)
 have hf:H1 s1.heap.objs.size=none:=I1.hok.fresh (Nat.le_refl _)
 refine ⟨.ref s1.heap.objs.size,upd H1 s1.heap.objs.size (.tup xs),I1.laid (t':=s1.toks) (fun b u e=>B3 _ e) (Nat.le_refl _) ?_,rfl,q _ hf⟩
 exact ⟨z,us,r,⟨_,Heap.get?_push_size _ rfl,rfl,_,rfl⟩⟩
theorem HK (h:PA X es t):PE X (.List es pos) (Q8r t):=by
 intro pins s σ H Q I hq
 refine wpAny_List_spliced (thn (h pos pins s σ H _ I hq) fun us s1 ⟨xs,H1,I1,r,z,q⟩=>⟨by rw [<- r.length];exact z,?_⟩)
 have hf:H1 s1.heap.objs.size=none:=I1.hok.fresh (Nat.le_refl _)
 refine ⟨.ref s1.heap.objs.size,upd H1 s1.heap.objs.size (.lst xs),I1.laid (t':=s1.toks) (fun b u e=>B3 _ e) (Nat.le_refl _) ?_,rfl,q _ hf⟩
 exact ⟨z,us,0,r,Heap.get?_push_size _ rfl⟩
end
abbrev Sp:=List V->Hp->VK->XK->Prop
abbrev CXT:=List Env->Hp->Shared->XK->Value->Shared->Prop
structure Env0 (P:Program)(w:World)(K:Fg)(mg:Str->Option Value)(base:Heap)(A:Around)(outer:List Env)(s:Shared)(H:Hp):Prop where
 frames:A.frames=some outer
 mod:Mod K mg base
 bs:∀ b o,base.get? b=some o->s.heap.get? b=some o/\H b=none
 bsz:base.objs.size<=s.heap.objs.size
 funs:s.heap.FunFrames base outer
 frf:∀ b∈frs outer,H b=none
 hok:HOk P w H s.heap
 bare:AllBare s.gens
def CE (outer:List Env)(P:Program)(w:World)(H:Hp)(s:Shared)(Q:VK)(u:Value)(s':Shared):Prop :=
 ∃ v H',s'.os=s.os/\AllBare s'.gens/\Un (frs outer) [] H H' s.heap s'.heap/\HOk P w H' s'.heap/\RelV v u/\Q v H'
def CR (CX:CXT)(outer:List Env)(P:Program)(w:World)(H:Hp)(s:Shared)(Q:VK)(E:XK)(r:Result)(s':Shared):Prop :=
 match r with
 | .ok (.ret u)=>CE outer P w H s Q u s'
 | .ok _=>False
 | .error e=>CX outer H s E e s'
structure FnOk (P:Program)(w:World)(K:Fg)(mg:Str->Option Value)(base:Heap)(CX:CXT)(k:Nat)(f:Addr)(fd:FuncData)(ps:List Str)(sp:Sp):Prop where
 len:∀ vs H Q E,sp vs H Q E->vs.length=ps.length
 run:∀ (A:Around) (outer:List Env) (s:Shared) (H:Hp) (args:Args) (us:List Value) (vs:List V) (Q:VK) (E:XK),Room k A->Env0 P w K mg base A outer s H->BindsTo s fd args (ps.zip us)->Vals vs us->sp vs H Q E ->
  codeAny (model P w) A (.call (.ref f) args) (CR CX outer P w H s Q E) s
theorem FnOk.imp {w:World} {CX:CXT}{k:Nat}{f:Addr} {ps:List Str}{sp sp':Sp}(F:FnOk P w K mg base CX k f fd ps sp)
 (h:∀ vs H Q E,sp' vs H Q E->sp vs H Q E):FnOk P w K mg base CX k f fd ps sp' :=
 ⟨fun vs H Q E q=>F.len vs H Q E (h _ _ _ _ q),fun A outer s H args us vs Q E hr he hb hv hs=>F.run A outer s H args us vs Q E hr he hb hv (h _ _ _ _ hs)⟩
section
variable {X:Cx}{pins:List (Addr×Obj)}{σ:St}{H:Hp}{s s':Shared}
theorem Inv.env0 (I:Inv X pins σ H s):Env0 X.prog X.w X.K X.mg X.base X.A X.stack s H :=
 ⟨I.ok.frames,I.ok.mod,I.bs,Nat.le_trans I.ok.bsz I.sz,I.stack,I.stkFree,I.hok,I.bare⟩
theorem Inv.after {Q:VK}{u:Value}(I:Inv X pins σ H s)(h:CE X.stack X.prog X.w H s Q u s'):EP X pins σ Q u s':=by
 obtain ⟨v,H',os,bare,un,hok,r,q⟩:=h
 obtain ⟨hh,g,d,t,os'⟩:=s'
 obtain rfl:os'=s.os:=os
 exact ⟨v,H',I.call (h':=hh) (g':=g) (d':=d) (t':=t) (ch:=[]) un hok bare (fun b z=>absurd z (by simp)),r,q⟩
end
noncomputable def TX (sp:Sp)(dvs:List V)(E:XK)(t:TA):TE:=fun σ H Q=>t σ H fun vs H1=>sp (vs++dvs) H1 Q E
noncomputable def V0y (C:Addr)(m:Str)(sp:Sp)(dvs:List V)(E:XK)(ta:TE)(t:TA):TE:=fun σ H Q=>ta σ H fun x H1=>∃ a dx fs,x=.ref a/\H1 a=some (.ins C dx fs)/\fs.lookup m=none /\
 t σ H1 fun vs H2=>sp (x::(vs++dvs)) H2 Q E
noncomputable def V0z (C:Addr)(sp:Sp)(dvs:List V)(E:XK)(t:TA):TE:=fun σ H Q=>t σ H fun vs H1=>∀ x dx,H1 x=none->H1 dx=none->dx≠x ->
 sp (.ref x::(vs++dvs)) (upd (upd H1 dx (.own x)) x (.ins C dx [])) (fun v H2=>v=.non/\Q (.ref x) H2) E
def Binds (K:Fg)(fd:FuncData)(ps:List Str)(ds:List Value):Prop :=
 ∀ (s:Shared) (us:List Value),K.In s.heap->(us++ds).length=ps.length->BindsTo s fd ⟨us,[]⟩ (ps.zip (us++ds))
theorem Binds.all {ps:List Str}(h:∀ us:List Value,us.length=ps.length->bindArgs fd ⟨us,[]⟩=pure (ps.zip us)):Binds K fd ps []:=fun s us _ hl=>by
 rw [List.append_nil] at hl ⊢
 exact .of_eq (h us hl)
def EU (CX:CXT)(X:Cx)(E:XK):Prop:=∀ (pins:List (Addr×Obj)) (σ:St) (H:Hp) (s:Shared) (e:Value) (s':Shared),Inv X pins σ H s->CX X.stack H s E e s'->X.xe e s'
section
variable {X:Cx}{CX:CXT}{k:Nat}{f C:Addr}{fd:FuncData}{ps:List Str}{sp:Sp}{dvs:List V}{ds:List Value}{E:XK}{x:Str}{p pos:Pos}{e:Expr}{es:List Expr}{t:TA}
theorem Q1m {pins:List (Addr×Obj)}{σ:St}{H:Hp}{s:Shared}{Q:VK}{us:List Value}{vs:List V}(F:FnOk X.prog X.w X.K X.mg X.base CX k f fd ps sp)(hr:Room k X.A)(hb:Binds X.K fd ps ds)(hd:Vals dvs ds)(hx:EU CX X E)
 (I:Inv X pins σ H s) (r:Vals vs us) (h:sp (vs++dvs) H Q E):wpAny (model X.prog X.w) X.A (call (.ref f) us) (EP X pins σ Q) X.xe s:=by
 have r2:Vals (vs++dvs) (us++ds):=r.append hd
 have hl:(us++ds).length=ps.length:=by rw [<- r2.length];exact F.len _ _ _ _ h
 refine wpAny_call (codeAny_mono (F.run X.A X.stack s H ⟨us,[]⟩ (us++ds) (vs++dvs) Q E hr I.env0 (hb s us I.kIn hl) r2 h) fun r s' hq=>?_)
 cases r with
 | error e=>exact hx pins σ H s e s' I hq
 | ok fl =>
   cases fl with
   | ret u=>exact I.after hq
   | next=>exact False.elim hq
   | brk=>exact False.elim hq
   | cont=>exact False.elim hq
theorem YJ (F:FnOk X.prog X.w X.K X.mg X.base CX k f fd ps sp)(hr:Room k X.A)(hg:Gl X x)(hm:X.mg x=some (.ref f))(hk:PySem.W.keepIn X.K (.ref f)=true)(hb:Binds X.K fd ps ds)(hd:Vals dvs ds)(hx:EU CX X E)
 (ha:PA X (e::es) t) (hdb:(x==("__debug__" : Str))=false:=by decide) (he:starEach (e::es) X.env=(false,eval e X.env)::starEach es X.env:=by rfl) (hpl:(backTo pos (starEach es X.env)).any (·.1)=false:=by rfl) :
 PE X (.Call (.Name x p) (e::es) [] pos) (TX sp dvs E t):=by
 intro pins s σ H Q I h
 refine wpAny_Call_Name_kw (LA I hg hm ?_ hdb)
 refine PySem.W.callWith_K (h₀:=X.base) I.ok.mod.kin hk (thn (ha pos pins s σ H _ I h) fun us s1 ⟨vs,H1,I1,r,q⟩=>⟨I1.kIn,?_⟩) he hpl
 exact Q1m F hr hb hd hx I1 r q
structure Mk (K:Fg)(C f:Addr):Prop where
 makes:PySem.W.makesIn K C=true
 init:PySem.W.findIn K (.ref C) "__init__" = some (some (.ref f))
 fn:PySem.W.isFn K (.ref f)=true
 kp:PySem.W.keepIn K (.ref C)=true
end
def PK (X:Cx)(kws:List Keyword)(t:TA):Prop :=
 ∀ (pos:Pos) (pins:List (Addr×Obj)) (s:Shared) (σ:St) (H:Hp) (Q:List V->Hp->Prop),Inv X pins σ H s->t σ H Q->wpAny (model X.prog X.w) X.A (evalAll ((backToKw pos (keywordEach kws X.env)).map (·.2))) (AP X pins σ Q) X.xe s
section
variable {fd:FuncData}{ps ks:List Str}{sp:Sp}{E:XK}{t tk:TA}
structure KBinds (K:Fg)(fd:FuncData)(ps ks:List Str)(g:List Value->List Value->List Value)(gV:List V->List V->List V):Prop where
 to:∀ (s:Shared) (us ws:List Value),K.In s.heap->(g us ws).length=ps.length->BindsTo s fd ⟨us,ks.zip ws⟩ (ps.zip (g us ws))
 rel:∀ {vs:List V} {us:List Value} {zs:List V} {ws:List Value},Vals vs us->Vals zs ws->Vals (gV vs zs) (g us ws)
noncomputable def Q9b (sp:Sp)(gV:List V->List V->List V)(E:XK)(t tk:TA):TE:=fun σ H Q=>t σ H fun vs H1=>tk σ H1 fun zs H2=>sp (gV vs zs) H2 Q E
end
structure FnScope (N P:List Str)(sc:Scope):Prop where
 kind:sc.kind=.function
 co:sc.isCoroutine=false
 gen:sc.isGenerator=false
 nd:N.Nodup
 pre:N.take P.length=P
 par:∀ x∈P,sc.names.lookup x=some .local\/sc.names.lookup x=some .cell
 nofree:∀ y∈sc.names,y.2≠.free
theorem RF {kindOf:Str->Option NameKind}{x:Str}:∀ {binds:List (Str×Value)} {m:Str->Option Value},(∀ v,(x,v)∉binds)->bindL kindOf binds m x=m x
 | [],_,_=>rfl
 | (n,v)::r,m,h=>by
   unfold bindL
   rw [RF fun w hw=>h w (List.mem_cons_of_mem _ hw)]
   split
   · have:x≠n:=by rintro rfl;exact h v List.mem_cons_self
     simp [this]
   · rfl
theorem RG {kindOf:Str->Option NameKind}{x:Str}:∀ {binds:List (Str×Value)} {m:Str->Option Value},(∀ v,(x,v)∉binds)->bindC kindOf binds m x=m x
 | [],_,_=>rfl
 | (n,v)::r,m,h=>by
   unfold bindC
   rw [RG fun w hw=>h w (List.mem_cons_of_mem _ hw)]
   split
   · rfl
   · have:x≠n:=by rintro rfl;exact h v List.mem_cons_self
     simp [this]
theorem MQ {kindOf:Str->Option NameKind}{x:Str}{v:Value}:∀ {P:List Str} {vs:List Value} {i:Nat} {m:Str->Option Value},P.Nodup->P[i]?=some x->vs[i]?=some v->kindOf x=some .local ->
 bindL kindOf (P.zip vs) m x=some v
 | [],_,_,_,_,h,_,_=>by simp at h
 | _::_,[],_,_,_,_,h,_=>by simp at h
 | p::P,w::vs,0,m,nd,h1,h2,hk=>by
   simp at h1 h2;subst h1;subst h2
   show bindL kindOf ((p,w)::P.zip vs) m p=_
   unfold bindL
   rw [RF fun v hv=>(List.nodup_cons.mp nd).1 (List.of_mem_zip hv).1,if_pos hk]
   simp
 | p::P,w::vs,i+1,m,nd,h1,h2,hk=>by
   show bindL kindOf ((p,w)::P.zip vs) m x=_
   unfold bindL
   exact MQ (i:=i) (List.nodup_cons.mp nd).2 (by simpa using h1) (by simpa using h2) hk
theorem MR {kindOf:Str->Option NameKind}{x:Str}{v:Value}:∀ {P:List Str} {vs:List Value} {i:Nat} {m:Str->Option Value},P.Nodup->P[i]?=some x->vs[i]?=some v->kindOf x≠some .local ->
 bindC kindOf (P.zip vs) m x=some v
 | [],_,_,_,_,h,_,_=>by simp at h
 | _::_,[],_,_,_,_,h,_=>by simp at h
 | p::P,w::vs,0,m,nd,h1,h2,hk=>by
   simp at h1 h2;subst h1;subst h2
   show bindC kindOf ((p,w)::P.zip vs) m p=_
   unfold bindC
   rw [RG fun v hv=>(List.nodup_cons.mp nd).1 (List.of_mem_zip hv).1,if_neg hk]
   simp
 | p::P,w::vs,i+1,m,nd,h1,h2,hk=>by
   show bindC kindOf ((p,w)::P.zip vs) m x=_
   unfold bindC
   exact MR (i:=i) (List.nodup_cons.mp nd).2 (by simpa using h1) (by simpa using h2) hk
def CP (N:List Str)(vs:List V):St:=vs.map some++List.replicate (N.length - vs.length) none
def V4 (CX:CXT)(P:Program)(w:World)(K:Fg)(mg:Str->Option Value)(base:Heap)(N:List Str)(qual:Str)(scope:Scope)(f:Addr)(cd:Value)(A:Around)(outer:List Env)(s:Shared)(H:Hp)(E:XK):Cx where
 prog:=P
 w:=w
 K:=K
 mg:=mg
 base:=base
 A:=A.deeper (envOfC qual scope s.heap.objs.size f cd)
 N:=N
 s₀:=s
 H₀:=H
 env:=envOfC qual scope s.heap.objs.size f cd
 outer:=outer
 stack:=envOfC qual scope s.heap.objs.size f cd::outer
 ex:=[]
 calm:=true
 fn:=fun _=>true
 pn:=[]
 xe:=fun e s'=>wpAny (model P w) (A.deeper (envOfC qual scope s.heap.objs.size f cd)) (leaving (envOfC qual scope s.heap.objs.size f cd) e) (fun _ s''=>CX outer H s E e s'') (fun e' s''=>CX outer H s E e' s'') s'
theorem LK {sc:Scope}{n:Nat}{x:Str}(h:sc.names.lookup x=some .cell):∃ c,(cellsFrom n sc.names []).lookup x=some c:=by
 have q:=PySem.W.cellsFrom_some sc.names n [] (.inl h)
 exact Option.isSome_iff_exists.mp q
theorem J0r {CX:CXT}{P:Program}{w:World}{K:Fg}{mg:Str->Option Value}{base:Heap}{N ps:List Str}{qual:Str}{scope:Scope}{f:Addr}{cd:Value}{A:Around}{outer:List Env}{s s1:Shared}{H:Hp}{E:XK}{us:List Value}{vs:List V}
 (S:FnScope N ps scope) (hd:A.handled=none) (e0:Env0 P w K mg base A outer s H) (hl:vs.length=ps.length) (r:Vals vs us)
 (x:InCallC s s.heap.objs.size (bindL (envOfC qual scope s.heap.objs.size f cd).kindOf (ps.zip us) fun _=>none) (cellsFrom (s.heap.objs.size+1) scope.names []) (bindC (envOfC qual scope s.heap.objs.size f cd).kindOf (ps.zip us) fun _=>none) s1) :
 Inv (V4 CX P w K mg base N qual scope f cd A outer s H E) [] (CP N vs) H s1:=by
 have hpl:ps.length<=N.length:=by have:=congrArg List.length S.pre;rw [List.length_take] at this;omega
 obtain ⟨h1,tk,rfl,hk⟩:=x.done
 have noA:∀ b:Addr,b∉(V4 CX P w K mg base N qual scope f cd A outer s H E).ex:=fun b z=>absurd (show b∈([]:List Addr) from z) (by simp)
 refine ⟨⟨e0.mod,S.kind,rfl,rfl,Nat.le_refl _,fun y z c h1 h2=>?_,fun y hy=>?_,fun y c _ h=>?_,fun _=>hd,Around.frames_deeper e0.frames,.inr ⟨rfl,rfl⟩,fun b z=>absurd z (noA b),e0.bs,e0.bsz,fun b _ _=>noA b,fun b z=>absurd z (noA b),e0.funs,e0.frf⟩,
  rfl,e0.bare,Un.kept hk,⟨_,x.toInCall.ns,fun i y v h1 h2 h3=>?_⟩,fun y c h=>⟨_,x.cell y c h⟩,e0.hok.fresh (Nat.le_refl _),fun y c h=>?_,fun p hp=>absurd (show p∈([]:List (Addr×Obj)) from hp) (by simp),e0.hok.kept hk,?_⟩
 · exact name_of_addr x.apart (PySem.mem_of_lookup h1) (PySem.mem_of_lookup h2)
 · have hy:scope.names.lookup y=some .cell\/scope.names.lookup y=some .free:=hy
   rcases hy with hy|hy
   · exact LK hy
   · exact absurd rfl (S.nofree _ (PySem.mem_of_lookup hy))
 · exact Nat.le_of_lt (x.above y c (PySem.mem_of_lookup h))
 · have hi:i<vs.length:=by
    unfold CP at h2
    by_cases hi:i<vs.length
    · exact hi
    · rw [List.getElem?_append_right (by simpa using hi)] at h2
      rw [List.getElem?_replicate] at h2
      split at h2<;>cases h2
   have ha:vs[i]?=some v:=by
    unfold CP at h2
    rw [List.getElem?_append_left (by simpa using hi),List.getElem?_map] at h2
    cases e:vs[i]? with
    | none=>rw [e] at h2;cases h2
    | some a=>rw [e] at h2;cases h2;rfl
   obtain ⟨u,hu,rv⟩:=r.get ha
   have hp:ps[i]?=some y:=by
    rw [<- S.pre,List.getElem?_take_of_lt (by omega)];exact h1
   have ndP:ps.Nodup:=by rw [<- S.pre];exact S.nd.sublist (List.take_sublist _ _)
   refine ⟨u,rv,?_⟩
   rcases S.par y (List.mem_of_getElem? hp) with k|k
   · exact .inl ⟨k,MQ ndP hp hu k⟩
   · obtain ⟨c,e⟩:=LK (n:=s.heap.objs.size+1) k
     refine .inr ⟨.inl k,c,e,?_⟩
     have q:=x.cell y c e
     rw [MR ndP hp hu (by show scope.names.lookup y≠_;rw [k];decide)] at q
     exact q
 · exact e0.hok.fresh (Nat.le_of_lt (x.above y c (PySem.mem_of_lookup h)))
 · unfold CP
   show _=N.length
   rw [List.length_append,List.length_map,List.length_replicate]
   omega
theorem Q0d {CX:CXT}{P:Program}{w:World}{K:Fg}{mg:Str->Option Value}{base:Heap}{k:Nat}{f:Addr}{name qual:Str}{params:Arguments}{body:List Stmt}{scope:Scope}{dV kV doc pm cdv ct oc:Value}{an od:Option Addr}
 {osl:Array (Option Value)} {N ps:List Str} {sp:Sp} (lk:K.lookup f=some ⟨oc,od,.func (PySem.W.fnOf name qual params body scope dV kV doc pm an cdv ct),osl⟩) (hcd:PySem.W.codeIn K cdv qual=true) (S:FnScope N ps scope)
 (len:∀ vs H Q E,sp vs H Q E->vs.length=ps.length)
 (hbody:∀ (A:Around) (outer:List Env) (s:Shared) (H:Hp) (vs:List V) (Q:VK) (E:XK),Room k (A.deeper (envOfC qual scope s.heap.objs.size f cdv))->sp vs H Q E ->
  ∃ t,PSs (V4 CX P w K mg base N qual scope f cdv A outer s H E) body t/\t { nx:=fun _ H'=>Q .non H',rt:=Q } (CP N vs) H) :
 FnOk P w K mg base CX (k+1) f (PySem.W.fnOf name qual params body scope dV kV doc pm an cdv ct) ps sp:=by
 refine ⟨len,fun A outer s H args us vs Q E hr e0 hb r hsp=>?_⟩
 have hl:=len _ _ _ _ hsp
 have KX:K.In s.heap:=e0.mod.kin.keeps fun b o e=>(e0.bs b o e).1
 have lim:s.heap.NoLimit:=e0.mod.nolimit.keeps fun b o e=>(e0.bs b o e).1
 have hkind:∀ y∈ps.zip us,scope.names.lookup y.1=some .local\/(scope.names.lookup y.1=some .cell/\((cellsFrom (s.heap.objs.size+1) scope.names []).lookup y.1).isSome=true):=fun ⟨n,v⟩ hy=>by
  rcases S.par n (List.of_mem_zip hy).1 with q|q
  · exact .inl q
  · exact .inr ⟨q,PySem.W.cellsFrom_some _ _ _ (.inl q)⟩
 refine codeAny_call_function hr.depth (KX _ _ lk) rfl S.co S.gen rfl (PySem.W.codeRec_of KX hcd) (hb _ _ _ _ ?_)
 refine wpAny_newFunctionEnv_cells S.kind hkind fun env he s1 x=>?_
 subst he
 refine ⟨lim.keeps x.toInCall.keep,codeAny_func ?_⟩
 obtain ⟨t,ht,hq⟩:=hbody A outer s H vs Q E (hr.deeper _) hsp
 have I:Inv (V4 CX P w K mg base N qual scope f cdv A outer s H E) [] (CP N vs) H s1:=J0r S hr.hd e0 hl r x
 refine wpAny_mono (ht [] s1 (CP N vs) H _ I hq) (fun fl s' hs=>?_) fun e s' hs=>hs
 have fin:∀ {σ':St} {H':Hp} {v:V} {u:Value},Inv (V4 CX P w K mg base N qual scope f cdv A outer s H E) [] σ' H' s'->RelV v u->Q v H'->CE outer P w H s Q u s' :=
  fun {σ' H' v u} J rv q=>⟨v,H',J.os,J.bare,J.base,J.hok,rv,q⟩
 cases fl with
 | ret u =>
   obtain ⟨v,σ',H',J,rv,q⟩:=hs
   exact fin J rv q
 | next =>
   obtain ⟨σ',H',J,q⟩:=hs
   exact fin (v:=V.non) (u:=Value.none) J rfl q
 | brk =>
   obtain ⟨_,_,_,q⟩:=hs
   exact False.elim q
 | cont =>
   obtain ⟨_,_,_,q⟩:=hs
   exact False.elim q
section
variable {X:Cx}{x:Str}{p pos:Pos}{e:Expr}{es:List Expr}{t:TA}{id T:String}{r:List V->Hp->VK->Prop}
noncomputable def tCB (r:List V->Hp->VK->Prop)(t:TA):TE:=fun σ H Q=>t σ H fun vs H1=>r vs H1 Q
theorem AE (hc:DL X (.builtin id) r)(hg:Gl X x)(hm:X.mg x=none)(hv:bootBuiltins x=some (.builtin id))(ha:PA X (e::es) t)(hn:x≠"__name__":=by decide) (hdb:(x==("__debug__" : Str))=false:=by decide)
 (he:starEach (e::es) X.env=(false,eval e X.env)::starEach es X.env:=by rfl) (hpl:(backTo pos (starEach es X.env)).any (·.1)=false:=by rfl):PE X (.Call (.Name x p) (e::es) [] pos) (tCB r t):=by
 intro pins s σ H Q I h
 refine wpAny_Call_Name_kw (IM I hg hm hv ?_ hn hdb)
 exact PyProof.Rows.callWith_builtin1 (thn (ha pos pins s σ H _ I h) fun us s1 ⟨vs,H1,I1,r1,q1⟩=>hc pins s1 σ H1 vs us Q I1 r1 q1) he hpl
theorem QU (hc:DL X (.type T) r)(hg:Gl X x)(hm:X.mg x=none)(hv:bootBuiltins x=some (.type T))(ha:PA X (e::es) t)(hn:x≠"__name__":=by decide) (hdb:(x==("__debug__" : Str))=false:=by decide)
 (he:starEach (e::es) X.env=(false,eval e X.env)::starEach es X.env:=by rfl) (hpl:(backTo pos (starEach es X.env)).any (·.1)=false:=by rfl):PE X (.Call (.Name x p) (e::es) [] pos) (tCB r t):=by
 intro pins s σ H Q I h
 refine wpAny_Call_Name_kw (IM I hg hm hv ?_ hn hdb)
 exact PyProof.Rows.callWith_type1 (thn (ha pos pins s σ H _ I h) fun us s1 ⟨vs,H1,I1,r1,q1⟩=>hc pins s1 σ H1 vs us Q I1 r1 q1) he hpl
end
end L2
namespace HT
open PySem PyProof.Rows
def lexLt:List Int->List Int->Bool
 | [],[]=>false
 | [],_::_=>true
 | _::_,[]=>false
 | x::xs,y::ys=>if x=y then lexLt xs ys else decide (x<y)
section
variable {prog:Program}{w:World}{A:Around}{E:Value->Shared->Prop}{s:Shared}
theorem cat_tup {t b:Addr}{vs ws:List Value}{Q:Value->Shared->Prop}(ht:IsTup s.heap t vs.toArray)(hb:IsTup s.heap b ws.toArray)(hv:vs≠[])
 (h1:ws=[]->Q (.ref t) s) (h2:ws≠[]->Q (.ref s.heap.objs.size) { s with heap:=s.heap.push { cls:=.type "tuple",data:=.seq (vs++ws).toArray } })
 (hsz:vs.length+ws.length<=sizeLine):wpAny (model prog w) A (binaryOp .Add (.ref t) (.ref b)) Q E s:=by
 obtain ⟨⟨cls,dd,data,sl⟩,ho,hc,n,hd⟩:=id ht
 obtain ⟨⟨cls2,dd2,data2,sl2⟩,ho2,hc2,n2,hd2⟩:=id hb
 simp only at hc hd hc2 hd2
 subst hc hd hc2 hd2
 have e:vs.toArray++ws.toArray=(vs++ws).toArray:=by simp
 by_cases hw:ws=[]
 · exact concat_meets ⟨_,ho,rfl⟩ ⟨_,ho2,rfl⟩ noFill_tuple_add seq_tuple_add PySem.F.slot_tuple_add PySem.F.entry_tuple_add (PySem.F.args_tuple_add_2 _ _)
    (tuple_addW1 t b vs.toArray ws.toArray n n2 dd dd2 sl sl2 (by simpa using hv) (by simp [hw])) ⟨ho,ho2,h1 hw⟩
 · refine concat_meets ⟨_,ho,rfl⟩ ⟨_,ho2,rfl⟩ noFill_tuple_add seq_tuple_add PySem.F.slot_tuple_add PySem.F.entry_tuple_add (PySem.F.args_tuple_add_2 _ _)
    (tuple_addW2 t b vs.toArray ws.toArray n n2 dd dd2 sl sl2 (by simpa using hv) (by simpa using hw) (by rw [List.size_toArray,List.size_toArray];exact hsz)) ⟨ho,ho2,?_⟩
   rw [e]
   exact h2 hw
noncomputable def sIx (n d:Nat):Option Int->Nat
 | none=>d
 | some v=>if v<0 then (v+(n:Int)).toNat else min v.toNat n
theorem Q1l (n d:Nat)(hd:d<=n)(o:Option Int):sIx n d o<=n:=by
 cases o with
 | none=>exact hd
 | some v =>
   show (if v<0 then (v+(n:Int)).toNat else min v.toNat n)<=n
   by_cases hv:v<0
   · rw [if_pos hv];omega
   · rw [if_neg hv];exact Nat.min_le_right _ _
theorem ZC (v:Int)(n d:Nat):(if v<0 then max (v+(n:Int)) 0 else min v (n:Int))=((sIx n d (some v):Nat):Int):=by
 show (if v<0 then max (v+(n:Int)) 0 else min v (n:Int))=(((if v<0 then (v+(n:Int)).toNat else min v.toNat n):Nat):Int)
 by_cases hv:v<0
 · simp only [if_pos hv];omega
 · simp only [if_neg hv];omega
theorem XR (lo hi:Option Int)(n:Nat):Builtin.Slice.sliceAdjust lo hi 1 (n:Int)=(((sIx n 0 lo:Nat):Int),((sIx n n hi:Nat):Int)):=by
 have h1:¬ ((1:Int)<0):=by omega
 unfold Builtin.Slice.sliceAdjust
 simp only [h1,if_false]
 refine Prod.ext ?_ ?_
 · cases lo with
   | none=>rfl
   | some v=>exact ZC v n 0
 · cases hi with
   | none=>rfl
   | some v=>exact ZC v n n
theorem WJ (i j:Nat):Builtin.Slice.slicePlaces (i:Int) (j:Int) 1=j - i:=by
 unfold Builtin.Slice.slicePlaces
 have h1:(1:Int)>0:=by omega
 simp only [h1,if_true,Int.ediv_one]
 split<;>omega
theorem NT {v:Value}{o:Option Int}{Q:Option Int->Shared->Prop}(p:IsPart v o)(h:Q o s):wpAny (model prog w) A (Builtin.Slice.slicePartIndex v) Q E s:=by
 cases p with
 | none=>exact slicePart_none h
 | int i t=>exact slicePart_int h
theorem LQ {sl:Addr}{vl vu:Value}{lo hi:Option Int}{n:Nat}{Q:Int×Int×Nat->Shared->Prop}(hs:s.heap.IsSliceOf sl vl vu .none)(pl:IsPart vl lo)(pu:IsPart vu hi)
 (h:Q (((sIx n 0 lo:Nat):Int),1,sIx n n hi - sIx n 0 lo) s):wpAny (model prog w) A (Builtin.Slice.sliceApplied (.ref sl) (pure (n:Int))) Q E s:=by
 obtain ⟨os,hos,hcs,hds⟩:=id hs
 unfold Builtin.Slice.sliceApplied Builtin.Slice.sliceFields
 refine B0 (B0 (wpAny_field hos hds (x:=vl) rfl (B0 (wpAny_field hos hds (x:=vu) rfl (B0 (wpAny_field hos hds (x:=.none) rfl (B1 ?_)))))))
 refine B0 (slicePart_none ?_)
 show wpAny _ _ (if ((1:Int)==0)=true then _ else _) _ _ s
 rw [if_neg (by decide)]
 refine B0 (NT pl (B0 (NT pu (B0 (B1 ?_)))))
 show wpAny _ _ (match Builtin.Slice.sliceAdjust lo hi 1 (n:Int) with|(lo,hi)=>pure (lo,(1:Int),Builtin.Slice.slicePlaces lo hi 1)) _ _ s
 rw [XR lo hi n]
 show wpAny _ _ (pure (((sIx n 0 lo:Nat):Int),(1:Int),Builtin.Slice.slicePlaces ((sIx n 0 lo:Nat):Int) ((sIx n n hi:Nat):Int) 1)) _ _ s
 rw [WJ]
 exact B1 h
theorem J2l (xs:Array Value)(i k:Nat):((List.range k).filterMap fun (m:Nat)=>xs[((i:Int)+(m:Int)*1).toNat]?).toArray=((xs.toList.drop i).take k).toArray:=by
 have e:(fun (m:Nat)=>xs[((i:Int)+(m:Int)*1).toNat]?)=fun m=>xs[i+m]?:=by
  funext m
  have:((i:Int)+(m:Int)*1).toNat=i+m:=by omega
  rw [this]
 rw [e]
 have:=pick_run xs i k
 rw [List.filterMap_map] at this
 have e2:((fun x=>xs[x]?)∘fun x=>i+x)=fun m=>xs[i+m]?:=rfl
 rw [e2] at this
 rw [this]
theorem getItem_tuple_cut {t sl:Addr}{items:Array Value}{vl vu:Value}{lo hi:Option Int}{Q:Value->Shared->Prop}(ht:IsTup s.heap t items)(hs:s.heap.IsSliceOf sl vl vu .none)(pl:IsPart vl lo)(pu:IsPart vu hi)
 (hw:¬ (sIx items.size 0 lo=0/\sIx items.size items.size hi=items.size))
 (h:Q (.ref s.heap.objs.size) { s with heap:=s.heap.push { cls:=.type "tuple",data:=.seq ((items.toList.drop (sIx items.size 0 lo)).take (sIx items.size items.size hi - sIx items.size 0 lo)).toArray } })
 (hsz:items.size<=sizeLine):wpAny (model prog w) A (getItem (.ref t) (.ref sl)) Q E s:=by
 have htake:sizeOk (.seq ((items.toList.drop (sIx items.size 0 lo)).take (sIx items.size items.size hi - sIx items.size 0 lo)).toArray):=by
  show ((items.toList.drop (sIx items.size 0 lo)).take (sIx items.size items.size hi - sIx items.size 0 lo)).toArray.size<=sizeLine
  rw [List.size_toArray,List.length_take,List.length_drop,Array.length_toList]
  omega
 have hj:sIx items.size items.size hi<=items.size:=Q1l _ _ (Nat.le_refl _) hi
 obtain ⟨os,hos,hcs,hds⟩:=id hs
 have hTs:s.TypeIs (.ref sl) "slice":=⟨os,hos,hcs⟩
 unfold getItem
 try with_reducible refine wpAny_holding ?_
 first|refine B0 (B1 ?_)|skip
 refine B0 (wpAny_sequenceKey ht.typeIs (by decide) ?_)
 refine B0 (wpAny_callSpecial?_slot (name:=Str.ofString "__getitem__") ht.typeIs PyProof.Rows.slot_tuple_getitem
  (wpAny_call_entry PyProof.Rows.slot_tuple_getitem ht.typeIs entry_tuple_getitem ?_ (args_tuple_getitem _ _)))
 show wpAny _ _ (Builtin.Tuple.tupleItemsOf (.ref t) >>= _) _ _ s
 refine B0 (tupleItemsOf_ ht ?_)
 refine B0 (wpAny_typeOf hTs ?_)
 rw [if_pos (by decide)]
 refine B0 (LQ hs pl pu ?_)
 have hno:¬ ((((sIx items.size 0 lo:Nat):Int)==0&&(1:Int)==1&&(sIx items.size items.size hi - sIx items.size 0 lo)==items.size)=true):=by
  intro q
  rw [Bool.and_eq_true,Bool.and_eq_true] at q
  have q1:((sIx items.size 0 lo:Nat):Int)=0:=eq_of_beq q.1.1
  have q2:sIx items.size items.size hi - sIx items.size 0 lo=items.size:=eq_of_beq q.2
  exact hw ⟨by omega,by omega⟩
 show wpAny _ _ (if (((sIx items.size 0 lo:Nat):Int)==0&&(1:Int)==1&&(sIx items.size items.size hi - sIx items.size 0 lo)==items.size)=true then _ else _) _ _ s
 rw [if_neg hno,J2l]
 first
  | exact B0 (m:=Builtin.Tuple.tupleExact _) (wpAny_newObj_type (B1 ⟨_,rfl,B1 h⟩) htake)
  | exact B0 (m:=Builtin.Tuple.tupleExact _) (wpAny_newObj_type (B0 (B1 (B1 ⟨_,rfl,B1 h⟩))) htake)
  | exact B0 (B0 (m:=Builtin.Tuple.tupleExact _) (wpAny_newObj_type (B1 (B1 ⟨_,rfl,B1 h⟩)) htake))
  | exact B0 (B0 (m:=Builtin.Tuple.tupleExact _) (wpAny_newObj_type (B1 ⟨_,rfl,B1 h⟩) htake))
end
end HT
namespace L2
open PySem PySem.Spec PyProof.Rows
abbrev TO:=St->Hp->(Option Int->Hp->Prop)->Prop
def PO (X:Cx)(e:Option Expr)(t:TO):Prop :=
 ∀ (pins:List (Addr×Obj)) (s:Shared) (σ:St) (H:Hp) (Q:Option Int->Hp->Prop),Inv X pins σ H s->t σ H Q ->
  wpAny (model X.prog X.w) X.A (evalPart e X.env) (fun u s'=>∃ o H',Inv X pins σ H' s'/\IsPart u o/\Q o H') X.xe s
noncomputable def J6m:TO:=fun _ H Q=>Q none H
noncomputable def Q5l (t:TE):TO:=fun σ H Q=>t σ H fun x H1=>∃ i,x=.int i/\Q (some i) H1
section
variable {X:Cx}{e:Expr}{te:TE}{lo hi:Option Expr}{tl th:TO}{pos p2:Pos}
theorem J6x:PO X none J6m:=by
 intro pins s σ H Q I h
 rw [evalPart_none]
 exact B1 ⟨none,H,I,.none,h⟩
theorem J6w (h:PE X e te):PO X (some e) (Q5l te):=by
 intro pins s σ H Q I hw
 rw [evalPart_some]
 refine thn (h pins s σ H _ I hw) fun u s1 ⟨x,H1,I1,r1,q1⟩=>?_
 obtain ⟨i,rfl,q⟩:=q1
 obtain ⟨t,rfl⟩:=r1
 exact ⟨some i,H1,I1,.int i t,q⟩
def SlR (X:Cx)(r:V->Option Int->Option Int->Hp->VK->Prop):Prop :=
 ∀ (pins:List (Addr×Obj)) (s:Shared) (σ:St) (H:Hp) (x:V) (v vl vu:Value) (lo hi:Option Int) (sl:Addr) (Q:VK),Inv X pins σ H s->RelV x v->s.heap.IsSliceOf sl vl vu .none->IsPart vl lo->IsPart vu hi->r x lo hi H Q ->
  ∃ T id,typeLookup (.type T) "__getitem__" = pure (some (.builtin id))/\s.TypeIs v T/\wpAny (model X.prog X.w) X.A (getItem v (.ref sl)) (EP X pins σ Q) X.xe s
theorem SlR.or {r r':V->Option Int->Option Int->Hp->VK->Prop}(h:SlR X r)(h':SlR X r'):SlR X (fun x lo hi H Q=>r x lo hi H Q\/r' x lo hi H Q):=by
 intro pins s σ H x v vl vu lo hi sl Q I rx hs pl pu q
 rcases q with q|q
 · exact h pins s σ H x v vl vu lo hi sl Q I rx hs pl pu q
 · exact h' pins s σ H x v vl vu lo hi sl Q I rx hs pl pu q
noncomputable def tSl (r:V->Option Int->Option Int->Hp->VK->Prop)(te:TE)(tl th:TO):TE:=fun σ H Q=>te σ H fun x H1=>tl σ H1 fun l H2=>th σ H2 fun u H3=>r x l u H3 Q
theorem J2o {r:V->Option Int->Option Int->Hp->VK->Prop}(hr:SlR X r)(he:PE X e te)(hl:PO X lo tl)(hu:PO X hi th):PE X (.Subscript e (.Slice lo hi none p2) pos) (tSl r te tl th):=by
 intro pins s σ H Q I h
 refine Subscript_ (thn (he pins s σ H _ I h) fun v s1 ⟨x,H1,I1,r1,q1⟩=>?_)
 refine wpAny_Slice (thn (hl pins s1 σ H1 _ I1 q1) fun vl s2 ⟨l,H2,I2,pl,q2⟩=>thn (hu pins s2 σ H2 _ I2 q2) fun vu s3 ⟨u,H3,I3,pu,q3⟩=>?_)
 rw [evalPart_none]
 refine B1 ?_
 have I4:Inv X pins σ H3 { s3 with heap:=s3.heap.push { cls:=.type "slice",data:=.fields #[vl,vu,.none] } }:=I3.kept (t':=s3.toks) fun b ob q=>B3 _ q
 obtain ⟨T,id,hT,ht,hg⟩:=hr pins { s3 with heap:=s3.heap.push { cls:=.type "slice",data:=.fields #[vl,vu,.none] } } σ H3 x v vl vu l u s3.heap.objs.size Q I4 r1 (Heap.IsSliceOf.new ..) pl pu q3
 show wpAny (model X.prog X.w) X.A (subscriptTail e (.Slice lo hi none p2) v (.ref s3.heap.objs.size)) (EP X pins σ Q) X.xe { s3 with heap:=s3.heap.push { cls:=.type "slice",data:=.fields #[vl,vu,.none] } }
 exact tail_any (ops:=[.ref s3.heap.objs.size,v]) ht hT hg (by with_unfolding_all rfl)
noncomputable def VC (xs:List V)(lo hi:Option Int):List V:=(xs.drop (HT.sIx xs.length 0 lo)).take (HT.sIx xs.length xs.length hi - HT.sIx xs.length 0 lo)
theorem MY (xs:List V)(lo hi:Option Int):(VC xs lo hi).length<=xs.length:=by
 unfold VC
 rw [List.length_take,List.length_drop]
 omega
noncomputable def J2c (K:Fg):V->Option Int->Option Int->Hp->VK->Prop:=fun x lo hi H Q=>∃ a xs,x=.ref a/\SqT K H a xs /\
 ¬ (HT.sIx xs.length 0 lo=0/\HT.sIx xs.length xs.length hi=xs.length)/\∀ p,H p=none->Q (.ref p) (upd H p (.tup (VC xs lo hi)))
theorem Q1j:SlR X (J2c X.K):=by
 intro pins s σ H x v vl vu lo hi sl Q I rx hs pl pu h
 obtain ⟨a,xs,rfl,hx,hw,q⟩:=h
 cases rx
 obtain ⟨its,r,ht,hz⟩:=I.tuple hx
 have hlen:its.toArray.size=xs.length:=by rw [List.size_toArray];exact r.length.symm
 refine ⟨"tuple",_,PyProof.Rows.slot_tuple_getitem.lookup,ht.typeIs,?_⟩
 refine HT.getItem_tuple_cut ht hs pl pu (by rw [hlen];exact hw) ?_ (by rw [hlen];exact hz)
 rw [hlen]
 refine ⟨.ref s.heap.objs.size,_,I.laid (t':=s.toks) (o:=.tup (VC xs lo hi)) (fun b ob q=>B3 _ q) (Nat.le_refl _) ?_,rfl,q _ (I.hok.fresh (Nat.le_refl _))⟩
 exact ⟨Nat.le_trans (MY xs lo hi) hz,_,(r.drop (HT.sIx xs.length 0 lo)).take (HT.sIx xs.length xs.length hi - HT.sIx xs.length 0 lo),IsTup.new _ _⟩
noncomputable def V3c (K:Fg):R2:=fun x y H Q=>∃ a b ns ms,x=.ref a/\y=.ref b/\SqT K H a (ns.map V.int)/\SqT K H b (ms.map V.int)/\Q (.bl (HT.lexLt ns ms)) H
noncomputable def J9u (K:Fg):R2:=fun x y H Q=>∃ a b xs ys,x=.ref a/\y=.ref b/\SqT K H a xs/\SqT K H b ys/\xs≠[]/\xs.length+ys.length<=sizeLine /\
 (ys=[]->Q (.ref a) H)/\(ys≠[]->∀ p,H p=none->Q (.ref p) (upd H p (.tup (xs++ys))))
theorem Vals.nil_iff {xs:List V}{us:List Value}(r:Vals xs us):us=[]↔xs=[]:=by
 cases r with
 | nil=>simp
 | cons _ _=>simp
theorem J7d:OpR X (binaryOp .Add) (J9u X.K):=by
 intro pins s σ H x y v u Q I rx ry h
 obtain ⟨a,b,xs,ys,rfl,rfl,ha,hb,hx,hz,q1,q2⟩:=h
 cases rx
 cases ry
 obtain ⟨its,r1,p1,_⟩:=I.tuple ha
 obtain ⟨its2,r2,p2,_⟩:=I.tuple hb
 refine HT.cat_tup p1 p2 (fun z=>hx (r1.nil_iff.mp z)) (fun z=>⟨.ref a,H,I,rfl,q1 (r2.nil_iff.mp z)⟩) (fun z=>?_) (by rw [<- r1.length,<- r2.length];exact hz)
 refine ⟨.ref s.heap.objs.size,_,I.laid (t':=s.toks) (o:=.tup (xs++ys)) (fun b ob q=>B3 _ q) (Nat.le_refl _) ?_,rfl,q2 (fun w=>z (r2.nil_iff.mpr w)) _ (I.hok.fresh (Nat.le_refl _))⟩
 exact ⟨by rw [List.length_append];exact hz,_,r1.append r2,IsTup.new _ _⟩
end
def ixN (n:Nat)(i:Int):Option Nat:=if 0<=i then (if i<n then some i.toNat else none) else if -(n:Int)<=i then some (i+n).toNat else none
def atI {α:Type}(xs:List α)(i:Int):Option α:=(ixN xs.length i).bind fun j=>xs[j]?
theorem YR {n:Nat}{i:Int}{j:Nat}(h:ixN n i=some j):seqIndex? i n=some j/\j<n/\-(n:Int)<=i/\i<n:=by
 unfold ixN at h
 by_cases h0:0<=i
 · rw [if_pos h0] at h
   by_cases h1:i<n
   · rw [if_pos h1] at h
     have e:i.toNat=j:=Option.some.inj h
     exact ⟨by rw [seqIndex_of h0 h1,e],by omega,by omega,h1⟩
   · rw [if_neg h1] at h;cases h
 · rw [if_neg h0] at h
   by_cases h1 : -(n:Int)<=i
   · rw [if_pos h1] at h
     have e:(i+n).toNat=j:=Option.some.inj h
     exact ⟨by rw [seqIndex_neg (by omega) h1,e],by omega,h1,by omega⟩
   · rw [if_neg h1] at h;cases h
theorem ZI {α:Type}{xs:List α}{i:Int}{v:α}(h:atI xs i=some v):∃ j,seqIndex? i xs.length=some j/\xs[j]?=some v/\j<xs.length/\-(xs.length:Int)<=i/\i<xs.length:=by
 unfold atI at h
 cases e:ixN xs.length i with
 | none=>rw [e] at h;cases h
 | some j =>
   rw [e] at h
   obtain ⟨h1,h2,h3,h4⟩:=YR e
   exact ⟨j,h1,h,h2,h3,h4⟩
theorem LM {α:Type}{xs:List α}{j:Nat}{v:α}(h:xs[j]?=some v):atI xs (j:Int)=some v:=by
 have hj:j<xs.length:=(List.getElem?_eq_some_iff.mp h).1
 have e:ixN xs.length (j:Int)=some j:=by
  unfold ixN
  rw [if_pos (by omega),if_pos (by omega)];simp
 unfold atI;rw [e];exact h
def NQ (b:Expr):Prop:=∀ o i,subscripted b false o i=operate [o,i] (getItem o i)
def IxR (X:Cx)(r:R2):Prop :=
 ∀ (value slice:Expr) (pins:List (Addr×Obj)) (s:Shared) (σ:St) (H:Hp) (x y:V) (v u:Value) (Q:VK),Inv X pins σ H s->RelV x v->RelV y u->r x y H Q ->
  subscripted slice false v u=operate [v,u] (getItem v u)->wpAny (model X.prog X.w) X.A (subscriptTail value slice v u) (EP X pins σ Q) X.xe s
def MtR (X:Cx)(id:String)(r:V->List V->Hp->VK->Prop):Prop :=
 ∀ (pins:List (Addr×Obj)) (s:Shared) (σ:St) (H:Hp) (x:V) (xs:List V) (v:Value) (us:List Value) (Q:VK),Inv X pins σ H s->RelV x v->Vals xs us->r x xs H Q ->
  wpAny (model X.prog X.w) X.A (call (.builtin id) (v::us)) (EP X pins σ Q) X.xe s
section
variable {X:Cx}{a b:Expr}{ta tb:TE}{pos:Pos}
theorem IxR.or {r r':R2}(h:IxR X r)(h':IxR X r'):IxR X (fun x y H Q=>r x y H Q\/r' x y H Q):=by
 intro value slice pins s σ H x y v u Q I rx ry q hs
 rcases q with q|q
 · exact h value slice pins s σ H x y v u Q I rx ry q hs
 · exact h' value slice pins s σ H x y v u Q I rx ry q hs
theorem HS {r:R2}(hr:IxR X r)(ha:PE X a ta)(hb:PE X b tb)(hs:NQ b):PE X (.Subscript a b pos) (tOp r ta tb):=by
 intro pins s σ H Q I h
 exact Subscript_ (Q4r ha hb I h fun v u s2 x y H2 I2 rx ry q=>hr a b pins s2 σ H2 x y v u Q I2 rx ry q (hs _ _))
noncomputable def J0a (K:Fg):R2:=fun x y H Q=>∃ p xs i v,x=.ref p/\y=.int i/\SqL K H p xs/\atI xs i=some v/\Q v H
noncomputable def J2e (K:Fg):R2:=fun x y H Q=>∃ p xs i v,x=.ref p/\y=.int i/\SqT K H p xs/\atI xs i=some v/\Q v H
noncomputable def Q9g:R2:=fun x y H Q=>∃ z i c,x=.str z/\y=.int i/\z.length<=sizeLine/\atI z.cps.toList i=some c/\Q (.str ⟨#[c]⟩) H
theorem YQ:IxR X (J0a X.K):=by
 intro value slice pins s σ H x y v u Q I rx ry h hs
 obtain ⟨p,xs,i,z,rfl,rfl,hq,he,q⟩:=h
 cases rx
 obtain ⟨t,rfl⟩:=ry
 obtain ⟨its,r,pl,hz⟩:=I.list hq
 obtain ⟨j,h1,h2,h3,h4,h5⟩:=ZI he
 obtain ⟨w,ew,rw'⟩:=r.get h2
 have hl:=r.length
 have hn:=OT
 have fin:EP X pins σ Q w s:=⟨z,H,I,rw',q⟩
 by_cases h0:0<=i
 · have hj:i.toNat=j:=by
    rw [seqIndex_of h0 h5] at h1
    exact Option.some.inj h1
   exact item_listR pl.isList h0 (by omega) (by rw [hj];simpa using ew) fin hs
 · have hj:(i+(its.toArray.size:Int)).toNat=j:=by
    rw [seqIndex_neg (by omega) h4] at h1
    rw [List.size_toArray,<- hl]
    exact Option.some.inj h1
   exact subscriptTail_builtinR (x:=w) pl.isList.typeIs slot_list_getitem.lookup
    (wpAny_getItem_list_neg (Q:=fun r s'=>r=w/\EP X pins σ Q r s') pl.isList (by omega) (by rw [List.size_toArray]<;>omega) (by omega) (by rw [hj];simpa using ew) ⟨rfl,fin⟩) hs
theorem Q2q:IxR X (J2e X.K):=by
 intro value slice pins s σ H x y v u Q I rx ry h hs
 obtain ⟨p,xs,i,z,rfl,rfl,hq,he,q⟩:=h
 cases rx
 obtain ⟨t,rfl⟩:=ry
 obtain ⟨its,r,pl,hz⟩:=I.tuple hq
 obtain ⟨j,h1,h2,h3,h4,h5⟩:=ZI he
 obtain ⟨w,ew,rw'⟩:=r.get h2
 have hl:=r.length
 have hn:=OT
 have fin:EP X pins σ Q w s:=⟨z,H,I,rw',q⟩
 exact subscriptTail_builtinR (x:=w) pl.typeIs slot_tuple_getitem.lookup
  (getItem_tuple (j:=j) (Q:=fun r s'=>r=w/\EP X pins σ Q r s') pl (by omega) (by omega) (by rw [List.size_toArray,<- hl];exact h1) (by simpa using ew) ⟨rfl,fin⟩) hs
noncomputable def rIx (K:Fg):R2:=fun x y H Q=>J0a K x y H Q\/J2e K x y H Q\/Q9g x y H Q
theorem XC (its:List Value)(n j:Nat)(u:Value):Obj.mapSeq (·.setIfInBounds j u) { cls:=.type "list",data:=.seq its.toArray n }={ cls:=.type "list",data:=.seq (its.set j u).toArray n }:=by
 simp [Obj.mapSeq]
theorem Inv.lst {pins:List (Addr×Obj)}{σ:St}{H:Hp}{s:Shared}{p:Addr}{xs:List V}(I:Inv X pins σ H s)(h:H p=some (.lst xs)) :
 ∃ (its:List Value) (n:Nat),Vals xs its/\s.heap.get? p=some { cls:=.type "list",data:=.seq its.toArray n }/\xs.length<=sizeLine:=by
 obtain ⟨z,its,n,r,e⟩:=I.hok p _ h
 exact ⟨its,n,r,e,z⟩
theorem Inv.lstUpd {pins:List (Addr×Obj)}{σ:St}{H:Hp}{s:Shared}{p:Addr}{xs ys:List V}{its its':List Value}{n n':Nat}{f:Obj->Obj}(I:Inv X pins σ H s)(h:H p=some (.lst xs))
 (ho:s.heap.get? p=some { cls:=.type "list",data:=.seq its.toArray n }) (hf:f { cls:=.type "list",data:=.seq its.toArray n }={ cls:=.type "list",data:=.seq its'.toArray n' }) (r:Vals ys its') (hz:ys.length<=sizeLine) (t:Nat) :
 Inv X pins σ (upd H p (.lst ys)) { s with heap:=s.heap.update p f,toks:=t }:=by
 have e:(s.heap.update p f).get? p=some { cls:=.type "list",data:=.seq its'.toArray n' }:=by
  rw [Heap.get?_update_self f ho (by rw [hf]<;>rfl),hf]
 refine I.write (x:=p) (e:=p) (by rw [h];trivial) (.inl rfl) (fun b u hb q=>(Heap.get?_update_other _ _ (Ne.symm hb)).trans q) ⟨_,e⟩ ?_
 exact ⟨hz,its',n',r,e⟩
noncomputable def Q5u:V->V->V->Hp->(Hp->Prop)->Prop:=fun o i v H Q=>∃ p xs k j,o=.ref p/\i=.int k/\H p=some (.lst xs)/\ixN xs.length k=some j/\Q (upd H p (.lst (xs.set j v)))
theorem TZ:Q7w X Q5u:=by
 intro pins s σ H o i v ov iv u Q I ro ri rv h
 obtain ⟨p,xs,k,j,rfl,rfl,hp,hj,q⟩:=h
 cases ro
 obtain ⟨t,rfl⟩:=ri
 obtain ⟨its,n,r,ho,hz⟩:=I.lst hp
 obtain ⟨h1,h2,h3,h4⟩:=YR hj
 have hl:=r.length
 have hn:=OT
 have I':Inv X pins σ (upd H p (.lst (xs.set j v))) { s with heap:=s.heap.update p (Obj.mapSeq (·.setIfInBounds j u)) } :=
  I.lstUpd hp ho (XC its n j u) (r.set rv j) (by rw [List.length_set];exact hz) s.toks
 by_cases h0:0<=k
 · have hk:k.toNat=j:=by
    rw [seqIndex_of h0 h4] at h1
    exact Option.some.inj h1
   exact PySem.W.ki_setAt ho h0 (by omega) (by rw [List.size_toArray,<- hl];exact h4) (by rw [hk];exact ⟨_,I',q⟩)
 · have hk:(k+(its.toArray.size:Int)).toNat=j:=by
    rw [seqIndex_neg (by omega) h3] at h1
    rw [List.size_toArray,<- hl]
    exact Option.some.inj h1
   exact PySem.W.ki_setBack ho (by omega) (by rw [List.size_toArray,<- hl];exact h3) (by omega) (by rw [hk];exact ⟨_,I',q⟩)
theorem RP (lo hi:Option Int)(n:Nat):(sliceBounds lo hi none n).1=((HT.sIx n 0 lo:Nat):Int)/\(sliceBounds lo hi none n).2.1=((HT.sIx n n hi:Nat):Int)/\(sliceBounds lo hi none n).2.2=1:=by
 refine ⟨?_,?_,rfl⟩
 · cases lo with
   | none=>simp [sliceBounds,HT.sIx]
   | some i =>
     simp only [sliceBounds,HT.sIx,Option.getD_none,show (1:Int)>0 by decide,if_true]
     by_cases h:i<0
     · simp only [h,if_true]<;>omega
     · simp only [h,if_false]<;>omega
 · cases hi with
   | none=>simp [sliceBounds,HT.sIx]
   | some i =>
     simp only [sliceBounds,HT.sIx,Option.getD_none,show (1:Int)>0 by decide,if_true]
     by_cases h:i<0
     · simp only [h,if_true]<;>omega
     · simp only [h,if_false]<;>omega
theorem QA (its:List Value)(lo hi:Option Int):slicePick its.toArray lo hi none=((its.drop (HT.sIx its.length 0 lo)).take (HT.sIx its.length its.length hi - HT.sIx its.length 0 lo)).toArray:=by
 obtain ⟨h1,h2,h3⟩:=RP lo hi its.toArray.size
 unfold slicePick
 rw [h1,h2,h3]
 simp only [sliceRange_one,pick_run,List.size_toArray]<;>rfl
noncomputable def J2d (K:Fg):V->Option Int->Option Int->Hp->VK->Prop:=fun x lo hi H Q=>∃ a xs,x=.ref a/\SqL K H a xs/\∀ p,H p=none->Q (.ref p) (upd H p (.lst (VC xs lo hi)))
theorem J6q:SlR X (J2d X.K):=by
 intro pins s σ H x v vl vu lo hi sl Q I rx hs pl pu h
 obtain ⟨a,xs,rfl,hx,q⟩:=h
 cases rx
 obtain ⟨its,r,ht,hz⟩:=I.list hx
 have hlen:=r.length
 refine ⟨"list",_,slot_list_getitem.lookup,ht.isList.typeIs,?_⟩
 refine wpAny_getItem_list_slice ht.isList hs pl pu .none (by simp) ?_ (by rw [List.size_toArray]<;>omega)
 rw [QA,<- hlen]
 refine ⟨.ref s.heap.objs.size,_,I.laid (t':=s.toks) (o:=.lst (VC xs lo hi)) (fun b ob q=>B3 _ q) (Nat.le_refl _) ?_,rfl,q _ (I.hok.fresh (Nat.le_refl _))⟩
 exact ⟨Nat.le_trans (MY xs lo hi) hz,_,0,(r.drop (HT.sIx xs.length 0 lo)).take (HT.sIx xs.length xs.length hi - HT.sIx xs.length 0 lo),Heap.get?_push_size _ rfl⟩
def J3x:V->Bool
 | .non=>true
 | .bl _=>true
 | .int _=>true
 | .str _=>true
 | _=>false
def eqV:V->V->Bool
 | .non,.non=>true
 | .bl a,.bl b=>a==b
 | .bl a,.int b=>(if a then 1 else 0)==b
 | .int a,.bl b=>a==(if b then 1 else 0)
 | .int a,.int b=>a==b
 | .str a,.str b=>a==b
 | _,_=>false
def eqU (x:V)(u:Value):Bool:=match u with
 | .none=>eqV .non x
 | .bool b=>eqV (.bl b) x
 | .int i _=>eqV (.int i) x
 | .str z _=>eqV (.str z) x
 | _=>false
def inV (x:V)(xs:List V):Bool:=xs.any fun y=>eqV y x
noncomputable def rIn (K:Fg)(neg:Bool):R2:=fun x y H Q=>∃ p xs,y=.ref p/\(SqL K H p xs\/SqT K H p xs)/\J3x x=true/\xs.all J3x=true/\Q (.bl (if neg then !inV x xs else inV x xs)) H
theorem TF:DL X (.builtin "len") (fun xs H Q=>∃ p ys,xs=[.ref p]/\(SqL X.K H p ys\/SqT X.K H p ys)/\Q (.int ys.length) H):=by
 intro pins s σ H xs us Q I r h
 obtain ⟨p,ys,rfl,hq,q⟩:=h
 obtain ⟨u,rfl,rx⟩:=KC r
 cases rx
 have hn:=OT
 rcases hq with hq|hq
 · obtain ⟨its,r',pl,hz⟩:=I.list hq
   have hlen:=r'.length
   exact Calls.call_len_list pl.isList (by simp only [List.size_toArray]<;>omega) ⟨.int ys.length,H,I.tok _,⟨s.toks+1,by rw [List.size_toArray,hlen]⟩,q⟩
 · obtain ⟨its,r',pl,hz⟩:=I.tuple hq
   have hlen:=r'.length
   exact len_tuple pl (by simp only [List.size_toArray]<;>omega) ⟨.int ys.length,H,I.tok _,⟨s.toks+1,by rw [List.size_toArray,hlen]⟩,q⟩
theorem TD:DL X (.type "list") (fun xs H Q=>∃ p ys,xs=[.ref p]/\(SqL X.K H p ys\/SqT X.K H p ys)/\∀ l,H l=none->Q (.ref l) (upd H l (.lst ys))):=by
 intro pins s σ H xs us Q I r h
 obtain ⟨p,ys,rfl,hq,q⟩:=h
 obtain ⟨u,rfl,rx⟩:=KC r
 cases rx
 have fin:∀ (its:List Value),Vals ys its->ys.length<=sizeLine->∀ (h':Heap) (c':Nat),(∀ b o',s.heap.get? b=some o'->h'.get? b=some o') ->
  h'.get? s.heap.objs.size=some { cls:=.type "list",dict:=none,data:=.seq its.toArray c',slots:=#[] }->EP X pins σ Q (.ref s.heap.objs.size) { s with heap:=h' }:=fun its r' hz h' c' kp e =>
  ⟨.ref s.heap.objs.size,_,I.laid (t':=s.toks) kp (Nat.le_refl _) (show ObjOk X.prog X.w _ h' _ (.lst ys) from ⟨hz,its,c',r',e⟩),rfl,q _ (I.hok.fresh (Nat.le_refl _))⟩
 rcases hq with hq|hq
 · obtain ⟨its,r',pl,hz⟩:=I.list hq
   have hlen:=r'.length
   obtain ⟨o,ho,hc,n,hd⟩:=pl.isList
   exact call_list_seq p (.inl rfl) ho hc hd (fun h' c' kp e=>fin its r' hz h' c' kp e) (by simp only [List.size_toArray]<;>omega)
 · obtain ⟨its,r',pl,hz⟩:=I.tuple hq
   have hlen:=r'.length
   obtain ⟨o,ho,hc,n,hd⟩:=pl
   exact call_list_seq p (.inr rfl) ho hc hd (fun h' c' kp e=>fin its r' hz h' c' kp e) (by simp only [List.size_toArray]<;>omega)
theorem QL:DL X (.type "tuple") (fun xs H Q=>∃ p ys,xs=[.ref p]/\((SqL X.K H p ys/\∀ l,H l=none->Q (.ref l) (upd H l (.tup ys)))\/(SqT X.K H p ys/\Q (.ref p) H))):=by
 intro pins s σ H xs us Q I r h
 obtain ⟨p,ys,rfl,h⟩:=h
 obtain ⟨u,rfl,rx⟩:=KC r
 cases rx
 rcases h with ⟨hq,q⟩|⟨hq,q⟩
 · obtain ⟨its,r',pl,hz⟩:=I.list hq
   have hlen:=r'.length
   refine call_tuple_list pl.isList (fun h' kp=>?_) (by simp only [List.size_toArray]<;>omega)
   have I1:Inv X pins σ H { s with heap:=h' }:=I.kept (t':=s.toks) kp
   have I2:Inv X pins σ (upd H h'.objs.size (.tup ys)) { s with heap:=h'.push { cls:=.type "tuple",data:=.seq its.toArray } } :=
    I1.laid (t':=s.toks) (fun b o e=>B3 _ e) (Nat.le_refl _) (show ObjOk X.prog X.w _ _ _ (.tup ys) from ⟨hz,its,r',IsTup.new _ _⟩)
   exact ⟨.ref h'.objs.size,_,I2,rfl,q _ (I1.hok.fresh (Nat.le_refl _))⟩
 · obtain ⟨its,r',pl,hz⟩:=I.tuple hq
   exact call_tuple_same pl ⟨.ref p,H,I,rfl,q⟩
def tyV (K:Fg)(T:String)(x:V)(H:Hp):Prop:=match x with
 | .str _=>T = "str"
 | .int _=>T = "int"
 | .ref p=>(T = "list"/\∃ xs,SqL K H p xs)\/(T = "tuple"/\∃ o,K.lookup p=some o/\o.cls=.type "tuple"/\o.dict=none) \/
  (T = "dict"/\((∃ kvs,H p=some (.dK kvs))\/∃ kvs,H p=some (.dT kvs)))\/(T = "set"/\∃ S n,H p=some (.set S n))
 | _=>False
theorem Q0z {pins:List (Addr×Obj)}{σ:St}{H:Hp}{s:Shared}{T:String}{x:V}{v:Value}(I:Inv X pins σ H s)(r:RelV x v)(ty:tyV X.K T x H) :
 s.TypeIs v T/\∀ a,v=.ref a->∃ ob,s.heap.get? a=some ob/\ob.dict=none:=by
 cases x with
 | str z =>
   obtain ⟨t,rfl⟩:=r
   cases (show T = "str" from ty)
   exact ⟨typeIs_str s z t,fun _ e=>nomatch e⟩
 | int i =>
   obtain ⟨t,rfl⟩:=r
   cases (show T = "int" from ty)
   exact ⟨typeIs_int s i t,fun _ e=>nomatch e⟩
 | ref p =>
   cases r
   rcases ty with ⟨rfl,xs,hq⟩|⟨rfl,o,hk,hc,hd⟩|⟨rfl,hk⟩|⟨rfl,S,n,hk⟩
   · obtain ⟨its,_,pl,_⟩:=I.list hq
     refine ⟨pl.isList.typeIs,fun a e=>?_⟩
     cases e
     obtain ⟨o,n,e,c,hd,_⟩:=pl
     exact ⟨o,e,hd⟩
   · refine ⟨⟨o,I.kIn p o hk,hc⟩,fun a e=>?_⟩
     cases e
     exact ⟨o,I.kIn _ o hk,hd⟩
   · have z:∃ o,s.heap.get? p=some o/\o.ExactDict:=by
      rcases hk with ⟨kvs,hk⟩|⟨kvs,hk⟩
      · obtain ⟨_,_,_,_,o,_,_,e,ex,_⟩:=I.hok p _ hk
        exact ⟨o,e,ex⟩
      · obtain ⟨_,_,_,_,o,_,_,e,ex,_⟩:=I.hok p _ hk
        exact ⟨o,e,ex⟩
     obtain ⟨o,e,ex⟩:=z
     refine ⟨⟨o,e,ex.1⟩,fun a e2=>?_⟩
     cases e2
     exact ⟨o,e,ex.2.1⟩
   · obtain ⟨o,_,_,_,e,ex,_⟩:=I.hok p _ hk
     refine ⟨⟨o,e,ex.1⟩,fun a e2=>?_⟩
     cases e2
     exact ⟨o,e,ex.2.1⟩
 | _=>exact False.elim ty
noncomputable def V2w (K:Fg)(T:String)(r:V->List V->Hp->VK->Prop)(to:TE):TE:=fun σ H Q=>to σ H fun x H1=>tyV K T x H1/\r x [] H1 Q
noncomputable def tBM (K:Fg)(T:String)(r:V->List V->Hp->VK->Prop)(to:TE)(t:TA):TE:=fun σ H Q=>to σ H fun x H1=>tyV K T x H1/\t σ H1 fun xs H2=>r x xs H2 Q
variable {o e:Expr}{es:List Expr}{to:TE}{t:TA}{name:Str}{apos cpos:Pos}{T id:String}{r:V->List V->Hp->VK->Prop}
theorem HU (pa:PlainAttrs T)(slot:Slot T name id)(hty:typeOf (.builtin id)=pure (.type "method_descriptor")) (hm:MtR X id r) (ho:PE X o to) (ha:PA X (e::es) t)
 (hbase:attributeBase o name X.env (eval o X.env)=eval o X.env:=by rfl)
 (hfew:((backTo cpos (starEach (e::es) X.env)).all (fun x=>!x.1)&&(backToKw cpos (keywordEach [] X.env)).all (fun x=>x.1.isSome)
  && decide ((e::es).length+([]:List Keyword).length+(if ([]:List Keyword).isEmpty then 0 else 1)<30))=true:=by rfl)
 (hline:(apos.endLine==cpos.line)=true:=by rfl) (hs:starEach (e::es) X.env=(false,eval e X.env)::starEach es X.env:=by rfl) (hplain:(backTo cpos (starEach es X.env)).any (·.1)=false:=by rfl) :
 PE X (.Call (.Attribute o name apos) (e::es) [] cpos) (tBM X.K T r to t):=by
 intro pins s σ H Q I h
 refine wpAny_Call_method_late hbase hfew hline rfl (thn (ho pins s σ H _ I h) fun v s1 ⟨x,H1,I1,r1,ty,q1⟩=>?_)
 obtain ⟨h1,h2⟩:=Q0z I1 r1 ty
 refine ⟨T,id,pa,slot,hty,h1,h2,?_⟩
 have hA:=ha cpos pins s1 σ H1 _ I1 q1
 rw [hs] at hA ⊢
 refine Calls.callWith_builtin (by show (false||(backTo cpos (starEach es X.env)).any (·.1))=false;rw [hplain]<;>rfl) (Calls.evalArgs_plain ?_)
 exact thn hA fun us s2 ⟨vs,H2,I2,r2,q2⟩=>hm pins s2 σ H2 x vs v us Q I2 r1 r2 q2
end
def MtM (X:Cx)(id:String)(r:V->List V->Hp->VK->Prop):Prop :=
 ∀ (pins:List (Addr×Obj)) (s:Shared) (σ:St) (H:Hp) (x:V) (xs:List V) (v:Value) (us:List Value) (Q:VK),Inv X pins σ H s->RelV x v->Vals xs us->r x xs H Q ->
  wpAny (model X.prog X.w) X.A (call (.builtin id) (v::us)) (EP X pins σ Q) X.xe s
theorem Vals.one:∀ {x:V} {us:List Value},Vals [x] us->∃ u,us=[u]/\RelV x u
 | _,_,.cons r .nil=>⟨_,rfl,r⟩
theorem Vals.two:∀ {x y:V} {us:List Value},Vals [x,y] us->∃ u v,us=[u,v]/\RelV x u/\RelV y v
 | _,_,_,.cons r (.cons q .nil)=>⟨_,_,rfl,r,q⟩
theorem Vals.reverse {xs:List V}{us:List Value}(h:Vals xs us):Vals xs.reverse us.reverse:=by
 induction h with
 | nil=>exact .nil
 | cons r t ih=>rw [List.reverse_cons,List.reverse_cons];exact Vals.append ih (.cons r .nil)
theorem Vals.rep {xs:List V}{us:List Value}(h:Vals xs us):∀ k:Nat,Vals (List.replicate k xs).flatten (List.replicate k us).flatten
 | 0=>.nil
 | k+1=>by
   rw [List.replicate_succ,List.replicate_succ,List.flatten_cons,List.flatten_cons]
   exact Vals.append h (Vals.rep h k)
theorem QX (its:List Value):∀ (k:Nat) (acc:List Value),
 List.foldl (fun x1 x2=>x1++x2) acc.toArray (List.replicate k its.toArray)=(acc++(List.replicate k its).flatten).toArray
 | 0,acc=>by simp
 | k+1,acc=>by
   have e:acc.toArray++its.toArray=(acc++its).toArray:=by simp
   have e2:(acc++its)++(List.replicate k its).flatten=acc++(List.replicate (k+1) its).flatten:=by
    rw [List.replicate_succ,List.flatten_cons,List.append_assoc]
   rw [<- e2,<- QX its k (acc++its),<- e,List.replicate_succ,List.foldl_cons]
section
variable {X:Cx}{pins:List (Addr×Obj)}{σ:St}{H:Hp}{s:Shared}{l:Addr}{xs ys:List V}
theorem Inv.lset {its its':List Value}{n:Nat}{f:Array Value->Array Value}{t':Nat}(I:Inv X pins σ H s)(hH:H l=some (.lst xs))
 (e:s.heap.get? l=some { cls:=.type "list",data:=.seq its.toArray n }) (hf:f its.toArray=its'.toArray) (hv:Vals ys its') (hz:ys.length<=sizeLine) :
 Inv X pins σ (upd H l (.lst ys)) { s with heap:=s.heap.update l (Obj.mapSeq f),toks:=t' }:=by
 have q:=PySem.IsL.update e f
 rw [hf] at q
 refine I.write (x:=l) (e:=l) (by rw [hH];exact trivial) (.inl rfl) (fun b' u hb hu=>(Heap.get?_update_other s.heap (Obj.mapSeq f) (Ne.symm hb)).trans hu) ⟨_,q⟩ ?_
 exact ⟨hz,its',_,hv,q⟩
theorem Inv.lnew {its:List Value}{t':Nat}(I:Inv X pins σ H s)(hv:Vals ys its)(hz:ys.length<=sizeLine) :
 Inv X pins σ (upd H s.heap.objs.size (.lst ys)) { s with heap:=s.heap.push { cls:=.type "list",data:=.seq its.toArray },toks:=t' } :=
 I.laid (fun _ _ q=>B3 _ q) (Nat.le_refl _) ⟨hz,its,0,hv,Heap.get?_push_size _ rfl⟩
theorem Inv.fresh (I:Inv X pins σ H s):H s.heap.objs.size=none:=I.hok.fresh (Nat.le_refl _)
theorem Inv.lstM (I:Inv X pins σ H s)(hH:H l=some (.lst xs)):xs.length<=sizeLine/\∃ (its:List Value) (n:Nat),Vals xs its/\xs.length=its.length/\s.heap.get? l=some { cls:=.type "list",data:=.seq its.toArray n }:=by
 obtain ⟨z,its,n,r,e⟩:=I.hok l _ hH
 exact ⟨z,its,n,r,r.length,e⟩
theorem UP {n:Nat}(h:n<=sizeLine):Builtin.List.listTooLong n=false:=by
 unfold Builtin.List.listTooLong
 exact decide_eq_false (by omega)
end
section
variable {X:Cx}
noncomputable def EY:V->List V->Hp->VK->Prop:=fun x vs H Q=>∃ l xs y,x=.ref l/\vs=[y]/\H l=some (.lst xs)/\xs.length<sizeLine/\Q .non (upd H l (.lst (xs++[y])))
theorem DY:MtM X "list.append" EY:=by
 intro pins s σ H x vs v us Q I rx rv h
 obtain ⟨l,xs,y,rfl,rfl,hH,hz,q⟩:=h
 cases rx
 obtain ⟨u,rfl,ru⟩:=rv.one
 obtain ⟨z,its,n,r,hl,e⟩:=I.lstM hH
 refine call_meets F.slot_list_append ⟨_,e,rfl⟩ F.entry_list_append (F.args_list_append_2 _ _) (PySem.list_append l its.toArray n u (by rw [List.size_toArray];omega)) ⟨e,?_⟩
 refine ⟨.non,_,I.lset (its':=its++[u]) hH e (by simp) (r.append (.cons ru .nil)) ?_,rfl,q⟩
 rw [List.length_append,List.length_singleton]
 omega
noncomputable def J6u:V->List V->Hp->VK->Prop:=fun x vs H Q=>∃ l b xs zs,x=.ref l/\vs=[.ref b]/\H l=some (.lst xs)/\H b=some (.lst zs)/\xs.length+zs.length<=sizeLine/\Q .non (upd H l (.lst (xs++zs)))
theorem Q5e:MtM X "list.extend" J6u:=by
 intro pins s σ H x vs v us Q I rx rv h
 obtain ⟨l,b,xs,zs,rfl,rfl,hH,hB,hz,q⟩:=h
 cases rx
 obtain ⟨u,rfl,ru⟩:=rv.one
 cases ru
 obtain ⟨z,its,n,r,hl,e⟩:=I.lstM hH
 obtain ⟨z2,its2,n2,r2,hl2,e2⟩:=I.lstM hB
 have hsz:its.toArray.size+its2.toArray.size<=sizeLine:=by rw [List.size_toArray,List.size_toArray];omega
 have hlong:¬ (!its.toArray.isEmpty&&Builtin.List.listTooLong (its.toArray.size+its2.toArray.size))=true:=by
  rw [UP hsz,Bool.and_false]
  exact Bool.false_ne_true
 refine call_meets F.slot_list_extend ⟨_,e,rfl⟩ F.entry_list_extend (F.args_list_extend_2 _ _)
  (AutoSeq1.list_extend_list_list_0 l its.toArray n b its2.toArray n2 hlong (by rw [List.size_toArray];omega) (by omega)) ⟨e,e2,?_⟩
 refine ⟨.non,_,I.lset (its':=its++its2) hH e (by simp) (r.append r2) ?_,rfl,q⟩
 rw [List.length_append]
 omega
noncomputable def V3b:V->List V->Hp->VK->Prop:=fun x vs H Q=>∃ l xs y,x=.ref l/\vs=[]/\H l=some (.lst xs)/\xs[xs.length - 1]?=some y/\Q y (upd H l (.lst xs.dropLast))
noncomputable def Q9f:V->List V->Hp->VK->Prop:=fun x vs H Q=>∃ l xs i k y,x=.ref l/\vs=[.int i]/\H l=some (.lst xs)/\-(2 ^ 63)<=i/\i<2 ^ 63/\seqIndex? i xs.length=some k/\xs[k]?=some y/\Q y (upd H l (.lst (xs.eraseIdx k)))
noncomputable def Q5v:V->List V->Hp->VK->Prop:=fun x vs H Q=>∃ l xs,x=.ref l/\vs=[]/\H l=some (.lst xs)/\Q .non (upd H l (.lst xs.reverse))
noncomputable def Q9h:V->List V->Hp->VK->Prop:=fun x vs H Q=>∃ l xs,x=.ref l/\vs=[]/\H l=some (.lst xs)/\Q .non (upd H l (.lst []))
noncomputable def Q5y:R2:=fun x y H Q=>∃ l b xs zs,x=.ref l/\y=.ref b/\H l=some (.lst xs)/\H b=some (.lst zs)/\xs.length+zs.length<=sizeLine/\∀ p,H p=none->Q (.ref p) (upd H p (.lst (xs++zs)))
theorem SA:OpR X (binaryOp .Add) Q5y:=by
 intro pins s σ H x y v u Q I rx ry h
 obtain ⟨l,b,xs,zs,rfl,rfl,hH,hB,hz,q⟩:=h
 cases rx
 cases ry
 obtain ⟨z,its,n,r,hl,e⟩:=I.lstM hH
 obtain ⟨z2,its2,n2,r2,hl2,e2⟩:=I.lstM hB
 refine PySem.P.add_list e e2 ?_ (by rw [List.size_toArray,List.size_toArray];omega)
 have ea:its.toArray++its2.toArray=(its++its2).toArray:=by simp
 rw [ea]
 exact ⟨.ref _,_,I.lnew (t':=s.toks) (r.append r2) (by rw [List.length_append];omega),rfl,q _ I.fresh⟩
noncomputable def Q5x:R2:=fun x y H Q=>∃ l k xs,x=.ref l/\y=.int k/\H l=some (.lst xs)/\-(2 ^ 63)<=k/\k<2 ^ 63/\xs.length*k.toNat<=sizeLine /\
 ∀ p,H p=none->Q (.ref p) (upd H p (.lst (List.replicate k.toNat xs).flatten))
theorem J7m {α:Type}(xs:List α)(k:Nat):(List.replicate k xs).flatten.length=k*xs.length:=by
 induction k with
 | zero=>simp
 | succ k ih=>rw [List.replicate_succ,List.flatten_cons,List.length_append,ih,Nat.succ_mul,Nat.add_comm]
theorem WO:OpR X (binaryOp .Mult) Q5x:=by
 intro pins s σ H x y v u Q I rx ry h
 obtain ⟨l,k,xs,rfl,rfl,hH,h1,h2,hz,q⟩:=h
 cases rx
 obtain ⟨t,rfl⟩:=ry
 obtain ⟨z,its,n,r,hl,e⟩:=I.lstM hH
 have hlen:its.toArray.size*k.toNat<=sizeLine:=by rw [List.size_toArray,<- hl];exact hz
 have hcap:¬ its.toArray.size*k.toNat>(2 ^ 63 - 1) / 8:=by
  have:(sizeLine:Nat)<=(2 ^ 63 - 1) / 8:=by decide
  omega
 have hfit:¬ (!Builtin.List.listFitsIndex k)=true:=by
  rw [fitsIndex_both h1 h2]
  exact Bool.false_ne_true
 have hlong:¬ Builtin.List.listTooLong (its.toArray.size*k.toNat)=true:=by
  rw [UP hlen]
  exact Bool.false_ne_true
 have hnew:List.foldl (fun x1 x2=>x1++x2) #[] (List.replicate (if its.toArray.isEmpty=true then 0 else k.toNat) its.toArray)=(List.replicate k.toNat its).flatten.toArray:=by
  have f0:∀ m:Nat,List.foldl (fun x1 x2=>x1++x2) #[] (List.replicate m its.toArray)=(List.replicate m its).flatten.toArray:=fun m=>by
   have:=QX its m []
   rw [List.nil_append] at this
   exact this
  rw [f0]
  cases its with
  | nil=>simp
  | cons a r'=>rw [if_neg (by simp)]
 refine wpAny_binaryOp_repeat_ref (T:="list") (U:="int") (by decide) ⟨_,e,rfl⟩ (fun s'=>typeIs_int s' k t) noFill_list_mul F.fills_int_mul F.slot_int_rmul repeat_list F.slot_int_index.lookup
  (call_meets F.slot_int_rmul (typeIs_int s k t) F.entry_int_rmul (F.args_int_rmul_2 _ _) (int___rmul___int_list k t l its.toArray n)
   ⟨e,rfl,⟨_,e,rfl⟩,call_meets F.slot_list_mul ⟨_,e,rfl⟩ F.entry_list_mul (F.args_list_mul_2 _ _) (AutoListH.list___mul___list_int_3 l its.toArray n k t hfit hcap hlong) ⟨e,?_⟩⟩)
 rw [hnew]
 exact ⟨.ref _,_,I.lnew (t':=s.toks) (r.rep k.toNat) (by rw [J7m,Nat.mul_comm];exact hz),rfl,q _ I.fresh⟩
end
end L2
namespace Att
open PySem PySem.W PySem.Calls PyProof.Rows
theorem NI {P:Params}{h:Heap}:∀ (ns:List Int) (vs:List Value),WellAll P h vs (ns.map WData.int)->IntsAre vs ns:=by
 intro ns
 induction ns with
 | nil =>
   intro vs w
   rw [List.map_nil] at w
   cases w
   exact .nil
 | cons n ns ih =>
   intro vs w
   rw [List.map_cons] at w
   cases w with
   | cons a b =>
     cases a
     exact .cons _ _ (ih _ b)
theorem ZY {l:OpenLaw}{n:Nat}(hn:l.most=some n){P:Params}{h:Heap}{args:List WData}{vals:List Value}
 (hpre:l.row.toRowW.claim.pre args=true) (hwl:WellAll P h vals args) :
 ∃ a vs ns,vals=[Value.ref a]/\args=[WData.list (ns.map WData.int)]/\h.get? a=some { cls:=.type "list",data:=.seq vs.toArray }/\IntsAre vs ns/\ns.length<=n:=by
 have hsh:WShape.hasAll [] args [.list .int]=true:=(pre_splitW hpre).1
 have hc:l.pre.holds [] { args:=args }=true:=(pre_splitW hpre).2
 obtain ⟨d,r,rfl,h1,h2⟩:=hasAllW_cons hsh
 obtain rfl:=hasAllW_nil h2
 obtain ⟨xs,rfl,h3⟩:=hasW_list h1
 obtain ⟨ns,rfl⟩:=items_int h3
 have hlen:ns.length<=n:=by
  unfold OpenLaw.pre at hc
  have h4:(WTm.not (.lt (.lit (.int (n:Int))) (.len (.arg 0)))).holds [] { args:=[.list (ns.map .int)] }=true:=by
   have h4:=(holds_andW hc).1
   rw [hn] at h4
   exact h4
  have h5:=condW_of h4 (w_not (w_lt w_lit (w_len_list (w_arg rfl))))
  rw [List.length_map] at h5
  refine Nat.le_of_not_lt fun q=>?_
  have q':(n:Int)<((ns.length:Nat):Int):=by omega
  first
   | (rw [decide_eq_true q'] at h5;exact absurd h5 (by decide))
   | (simp at h5;omega)
 cases hwl with
 | cons w1 w2 =>
   cases w2
   cases w1 with
   | list ho hall=>exact ⟨_,_,ns,rfl,rfl,ho,NI ns _ hall,hlen⟩
theorem J0d (l:OpenLaw)(args:List WData):l.row.toRowW.claim.post args (.bool true) args=true :=
 postW_of (r:=l.row.toRowW) (X:=(true==true))
  (show WShape.has [] (.bool true) .bool=true by first|rfl|decide|simp [WShape.has,WShape.arms,WShape.armsAll])
  (show (WTm.eq .res (.lit (.bool true))).value [] { args:=args,res:=some (.bool true),after:=args }=some (.bool (true==true)) from w_eq_bool (w_res rfl) w_lit) rfl
theorem attach_call {l:OpenLaw}{n:Nat}{q:Program}{loose:List Str}{XP:(Str->Option Value)->Heap->Prop}{YP:World->Heap->Prop}{d:DefRec}
 (hn:l.most=some n) (hdf:d.params.defaults=[])
 (call:∀ (w:World) (s₀ s₁:Shared) (mg mb:Str->Option Value) (fa:Addr) (o:Obj) (pm cd doc:Value) (a:Addr) (vs:List Value) (ns:List Int),
  Ground q loose [] XP w s₀ mg mb s₁.heap->YP w s₁.heap ->
  s₁.heap.get? fa=some o->o.data=.func (docDef d.name d.params d.body d.scope pm cd doc)->s₁.heap.CodeRec cd d.name->mg d.name=some (.ref fa) ->
  s₁.heap.get? a=some { cls:=.type "list",data:=.seq vs.toArray }->IntsAre vs ns->ns.length<=n->s₁.gens=#[] ->
  codeAny (model l.prog w) callerA (.call (.ref fa) ⟨[.ref a],[]⟩) (fun r s'=>r=.ok (.ret (.bool true))/\OldK s₁.heap s'.heap/\s'.os=s₁.os/\AllBare s'.gens) s₁) :
 WalkO q loose XP YP l.row.toRowW d [] (fun f vs=>PySem.call f vs):=by
 intro w s₀ s₁ mg mb G Y fa o pm cd doc dV kV ho hd hcd hD hmg hg args vals as hpre hlay hrd hwl hlo
 obtain rfl:dV=.none:=Dflts.none hD hdf
 obtain rfl:kV=.none:=Dflts.noKw hD
 obtain ⟨a,vs,ns,rfl,rfl,hobj,hints,hlen⟩:=ZY hn hpre hwl
 refine enter_call (codeAny_mono (call w s₀ s₁ mg mb fa o pm cd doc a vs ns G Y ho (fd_plain hd) hcd hmg hobj hints hlen hg) fun r s' hq=>?_)
 obtain ⟨rfl,h2,h3,h4⟩:=hq
 exact ⟨.inl ⟨.bool true,.bool true,[],rfl,fun _=>rfl,.bool true,J0d l _,fun _=>⟨List.Pairwise.nil,fun _ hm=>(nomatch hm)⟩⟩,h2,h3,h4⟩
section
def Q9l (h:Heap):Heap:={ h with objs:=#[] }
def Q9m (h:Heap)(L d:Addr):List (Addr×Obj):=(List.range h.objs.size).filterMap fun a=>if a=L\/a=d then none else (h.get? a).map fun o=>(a,o)
end
end Att
namespace L2
open PySem PySem.Spec PyProof.Rows
theorem QQ:∀ {vs:List Value} {ns:List Int},IntsAre vs ns->Vals (ns.map V.int) vs
 | _,_,.nil=>.nil
 | _,_,.cons n t h=>.cons ⟨t,rfl⟩ (QQ h)
def Q4x (H:Hp):Prop:=∀ b,H b=none\/∃ o xs,H b=some (.frz o (.lst xs))
theorem J3e {P:Program}{w:World}{K:Fg}{mg mb:Str->Option Value}{CX:CXT}{k:Nat}{fa a:Addr}{fd:FuncData}{x:Str}{sp:Sp}{s₁:Shared}{vs:List Value}{ns:List Int}
 (KX:K.In s₁.heap) (hns:s₁.heap.Ns mainGlobals mg) (hb:s₁.heap.Ns builtinsNs mb) (hbb:∀ x:Str,x≠"__name__"->mb x=bootBuiltins x) (hlim:s₁.heap.NoLimit) (hg:s₁.gens=#[])
 (ha:s₁.heap.get? a=some { cls:=.type "list",data:=.seq vs.toArray }) (hi:IntsAre vs ns) (hl:ns.length<=sizeLine) (hr:Room k callerA)
 (F:∀ base:Heap,K.In base->base.Ns mainGlobals mg->FnOk P w K mg base CX k fa fd [x] sp) (hbind:∀ (s:Shared) (u:Value),BindsTo s fd ⟨[u],[]⟩ [(x,u)])
 (hsp:∀ H:Hp,Q4x H->SqL K H a (ns.map V.int)->sp [.ref a] H (fun v _=>v=.bl true) fun _ _ _=>False)
 (hCX:∀ H e s',CX [] H s₁ (fun _ _ _=>False) e s'->False) :
 codeAny (model P w) callerA (.call (.ref fa) ⟨[.ref a],[]⟩) (fun r s'=>r=.ok (.ret (.bool true))/\OldK s₁.heap s'.heap/\s'.os=s₁.os/\AllBare s'.gens) s₁:=by
 have rv:=QQ hi
 have lenV:=hi.length
 have core:∀ H:Hp,Q4x H->SqL K H a (ns.map V.int)->HOk P w H s₁.heap->(∀ b,H b≠none->b=a)->(H a≠none->K.lookup a=none) ->
  codeAny (model P w) callerA (.call (.ref fa) ⟨[.ref a],[]⟩) (fun r s'=>r=.ok (.ret (.bool true))/\OldK s₁.heap s'.heap/\s'.os=s₁.os/\AllBare s'.gens) s₁:=by
  intro H hO hS hok hA hK
  have base_of:∀ {b:Addr} {o:Obj},s₁.heap.get? b=some o->H b=none->(SR s₁.heap H).get? b=some o:=fun e n=>J3s e n
  have noA:∀ {b:Addr} {o:Obj} {es:Array DictEntry} {ep:Nat},s₁.heap.get? b=some o->o.data=.dict es ep->H b=none:=fun {b o es ep} e d=>by
   cases q:H b with
   | none=>rfl
   | some u =>
     have e':b=a:=hA b (by rw [q];simp)
     subst e'
     rw [ha] at e;cases e
     have d':Data.seq vs.toArray _=Data.dict es ep:=d
     cases d'
  have nsK:∀ {b:Addr} {m:Str->Option Value},s₁.heap.Ns b m->(SR s₁.heap H).Ns b m:=fun {b m} ⟨o,es,ep,e,d,r⟩=>⟨o,es,ep,base_of e (noA e d),d,r⟩
  have hKb:K.In (SR s₁.heap H):=fun b o e=>base_of (KX b o e) (by
   cases q:H b with
   | none=>rfl
   | some u =>
     have e':b=a:=hA b (by rw [q];simp)
     subst e'
     rw [hK (by rw [q];simp)] at e;cases e)
  have hM:Mod K mg (SR s₁.heap H):=⟨hKb,nsK hns,⟨mb,nsK hb,hbb⟩,let ⟨mc,h1,h2⟩:=hlim;⟨mc,nsK h1,h2⟩⟩
  have e0:Env0 P w K mg (SR s₁.heap H) callerA [] s₁ H:=⟨rfl,hM,fun b o e=>J7h e,Nat.le_of_eq (J0u _ _),trivial,fun b hb=>absurd (show b∈([]:List Addr) from hb) (by simp),hok,.of_eq hg⟩
  refine codeAny_mono ((F _ hKb (nsK hns)).run callerA [] s₁ H ⟨[.ref a],[]⟩ [.ref a] [.ref a] _ _ hr e0 (hbind s₁ (.ref a)) (.cons rfl .nil) (hsp H hO hS)) fun r s' h=>?_
  cases r with
  | error e=>exact (hCX H e s' h).elim
  | ok fl =>
    cases fl with
    | next=>exact False.elim h
    | brk=>exact False.elim h
    | cont=>exact False.elim h
    | ret u =>
      obtain ⟨v,H',os,bare,un,hok',r',q⟩:=h
      have q':v=.bl true:=q
      subst q'
      obtain rfl:u=Value.bool true:=r'
      refine ⟨rfl,OldK.of_keep fun b o e=>?_,os,bare⟩
      cases q:H b with
      | none=>exact un.keep b o e q (by intro z;exact absurd (show b∈([]:List Addr) from z) (by simp)) (by simp)
      | some u =>
        rcases hO b with z|⟨ob,xs,z⟩
        · rw [q] at z;cases z
        · have z2:=un.frzs b ob _ z
          obtain ⟨e1,_⟩:=hok b _ z
          obtain ⟨e2,_⟩:=hok' b _ z2
          rw [e] at e1;cases e1
          exact e2
 cases hk:K.lookup a with
 | some o =>
   have e:=KX a o hk
   rw [ha] at e
   cases e
   refine core (fun _=>none) (fun _=>.inl rfl) (.inr ⟨_,vs.toArray,_,hk,rfl,rfl,rfl,by rw [List.size_toArray,lenV];exact hl,by simpa using rv⟩) (fun b u z=>by have z':(none:Option HO)=some u:=z;cases z') (fun b z=>absurd rfl z) fun z=>absurd rfl z
 | none =>
   refine core (fun b=>if b=a then some (.frz { cls:=.type "list",data:=.seq vs.toArray } (.lst (ns.map V.int))) else none) (fun b=>?_) (.inl (.inr ⟨{ cls:=.type "list",data:=.seq vs.toArray },if_pos rfl⟩)) (fun b u z=>?_) (fun b z=>?_) fun _=>hk
   · by_cases hb:b=a
     · exact .inr ⟨_,_,if_pos hb⟩
     · exact .inl (if_neg hb)
   · by_cases hb:b=a
     · have z':=(if_pos hb).symm.trans z
       cases z'
       subst hb
       exact ⟨ha,by rw [List.length_map];exact hl,vs,_,rv,ha⟩
     · have z':=(if_neg hb).symm.trans z
       cases z'
   · by_cases hb:b=a
     · exact hb
     · exact absurd (if_neg hb) z
abbrev KOf {K:Fg}{h:Heap}(_:K.In h):Fg:=K
theorem J6l {l:PySem.W.OpenLaw}{n k:Nat}{q:Program}{loose:List Str}{XP:(Str->Option Value)->Heap->Prop}{YP:World->Heap->Prop}{d:DefRec}{K:Params->Fg}{CX:World->CXT}{sp:World->Sp}{x:Str}
 (hn:l.most=some n) (hn2:n<=sizeLine) (hdf:d.params.defaults=[]) (hr:Room k callerA)
 (hY:∀ (w:World) (h:Heap),YP w h->(K w.params).In h)
 (F:∀ (w:World) (mg:Str->Option Value) (fa:Addr) (h:Heap),(K w.params).In h->h.Ns mainGlobals mg->mg d.name=some (.ref fa) ->
  ∃ fd:FuncData,(∀ (s:Shared) (u:Value),BindsTo s fd ⟨[u],[]⟩ [(x,u)]) /\
   ∀ base:Heap,(K w.params).In base->base.Ns mainGlobals mg->FnOk l.prog w (K w.params) mg base (CX w) k fa fd [x] (sp w))
 (hsp:∀ (w:World) (H:Hp) (a:Addr) (ns:List Int),ns.length<=n->Q4x H->SqL (K w.params) H a (ns.map V.int)->sp w [.ref a] H (fun v _=>v=.bl true) fun _ _ _=>False)
 (hCX:∀ (w:World) (H:Hp) (s:Shared) (e:Value) (s':Shared),CX w [] H s (fun _ _ _=>False) e s'->False) :
 PySem.W.WalkO q loose XP YP l.row.toRowW d [] (fun f vs=>PySem.call f vs):=by
 refine Att.attach_call hn hdf fun w s₀ s₁ mg mb fa o pm cd doc a vs ns G Y ho hd hcd hmg hobj hints hlen hg=>?_
 have KX:=hY w _ Y
 obtain ⟨fd,hb,hF⟩:=F w mg fa _ KX G.T.g hmg
 exact J3e KX G.T.g G.T.b G.T.builtins G.T.nolimit hg hobj hints (Nat.le_trans hlen hn2) hr hF hb (fun H hO hS=>hsp w H a ns hlen hO hS) fun H e s'=>hCX w H s₁ e s'
def Q8b (s:Stmt)(j:Nat):Stmt:=match s with
 | .ClassDef _ _ _ body _ _ _ _ _ _ _=>body.getD j (.Pass ⟨0,0,0,0⟩)
 | _=>.Pass ⟨0,0,0,0⟩
def LF (s:Stmt):Arguments:=match s with
 | .FunctionDef _ a _ _ _ _ _ _ _ _=>a
 | _=>{ posonlyargs:=[],args:=[],vararg:=none,kwonlyargs:=[],kw_defaults:=[],kwarg:=none,defaults:=[] }
def BW (s:Stmt):List Stmt:=match s with
 | .FunctionDef _ _ b _ _ _ _ _ _ _=>b
 | _=>[]
def J3 (s:Stmt):Scope:=match s with
 | .FunctionDef _ _ _ _ _ _ sc _ _ _=>sc
 | _=>{ kind:=.function,names:=[],isGenerator:=false,isCoroutine:=false }
abbrev CX0:CXT:=fun _ _ _ _ _ _=>False
abbrev E0:XK:=fun _ _ _=>False
theorem Q6c {X:Cx}:EU CX0 X E0:=fun _ _ _ _ _ _ _ h=>h.elim
structure Fun (K:Fg)(x qual:Str)(st:Stmt)(f:Addr)(fd:FuncData):Prop where
 ex:∃ (oc:Value) (od:Option Addr) (kV doc pm:Value) (an:Option Addr) (cdv ct:Value) (osl:Array (Option Value)),
  fd=PySem.W.fnOf x qual (LF st) (BW st) (J3 st) .none kV doc pm an cdv ct/\K.lookup f=some ⟨oc,od,.func fd,osl⟩/\PySem.W.codeIn K cdv qual=true
 kp:PySem.W.keepIn K (.ref f)=true
section
variable {P:Program}{w:World}{K:Fg}{mg:Str->Option Value}{base:Heap}
theorem Fun.ok {x qual:Str}{st:Stmt}{f:Addr} {N ps:List Str}{k:Nat}{sp:Sp}(F:Fun K x qual st f fd)(S:FnScope N ps (J3 st))(len:∀ vs H Q E,sp vs H Q E->vs.length=ps.length)
 (hbody:∀ (cdv:Value) (A:Around) (outer:List Env) (s:Shared) (H:Hp) (vs:List V) (Q:VK) (E:XK),Room k (A.deeper (envOfC qual (J3 st) s.heap.objs.size f cdv))->sp vs H Q E ->
  ∃ t,PSs (V4 CX0 P w K mg base N qual (J3 st) f cdv A outer s H E).nox (BW st) t/\t { nx:=fun _ H'=>Q .non H',rt:=Q } (CP N vs) H):FnOk P w K mg base CX0 (k+1) f fd ps sp:=by
 obtain ⟨oc,od,kV,doc,pm,an,cdv,ct,osl,rfl,lk,hcd⟩:=F.ex
 refine Q0d lk hcd S len fun A outer s H vs Q E hr hsp=>?_
 obtain ⟨t,h,q⟩:=hbody cdv A outer s H vs Q E hr hsp
 exact ⟨t,h.nox,q⟩
theorem Fun.binds {x qual:Str}{st:Stmt}{f:Addr} {ps:List Str}(F:Fun K x qual st f fd)
 (h:∀ (kV doc pm:Value) (an:Option Addr) (cdv ct:Value) (us:List Value),us.length=ps.length->bindArgs (PySem.W.fnOf x qual (LF st) (BW st) (J3 st) .none kV doc pm an cdv ct) ⟨us,[]⟩=pure (ps.zip us)):Binds K fd ps []:=by
 obtain ⟨oc,od,kV,doc,pm,an,cdv,ct,osl,rfl,lk,hcd⟩:=F.ex
 exact .all (h kV doc pm an cdv ct)
theorem Q2z {x qual:Str}{st:Stmt}{f:Addr}{oc:Value}{od an:Option Addr}{osl:Array (Option Value)}{kV doc pm cdv ct:Value}(l:K.lookup f=some ⟨oc,od,.func (PySem.W.fnOf x qual (LF st) (BW st) (J3 st) .none kV doc pm an cdv ct),osl⟩)
 (c:PySem.W.codeIn K cdv qual=true) (k:PySem.W.keepIn K (.ref f)=true):Fun K x qual st f (PySem.W.fnOf x qual (LF st) (BW st) (J3 st) .none kV doc pm an cdv ct):=⟨⟨oc,od,kV,doc,pm,an,cdv,ct,osl,rfl,l,c⟩,k⟩
end
section
variable {X:Cx}
theorem pv (i:Nat) {x:Str} {pos:Pos} (hN:X.N[i]?=some x:=by rfl) (hv:Vis X.env.scope x:=by first|exact Or.inl rfl|exact Or.inr (Or.inl rfl)|exact Or.inr (Or.inr rfl)) (hd:(x==("__debug__" : Str))=false:=by decide)
 (hcd:(x==("__classdict__" : Str))=false:=by decide):PE X (.Name x pos) (KG i):=WK hN hv hd hcd
end
theorem Q9p {A B:Prop}(h:B):if false=true then A else B:=by
 rw [if_neg Bool.false_ne_true]
 exact h
theorem Q9o {A B:Prop}(h:A):if true=true then A else B:=by
 rw [if_pos rfl]
 exact h
def Same (H H':Hp):Prop:=∀ b o,H b=some o->H' b=some o
theorem Same.refl (H:Hp):Same H H:=fun _ _ h=>h
theorem Same.trans {H H1 H2:Hp}(a:Same H H1)(b:Same H1 H2):Same H H2:=fun c o h=>b c o (a c o h)
theorem Same.free {H H':Hp}(e:Same H H'){l:Addr}(h:H' l=Option.none):H l=Option.none:=by
 cases q:H l with
 | none=>rfl
 | some o =>
   rw [e l o q] at h
   cases h
end L2
set_option maxHeartbeats 4000000
namespace L2
open PySem PySem.Spec PyProof.Rows
theorem TB {x:Str}{lo:Nat}:∀ (names:List (Str×NameKind)) (n:Nat) (acc:List (Str×Addr)),lo<=n->(∀ c,acc.lookup x=some c->lo<=c)->∀ c,(cellsFrom n names acc).lookup x=some c->lo<=c
 | [],_,_,_,h,c,e=>h c e
 | (y,k)::r,n,acc,hn,h,c,e=>by
   unfold cellsFrom at e
   split at e
   · refine TB r (n+1) ((y,n)::acc) (by omega) (fun c' e'=>?_) c e
     rw [List.lookup_cons] at e'
     cases hb:x==y with
     | true=>rw [hb] at e';cases e';exact hn
     | false=>rw [hb] at e';exact h c' e'
   · exact TB r n acc hn h c e
theorem XI {x:Str}{lo:Nat}:∀ (names:List (Str×NameKind)) (n:Nat) (acc:List (Str×Addr)),lo<=n->(x,NameKind.cell)∈names->∀ c,(cellsFrom n names acc).lookup x=some c->lo<=c
 | [],_,_,_,hm,_,_=>by cases hm
 | (y,k)::r,n,acc,hn,hm,c,e=>by
   unfold cellsFrom at e
   split at e
   · rcases List.mem_cons.mp hm with z|z
     · cases z
       refine TB r (n+1) ((x,n)::acc) (by omega) (fun c' e'=>?_) c e
       rw [List.lookup_cons,beq_self_eq_true] at e'
       cases e'
       exact hn
     · exact XI r (n+1) ((y,n)::acc) (by omega) z c e
   · rename_i hk
     rcases List.mem_cons.mp hm with z|z
     · cases z
       exact absurd rfl hk
     · exact XI r n acc hn z c e
theorem XJ {x:Str}:∀ (names:List (Str×NameKind)) (n:Nat) (acc:List (Str×Addr)),¬ (x,NameKind.cell)∈names->(cellsFrom n names acc).lookup x=acc.lookup x
 | [],_,_,_=>rfl
 | (y,k)::r,n,acc,hm=>by
   unfold cellsFrom
   have hr:¬ (x,NameKind.cell)∈r:=fun z=>hm (List.mem_cons_of_mem _ z)
   split
   · rename_i hk
     rw [XJ r (n+1) _ hr,List.lookup_cons]
     have hxy:(x==y)=false:=by
      cases hb:x==y with
      | false=>rfl
      | true =>
        have e1:x=y:=beq_iff_eq.mp hb
        have e2:k=NameKind.cell:=beq_iff_eq.mp hk
        subst e1 e2
        exact absurd List.mem_cons_self hm
     rw [hxy]
   · exact XJ r n acc hr
theorem XL:∀ (names:List (Str×NameKind)) (n:Nat) (acc:List (Str×Addr)),(∀ x c,acc.lookup x=some c->c<n)->(∀ x y c,acc.lookup x=some c->acc.lookup y=some c->x=y) ->
 ∀ x y c,(cellsFrom n names acc).lookup x=some c->(cellsFrom n names acc).lookup y=some c->x=y
 | [],_,_,_,h,x,y,c,e1,e2=>h x y c e1 e2
 | (z,k)::r,n,acc,hb,h,x,y,c,e1,e2=>by
   unfold cellsFrom at e1 e2
   split at e1
   · rename_i hk
     rw [if_pos hk] at e2
     refine XL r (n+1) ((z,n)::acc) (fun x' c' e'=>?_) (fun x' y' c' e1' e2'=>?_) x y c e1 e2
     · rw [List.lookup_cons] at e'
       cases q:x'==z with
       | true=>rw [q] at e';cases e';exact Nat.lt_succ_self _
       | false=>rw [q] at e';exact Nat.lt_succ_of_lt (hb x' c' e')
     · rw [List.lookup_cons] at e1' e2'
       cases q1:x'==z with
       | true =>
         rw [q1] at e1'
         cases e1'
         cases q2:y'==z with
         | true=>rw [beq_iff_eq.mp q1,beq_iff_eq.mp q2]
         | false =>
           rw [q2] at e2'
           exact absurd (hb y' _ e2') (Nat.lt_irrefl _)
       | false =>
         rw [q1] at e1'
         cases q2:y'==z with
         | true =>
           rw [q2] at e2'
           cases e2'
           exact absurd (hb x' _ e1') (Nat.lt_irrefl _)
         | false =>
           rw [q2] at e2'
           exact h x' y' c' e1' e2'
   · rename_i hk
     rw [if_neg hk] at e2
     exact XL r n acc hb h x y c e1 e2
theorem ZF:∀ (names:List (Str×NameKind)) (n:Nat) (acc:List (Str×Addr)) (x:Str) (c:Addr),(cellsFrom n names acc).lookup x=some c->acc.lookup x=some c\/n<=c
 | [],_,_,_,_,e=>.inl e
 | (z,k)::r,n,acc,x,c,e=>by
   unfold cellsFrom at e
   split at e
   · rcases ZF r (n+1) ((z,n)::acc) x c e with q|q
     · rw [List.lookup_cons] at q
       cases hb:x==z with
       | true=>rw [hb] at q;cases q;exact .inr (Nat.le_refl _)
       | false=>rw [hb] at q;exact .inl q
     · exact .inr (by omega)
   · exact ZF r n acc x c e
theorem TC:∀ (names:List (Str×NameKind)) (h:Heap) (acc:List (Str×Addr)),(∀ x c,acc.lookup x=some c->∃ v,h.IsCell c v) ->
 ∀ x c,(cellsFrom h.objs.size names acc).lookup x=some c->∃ v,(pushCells h names).IsCell c v
 | [],_,_,hh,x,c,e=>hh x c e
 | (z,k)::r,h,acc,hh,x,c,e=>by
   unfold cellsFrom at e
   unfold pushCells
   split at e
   · rename_i hk
     rw [if_pos hk]
     have e':(cellsFrom (h.push { cls:=.type "cell",data:=.cell none }).objs.size r ((z,h.objs.size)::acc)).lookup x=some c:=by rw [Heap.size_push];exact e
     refine TC r _ _ (fun x' c' q=>?_) x c e'
     rw [List.lookup_cons] at q
     cases hb:x'==z with
     | true =>
       rw [hb] at q
       cases q
       exact ⟨none,_,Heap.get?_push_size _ rfl,rfl⟩
     | false =>
       rw [hb] at q
       obtain ⟨v,w⟩:=hh x' c' q
       exact ⟨v,w.keeps fun b o e=>B3 _ e⟩
   · rename_i hk
     rw [if_neg hk]
     exact TC r h acc hh x c e
theorem SZ {env:Env}(f:Str×NameKind->List (Str×Addr)->Sem (ForInStep (List (Str×Addr))))
 (hf:∀ name kind cs,f (name,kind) cs=if kind==.free then (do let a <- cellOf env name;pure (.yield ((name,a)::cs))) else pure (.yield cs)) :
 ∀ (names:List (Str×NameKind)) (acc:List (Str×Addr)),(∀ x,(x,NameKind.free)∈names->∃ c,env.cells.lookup x=some c)->(∀ x c,acc.lookup x=some c->env.cells.lookup x=some c) ->
  ∃ cl,forIn names acc f=pure cl/\(∀ x c,cl.lookup x=some c->env.cells.lookup x=some c)/\∀ x,((acc.lookup x).isSome=true\/(x,NameKind.free)∈names)->(cl.lookup x).isSome=true
 | [],acc,_,ha=>⟨acc,by rw [List.forIn_nil],ha,fun x h=>h.elim id fun z=>by cases z⟩
 | (name,kind)::r,acc,hn,ha=>by
   have hr:∀ x,(x,NameKind.free)∈r->∃ c,env.cells.lookup x=some c:=fun x hx=>hn x (List.mem_cons_of_mem _ hx)
   by_cases hk:(kind==NameKind.free)=true
   · have ek:kind=NameKind.free:=beq_iff_eq.mp hk
     subst ek
     obtain ⟨c,hc⟩:=hn name List.mem_cons_self
     obtain ⟨cl,e1,e2,e3⟩:=SZ f hf r ((name,c)::acc) hr (fun x c' e=>by
      rw [List.lookup_cons] at e
      cases hb:x==name with
      | true=>rw [hb] at e;cases e;rw [beq_iff_eq.mp hb];exact hc
      | false=>rw [hb] at e;exact ha x c' e)
     refine ⟨cl,?_,e2,fun x hx=>e3 x ?_⟩
     · rw [List.forIn_cons,hf,if_pos hk]
       unfold cellOf
       rw [hc]
       simpa using e1
     · rcases hx with hx|hx
       · left
         rw [List.lookup_cons]
         cases hb:x==name with
         | true=>rfl
         | false=>exact hx
       · rcases List.mem_cons.mp hx with z|z
         · cases z
           left
           rw [List.lookup_cons,beq_self_eq_true]
           rfl
         · exact .inr z
   · obtain ⟨cl,e1,e2,e3⟩:=SZ f hf r acc hr ha
     refine ⟨cl,?_,e2,fun x hx=>e3 x ?_⟩
     · rw [List.forIn_cons,hf,if_neg hk]
       simpa using e1
     · rcases hx with hx|hx
       · exact .inl hx
       · rcases List.mem_cons.mp hx with z|z
         · cases z
           exact absurd rfl hk
         · exact .inr z
theorem QK {scope:Scope}{env:Env}(hn:∀ x,(x,NameKind.free)∈scope.names->∃ c,env.cells.lookup x=some c) :
 ∃ cl,closureFor scope env=pure cl/\(∀ x c,cl.lookup x=some c->env.cells.lookup x=some c)/\∀ x,(x,NameKind.free)∈scope.names->(cl.lookup x).isSome=true:=by
 obtain ⟨cl,e1,e2,e3⟩:=SZ (env:=env) (fun x cs=>match x with
  | (name,kind)=>if (kind==NameKind.free)=true then (do let a <- cellOf env name;pure (ForInStep.yield ((name,a)::cs))) else pure (ForInStep.yield cs)) (fun name kind cs=>rfl) scope.names [] hn (fun x c e=>by cases e)
 refine ⟨cl,?_,e2,fun x hx=>e3 x (.inr hx)⟩
 show (forIn scope.names [] _ >>= fun r=>pure r)=_
 refine Eq.trans (congrArg (fun m=>m >>= fun r=>pure r) e1) ?_
 simp
def J1p (ifs:List Expr)(env:Env):Sem Bool:=forIn ifs true fun c r=>if r=true then do let ok <- isTrue c env (eval c env);pure (ForInStep.yield ok) else pure (ForInStep.yield r)
theorem SY {prog:Program}{w:World}{A:Around}{R:Result->Shared->Prop}{s:Shared}{elt target iter:Expr}{ifs:List Expr}{scope:Scope}{pos:Pos}{it acc:Value}{env:Env}(J:Nat->Shared->Prop)
 (turn:∀ n s,J n s->wpAny (model prog w) A (pyNext it) (fun r s₁=>match r with
  | none=>R (.ok .next) s₁
  | some v=>wpAny (model prog w) A (letOwnedTupleGo target it v) (fun _ s₁'=>wpAny (model prog w) A (assign target env v) (fun _ s₂=>wpAny (model prog w) A (J1p ifs env) (fun ok s₃ =>
   if ok=true then wpAny (model prog w) A (eval elt env) (fun x s₄=>wpAny (model prog w) A (call (.builtin "list.append") [acc,x]) (fun _ s₅=>∃ m,m<n/\J m s₅) (notedBy (model prog w) A env fun e s'=>R (.error e) s') s₄)
    (notedBy (model prog w) A env fun e s'=>R (.error e) s') s₃
   else ∃ m,m<n/\J m s₃) (notedBy (model prog w) A env fun e s'=>R (.error e) s') s₂) (notedBy (model prog w) A env fun e s'=>R (.error e) s') s₁') (notedBy (model prog w) A env fun e s'=>R (.error e) s') s₁)
   (notedBy (model prog w) A env fun e s'=>R (.error e) s') s) (n:Nat) (h:J n s) :
 codeAny (model prog w) A (.compLoop (.ListComp elt [⟨target,iter,ifs,0⟩] scope pos) 0 it acc env) R s:=by
 refine codeAny_loop rfl J (fun n s hJ=>?_) n h
 show wpAny _ _ (Sem.onRaise (compTurn (.ListComp elt [⟨target,iter,ifs,0⟩] scope pos) 0 it acc env) fun x=>do noteFrame x env;theTreesLotGoes x) _ _ _
 refine wpAny_noted ?_
 rw [compTurn_list]
 refine B0 (wpAny_standAt (B0 (thn (turn n s hJ) fun r s₁ h₁=>?_)))
 cases r with
 | none=>exact B1 h₁
 | some v =>
   refine B0 (thn h₁ fun _ s₁' h₁'=>B0 (thn h₁' fun _ s₂ h₂=>B0 (thn h₂ fun ok s₃ h₃=>?_)))
   cases ok with
   | true=>exact B0 (B0 (thn h₃ fun x s₄ h₄=>B0 (thn h₄ fun _ s₅ h₅=>B1 (B1 ⟨rfl,h₅⟩))))
   | false=>exact B1 ⟨rfl,h₃⟩
def Q5c (X:Cx)(C:Addr)(e:Value)(s':Shared):Prop :=
 ∃ m,s'.heap.Ns C m/\∀ h',Heap.SameBut C s'.heap h'->∀ cenv:Env,cenv.locals=C->wpAny (model X.prog X.w) X.A (passOn "comprehension.variables-let-go" e cenv:Sem Value) (fun _ _=>False) X.xe { s' with heap:=h' }
def Q9 (X:Cx)(N:List Str)(scope:Scope)(cells:List (Str×Addr))(C:Addr)(fp:List Addr)(s:Shared)(H:Hp):Cx where
 prog:=X.prog
 w:=X.w
 K:=X.K
 mg:=X.mg
 base:=X.base
 A:=X.A
 N:=N
 s₀:=s
 H₀:=H
 env:=compEnvC scope cells C X.env
 outer:=X.stack
 stack:=X.stack
 ex:=fp
 fn:=fun x=>decide (scope.names.lookup x=some NameKind.cell)
 calm:=X.calm
 pn:=[]
 xe:=notedBy (model X.prog X.w) X.A (compEnvC scope cells C X.env) (Q5c X C)
def capt (σ:St)(map:List (Option Nat)):St:=map.map fun o=>o.bind fun i=>(σ[i]?).join
def CapOk (X:Cx)(scope:Scope):List (Option Nat)->List Str->Prop
 | [],[]=>True
 | none::m,_::n=>CapOk X scope m n
 | some i::m,x::n=>(X.N[i]?=some x/\scope.names.lookup x=some .free/\(scope.names.all fun p=>!(p.1==x&&p.2==NameKind.cell))=true/\(X.env.kindOf x=some .cell\/X.env.kindOf x=some .free))/\CapOk X scope m n
 | _,_=>False
theorem CapOk.length {X:Cx}{scope:Scope}:∀ {m:List (Option Nat)} {n:List Str},CapOk X scope m n->m.length=n.length
 | [],[],_=>rfl
 | none::m,_::n,h=>by simp [CapOk.length (m:=m) (n:=n) h]
 | some i::m,x::n,h=>by simp [CapOk.length (m:=m) (n:=n) h.2]
 | [],_::_,h=>h.elim
 | some _::_,[],h=>h.elim
 | none::_,[],h=>h.elim
theorem CapOk.get {X:Cx}{scope:Scope}:∀ {m:List (Option Nat)} {n:List Str} {j i:Nat} {x:Str},CapOk X scope m n->m[j]?=some (some i)->n[j]?=some x ->
 X.N[i]?=some x/\scope.names.lookup x=some .free/\¬ (x,NameKind.cell)∈scope.names/\(X.env.kindOf x=some .cell\/X.env.kindOf x=some .free)
 | [],[],_,_,_,_,e,_=>by simp at e
 | none::m,_::n,0,_,_,_,e,_=>by simp at e
 | none::m,_::n,j+1,i,x,h,e,e'=>CapOk.get (m:=m) (n:=n) (j:=j) h (by simpa using e) (by simpa using e')
 | some k::m,y::n,0,i,x,h,e,e'=>by
   have e1:k=i:=by simpa using e
   have e2:y=x:=by simpa using e'
   subst e1 e2
   obtain ⟨⟨h1,h2,h3,h4⟩,_⟩:=h
   refine ⟨h1,h2,fun hm=>?_,h4⟩
   have q:=List.all_eq_true.mp h3 _ hm
   simp at q
 | some k::m,y::n,j+1,i,x,h,e,e'=>CapOk.get (m:=m) (n:=n) (j:=j) h.2 (by simpa using e) (by simpa using e')
 | [],_::_,_,_,_,h,_,_=>h.elim
 | some _::_,[],_,_,_,h,_,_=>h.elim
 | none::_,[],_,_,_,h,_,_=>h.elim
def LN (g:TG)(map:List (Option Nat)):Prop:=∀ v σ H Q,g v σ H Q->g v σ H fun σ' H'=>(σ'.length=σ.length/\∀ j i:Nat,map[j]?=some (some i)->σ'[j]?=σ[j]?)/\Q σ' H'
def PIf (X:Cx)(ifs:List Expr)(t:TT):Prop :=
 ∀ (pins:List (Addr×Obj)) (s:Shared) (σ:St) (H:Hp) (Q:Bool->Hp->Prop),Inv X pins σ H s->t σ H Q->wpAny (model X.prog X.w) X.A (J1p ifs X.env) (TP X pins σ Q) X.xe s
noncomputable def Q5j:TT:=fun _ H Q=>Q true H
theorem YG {X:Cx}:PIf X [] Q5j:=fun _ _ _ H _ I h=>B1 ⟨H,I,h⟩
theorem J6y {X:Cx}{c:Expr}{t:TT}(hc:PT X c t):PIf X [c] t:=fun pins s σ H Q I h=>by
 unfold J1p
 simp only [List.forIn_cons,List.forIn_nil,if_true]
 exact B0 (B0 (thn (hc pins s σ H Q I h) fun b s' hb=>B1 (B1 hb)))
theorem ED {env:Env}{x:Str}{k:NameKind}:∀ {names:List (Str×NameKind)},
 (names.map fun (p:Str×NameKind)=>match p with|(n,k)=>if (k==NameKind.free&&env.scope.kind==.function&&env.kindOf n==some .cell) then (n,NameKind.cell) else (n,k)).lookup x=some k ->
 ∃ k',names.lookup x=some k'/\(k'=k\/(k'=.free/\k=.cell))
 | [],h=>by simp at h
 | (n,k')::r,h=>by
   rw [List.map_cons] at h
   by_cases hc:(k'==NameKind.free&&env.scope.kind==.function&&env.kindOf n==some .cell)=true
   · simp only [if_pos hc,List.lookup_cons] at h
     rw [List.lookup_cons]
     cases hx:x==n with
     | true =>
       rw [hx] at h
       cases h
       refine ⟨k',rfl,.inr ⟨?_,rfl⟩⟩
       simp only [Bool.and_eq_true,beq_iff_eq] at hc
       exact hc.1.1
     | false =>
       rw [hx] at h
       exact ED h
   · simp only [if_neg hc,List.lookup_cons] at h
     rw [List.lookup_cons]
     cases hx:x==n with
     | true =>
       rw [hx] at h
       cases h
       exact ⟨_,rfl,.inl rfl⟩
     | false =>
       rw [hx] at h
       exact ED h
theorem HH {env:Env}{x:Str}:∀ {names:List (Str×NameKind)},names.lookup x=some .free ->
 (names.map fun (p:Str×NameKind)=>match p with|(n,k)=>if (k==NameKind.free&&env.scope.kind==.function&&env.kindOf n==some .cell) then (n,NameKind.cell) else (n,k)).lookup x=some .cell \/
 (names.map fun (p:Str×NameKind)=>match p with|(n,k)=>if (k==NameKind.free&&env.scope.kind==.function&&env.kindOf n==some .cell) then (n,NameKind.cell) else (n,k)).lookup x=some .free
 | [],h=>by simp at h
 | (n,k')::r,h=>by
   rw [List.map_cons]
   rw [List.lookup_cons] at h
   by_cases hc:(k'==NameKind.free&&env.scope.kind==.function&&env.kindOf n==some .cell)=true
   · simp only [if_pos hc,List.lookup_cons]
     cases hx:x==n with
     | true=>exact .inl rfl
     | false =>
       rw [hx] at h
       exact HH h
   · simp only [if_neg hc,List.lookup_cons]
     cases hx:x==n with
     | true =>
       rw [hx] at h
       cases h
       exact .inr rfl
     | false =>
       rw [hx] at h
       exact HH h
section
variable {X:Cx}{elt iter tg:Expr}{ifs:List Expr}{scope:Scope}{pos:Pos}{N':List Str}{map:List (Option Nat)}{wi:TI}{g:TG}{tt:TT}{te:TE}
def PQ (J:It)(g:TG)(tt:TT)(te:TE)(σc:St)(Fin:List V->Hp->Prop)(W:Nat->Nat->List V->Hp->Prop):Prop :=
 ∀ i m acc H2,W i m acc H2->(J.stop i H2/\acc.length<=sizeLine/\Fin acc H2) \/
  (J.go i H2/\acc.length<sizeLine/\∃ N:List V->Hp->Prop,(∀ acc' H',N acc' H'->∃ m',m'<m/\W (i+1) m' acc' H')/\∀ x H3,J.yld i H2 x H3->g x σc H3 fun σ4 H4=>tt σ4 H4 fun b H5=>if b=true then te σ4 H5 fun v H6=>N (acc++[v]) H6 else N acc H5)
structure Blk (X:Cx)(N':List Str)(scope:Scope)(map:List (Option Nat))(tg elt:Expr)(ifs:List Expr)(g:TG)(tt:TT)(te:TE):Prop where
 calm:X.calm=true
 kind:scope.kind=.function
 loc:∀ x∈scope.names,x.2=.local->scope.names.lookup x.1=some .local
 free:(scope.names.all fun p=>!(p.2==NameKind.free)||(X.env.kindOf p.1==some .cell||X.env.kindOf p.1==some .free))=true
 cap:CapOk X scope map N'
 keep:LN g map
 run:∀ cells C fp s H,PG (Q9 X N' scope cells C fp s H) tg g/\PIf (Q9 X N' scope cells C fp s H) ifs tt/\PE (Q9 X N' scope cells C fp s H) elt te
theorem J9h {pins:List (Addr×Obj)}{σ:St}{H1:Hp}{s2:Shared}{cl:List (Str×Addr)}{fp:List Addr}(I:Inv X pins σ H1 s2)(B:Blk X N' scope map tg elt ifs g tt te)
 (hsub:∀ x c,cl.lookup x=some c->X.env.cells.lookup x=some c) (hhas:∀ x,(x,NameKind.free)∈scope.names->(cl.lookup x).isSome=true)
 (hf:∀ b∈fp,KB X pins H1 b) (hfo:∀ b∈fp,∃ o,s2.heap.get? b=some o) (C:Addr) (h3:Heap) (hC:s2.heap.objs.size<=C) (k3:∀ b o,s2.heap.get? b=some o->h3.get? b=some o) (hCsz:C<h3.objs.size) (hns:h3.Ns C fun _=>none) (tk:Nat) :
 Inv (Q9 X N' scope (cellsFrom h3.objs.size scope.names cl) C fp s2 H1) [] (capt σ map) H1 { s2 with heap:=pushCells h3 scope.names,toks:=tk }:=by
 have kk:∀ b o,s2.heap.get? b=some o->(pushCells h3 scope.names).get? b=some o:=fun b o e=>pushCells_keeps _ _ b o (k3 b o e)
 have fsz:∀ b∈fp,b<s2.heap.objs.size:=fun b hb=>by obtain ⟨o,e⟩:=hfo b hb;exact B4 e
 have clz:∀ x c,cl.lookup x=some c->c<s2.heap.objs.size:=fun x c e=>by
  obtain ⟨v,o,ho,_⟩:=I.cell x c (hsub x c e)
  exact B4 ho
 have h3sz:s2.heap.objs.size<h3.objs.size:=Nat.lt_of_le_of_lt hC hCsz
 have cof:∀ x c,(cellsFrom h3.objs.size scope.names cl).lookup x=some c->X.env.cells.lookup x=some c\/h3.objs.size<=c:=fun x c e=>(ZF _ _ _ x c e).imp (hsub x c) id
 have cnb:∀ x c,(cellsFrom h3.objs.size scope.names cl).lookup x=some c->∀ b∈fp,c≠b:=fun x c e b hb z=>by
  rcases cof x c e with q|q
  · exact (hf b hb).2.2.2.2.1 x c q z
  · have h1:=fsz b hb
    rw [<- z] at h1
    exact absurd (Nat.lt_of_lt_of_le (Nat.lt_trans h1 h3sz) q) (Nat.lt_irrefl _)
 have fnf:∀ b∈fp,b∉frs X.stack:=fun b hb hm=>by
  obtain ⟨_,f1,f2,_⟩:=hf b hb
  rcases List.mem_cons.mp (I.stkSub b hm) with z|z
  · exact f1 z
  · exact f2 z
 have cellI:∀ x c,(cellsFrom h3.objs.size scope.names cl).lookup x=some c->∃ v,(pushCells h3 scope.names).IsCell c v:=fun x c e =>
  TC scope.names h3 cl (fun x' c' q=>by
   obtain ⟨v,w⟩:=I.cell x' c' (hsub x' c' q)
   exact ⟨v,w.keeps k3⟩) x c e
 have hC0:H1 C=none:=I.hok.fresh hC
 have ok:(Q9 X N' scope (cellsFrom h3.objs.size scope.names cl) C fp s2 H1).Ok :=
  { mod:=I.ok.mod
    kind:=B.kind
    glob:=I.ok.glob
    blt:=I.ok.blt
    above:=hC
    inj:=XL scope.names h3.objs.size cl (fun x c e=>Nat.lt_trans (clz x c e) h3sz) fun x y c e1 e2=>I.ok.inj x y c (hsub x c e1) (hsub y c e2)
    has:=fun x hx=>by
     have hx:(relabel scope X.env).names.lookup x=some .cell\/(relabel scope X.env).names.lookup x=some .free:=hx
     have goal:(scope.names.lookup x=some .cell\/(cl.lookup x).isSome=true):=by
      rcases hx with q|q
      · obtain ⟨k',e1,e2⟩:=ED q
        rcases e2 with z|⟨z,_⟩
        · exact .inl (by rw [e1,z])
        · exact .inr (hhas x (PySem.mem_of_lookup (by rw [e1,z])))
      · obtain ⟨k',e1,e2⟩:=ED q
        rcases e2 with z|⟨z,z'⟩
        · exact .inr (hhas x (PySem.mem_of_lookup (by rw [e1,z])))
        · cases z'
     exact Option.isSome_iff_exists.mp (PySem.W.cellsFrom_some scope.names h3.objs.size cl goal)
    cab:=fun x c hx e=>Nat.le_of_lt (Nat.lt_of_lt_of_le h3sz (XI scope.names h3.objs.size cl (Nat.le_refl _) (PySem.mem_of_lookup (of_decide_eq_true hx)) c e))
    hd:=I.ok.hd
    frames:=I.ok.frames
    stk:=.inl rfl
    exf:=fun b hb=>⟨fun z=>absurd (fsz b hb) (by rw [z];exact Nat.not_lt.mpr hC),fun x c e=>cnb x c e b hb⟩
    bs:=I.bs
    bsz:=Nat.le_trans I.ok.bsz I.sz
    noex:=fun b o e hb=>by
     rcases (hf b hb).2.2.2.1 with z|z
     · exact I.ok.noex b o e z
     · exact absurd (B4 (I.ok.bs b o e).1) (Nat.not_lt.mpr z)
    exfs:=fnf
    funs:=I.stack
    frf:=I.stkFree }
 refine ⟨ok,rfl,I.bare,Un.kept kk,⟨fun _=>none,hns.keeps fun b o e=>pushCells_keeps _ _ b o e,fun j x v e1 e2 e3=>?_⟩,cellI,hC0,fun x c e=>?_,fun p hp=>absurd (show p∈([]:List (Addr×Obj)) from hp) (by simp),I.hok.kept kk,?_⟩
 · have e2':(capt σ map)[j]?=some (some v):=e2
   unfold capt at e2'
   rw [List.getElem?_map] at e2'
   cases hm:map[j]? with
   | none=>rw [hm] at e2';cases e2'
   | some o =>
     rw [hm] at e2'
     cases o with
     | none=>simp at e2'
     | some i =>
       have e2'':(σ[i]?).join=some v:=by simpa using e2'
       have hσ:σ[i]?=some (some v):=by
        cases q:σ[i]? with
        | none=>rw [q] at e2'';cases e2''
        | some o' =>
          rw [q] at e2''
          have:o'=some v:=by simpa using e2''
          rw [this]
       obtain ⟨c1,c2,c3,c4⟩:=B.cap.get hm e1
       obtain ⟨m,hn,hl⟩:=I.loc
       have vis:Vis X.env.scope x:=by
        rcases c4 with z|z
        · exact .inr (.inl z)
        · exact .inr (.inr z)
       obtain ⟨u,r,l⟩:=hl i x v c1 hσ vis
       refine ⟨u,r,?_⟩
       rcases l with ⟨z,_⟩|⟨_,c,ec,hcell⟩
       · rcases c4 with q|q
         · rw [q] at z;cases z
         · rw [q] at z;cases z
       · right
         refine ⟨HH c2,c,?_,hcell.keeps kk⟩
         show (cellsFrom h3.objs.size scope.names cl).lookup x=some c
         rw [XJ _ _ _ c3]
         obtain ⟨c',hc'⟩:=Option.isSome_iff_exists.mp (hhas x (PySem.mem_of_lookup c2))
         have:=hsub x c' hc'
         rw [ec] at this
         cases this
         exact hc'
 · rcases cof x c e with q|q
   · exact I.freeC x c q
   · exact I.hok.fresh (Nat.le_trans (Nat.le_of_lt h3sz) q)
 · show (capt σ map).length=N'.length
   unfold capt
   rw [List.length_map]
   exact B.cap.length
theorem ZH {pins:List (Addr×Obj)}{σ:St}{H1:Hp}{s2:Shared}{cl:List (Str×Addr)}{fp:List Addr}{it:Addr}{tn:Nat->Heap->Prop}{J:It}{E:Value->Shared->Prop}(I:Inv X pins σ H1 s2)(B:Blk X N' scope map tg elt ifs g tt te)
 (hsub:∀ x c,cl.lookup x=some c->X.env.cells.lookup x=some c) (hhas:∀ x,(x,NameKind.free)∈scope.names->(cl.lookup x).isSome=true)
 (T:Turn X.prog X.w X.K tg J fp it tn) (st:tn 0 s2.heap) (hf:∀ b∈fp,KB X pins H1 b) {Fin:List V->Hp->Prop} {W:Nat->Nat->List V->Hp->Prop} {m0:Nat} (w0:W 0 m0 [] H1) (ht:PQ J g tt te (capt σ map) Fin W)
 {RR:Value->Addr->Result->Shared->Prop}
 (hOk:∀ D C acc H' s' m,Inv X pins σ (upd H' D (.lst acc)) s'->H' D=none->s'.heap.Ns C m->upd H' D (.lst acc) C=none->C≠X.env.locals->X.s₀.heap.objs.size<=C->(∀ x c,X.env.cells.lookup x=some c->c≠C)->(∀ p∈X.pn++pins,p.1≠C)->Fin acc H'->RR (.ref D) C (.ok .next) s')
 (hErr:∀ D C e s',Q5c X C e s'->RR (.ref D) C (.error e) s') :
 wpAny (model X.prog X.w) X.A (newList []) (fun acc s3=>wpAny (model X.prog X.w) X.A (newFunctionEnv scope X.env.globals cl [] X.env.qual none .none (some X.env)) (fun cenv s4 =>
  codeAny (model X.prog X.w) X.A (.compStart (.ListComp elt [⟨tg,iter,ifs,0⟩] scope pos) 0 (.ref it) acc { cenv with scope:=relabel scope X.env }) (RR acc cenv.locals) s4) E s3) E s2:=by
 have fo:∀ b∈fp,∃ o,s2.heap.get? b=some o:=fun b hb=>by obtain ⟨o,e,_⟩:=T.obj 0 _ st b hb;exact ⟨o,e⟩
 refine wpAny_newObj_type ?_
 generalize hH2:s2.heap.push { cls:=.type "list",dict:=none,data:=.seq ([]:List Value).toArray }=H2
 have szD:H2.objs.size=s2.heap.objs.size+1:=by rw [<- hH2,Heap.size_push]
 have kD:∀ b o,s2.heap.get? b=some o->H2.get? b=some o:=fun b o e=>hH2▸B3 _ e
 simp only [newFunctionEnv,Option.isSome_some,if_true]
 refine B0 (wpAny_alloc ?_)
 refine B0 (wpAny_layCells _ (fun name kind cells=>by cases hkc:kind==NameKind.cell<;>simp [hkc]) _ _ _ _ ?_)
 dsimp only
 generalize hH3:H2.push { cls:=.type "dict",dict:=none,data:=.dict #[] }=h3
 have sz3:h3.objs.size=H2.objs.size+1:=by rw [<- hH3,Heap.size_push]
 have kC:∀ b o,H2.get? b=some o->h3.get? b=some o:=fun b o e=>hH3▸B3 _ e
 have nsC:h3.Ns H2.objs.size fun _=>none:=hH3▸Heap.Ns.new H2 (.type "dict")
 refine B0 (B1 (B1 ?_))
 show codeAny _ _ (.compStart (.ListComp elt [⟨tg,iter,ifs,0⟩] scope pos) 0 (.ref it) (.ref s2.heap.objs.size) (compEnvC scope (cellsFrom h3.objs.size scope.names cl) H2.objs.size X.env)) _ _
 generalize hX':Q9 X N' scope (cellsFrom h3.objs.size scope.names cl) H2.objs.size fp s2 H1=X'
 have I4:Inv X' [] (capt σ map) H1 { s2 with heap:=pushCells h3 scope.names }:=hX'▸J9h I B hsub hhas hf fo H2.objs.size h3 (by rw [szD];exact Nat.le_succ _) (fun b o e=>kC b o (kD b o e)) (by rw [sz3];exact Nat.lt_succ_self _) nsC s2.toks
 obtain ⟨pg,pif,pel⟩:=B.run (cellsFrom h3.objs.size scope.names cl) H2.objs.size fp s2 H1
 rw [hX'] at pg pif pel
 have eprog:X'.prog=X.prog:=by rw [<- hX'];rfl
 have ew:X'.w=X.w:=by rw [<- hX'];rfl
 have eK:X'.K=X.K:=by rw [<- hX'];rfl
 have eA:X'.A=X.A:=by rw [<- hX'];rfl
 have ecalm:X'.calm=true:=by rw [<- hX'];exact B.calm
 have eenv:X'.env=compEnvC scope (cellsFrom h3.objs.size scope.names cl) H2.objs.size X.env:=by rw [<- hX'];rfl
 have exe:X'.xe=notedBy (model X.prog X.w) X.A (compEnvC scope (cellsFrom h3.objs.size scope.names cl) H2.objs.size X.env) (Q5c X H2.objs.size):=by rw [<- hX'];rfl
 have es0:X'.s₀=s2:=by rw [<- hX'];rfl
 have eH0:X'.H₀=H1:=by rw [<- hX'];rfl
 have eex:X'.ex=fp:=by rw [<- hX'];rfl
 have efs:X'.fs=frs X.stack:=by rw [<- hX'];rfl
 have epn:X'.pn=[]:=by rw [<- hX'];rfl
 have eL:X'.env.locals=H2.objs.size:=by rw [eenv];rfl
 generalize hDd:s2.heap.objs.size=D at *
 have fD:∀ b∈fp,b≠D:=fun b hb=>by obtain ⟨o,e⟩:=fo b hb;exact Nat.ne_of_lt (hDd▸B4 e)
 have nfsD:D∉X'.fs:=fun hb=>by
  rw [efs] at hb
  have h1:=I.stkSub D hb
  rcases List.mem_cons.mp h1 with z|z
  · have:=I.lt;rw [hDd,<- z] at this;exact Nat.lt_irrefl _ this
  · exact I.nofs (by rw [hDd];exact Nat.le_refl _) z
 have ncD:∀ x c,X'.env.cells.lookup x=some c->c≠D:=fun x c e z=>by
  rw [eenv] at e
  rcases ZF _ _ _ x c e with q|q
  · obtain ⟨v,o,ho,_⟩:=I.cell x c (hsub x c q)
    have:=B4 ho
    rw [hDd,z] at this
    exact Nat.lt_irrefl _ this
  · rw [z,sz3,szD] at q
    exact absurd (Nat.lt_of_lt_of_le (Nat.lt_succ_of_lt (Nat.lt_succ_self D)) q) (Nat.lt_irrefl _)
 have f4:∀ {H':Hp} {pl:List (Addr×Obj)},(∀ b∈fp,H' b=none)->(∀ p∈pl,p.1=D)->∀ b∈fp,KB X' pl H' b:=fun {H' pl} hn hpl b hb=>by
  have q:=hf b hb
  refine ⟨hn b hb,?_,?_,.inl (by rw [eex];exact hb),fun x c e=>?_,fun p hp=>?_⟩
  · rw [eL]
    obtain ⟨o,e⟩:=fo b hb
    have:=B4 e
    rw [hDd] at this
    intro z
    rw [z,szD] at this
    exact absurd (Nat.lt_of_succ_lt this) (Nat.lt_irrefl _)
  · have:=I4.ok.exfs b (by rw [eex];exact hb)
    exact this
  · exact (I4.ok.exf b (by rw [eex];exact hb)).2 x c e
  · rw [epn] at hp
    have hp:p∈pl:=by simpa using hp
    rw [hpl p hp]
    exact (fD b hb).symm
 have noCell:∀ {its:Array Value} {n:Nat} (v:Option Value),({ cls:=.type "list",data:=.seq its n }:Obj).data≠.cell v:=fun v z=>by cases z
 have hD4:(pushCells h3 scope.names).get? D=some { cls:=.type "list",data:=.seq ([]:List Value).toArray 0 }:=pushCells_keeps _ _ _ _ (kC _ _ (by rw [<- hH2,<- hDd];exact Heap.get?_push_size _ rfl))
 have loop:codeAny (model X.prog X.w) X.A (.compLoop (.ListComp elt [⟨tg,iter,ifs,0⟩] scope pos) 0 (.ref it) (.ref D) (compEnvC scope (cellsFrom h3.objs.size scope.names cl) H2.objs.size X.env)) (RR (.ref D) H2.objs.size) { s2 with heap:=pushCells h3 scope.names }:=by
  refine SY (fun n s'=>∃ i acc H' its k,Inv X' [] (capt σ map) H' s'/\tn i s'.heap/\(∀ b∈fp,H' b=none)/\H' D=none/\s'.heap.get? D=some { cls:=.type "list",data:=.seq (List.toArray its) k }/\Vals acc its/\W i n acc H') ?_ m0
   ⟨0,[],H1,[],0,I4,T.keep _ _ _ st fun b hb o e=>pushCells_keeps _ _ _ _ (kC _ _ (kD _ _ e)),fun b hb=>(hf b hb).1,I.hok.fresh (by rw [hDd];exact Nat.le_refl _),hD4,.nil,w0⟩
  rintro n s5 ⟨i,acc,H5,its,k,I5,st5,fr5,hD5,oD5,rv5,w5⟩
  have pinD:Inv X' [(D,{ cls:=.type "list",data:=.seq (List.toArray its) k })] (capt σ map) H5 s5:=I5.pins_of fun p hp=>by
   have e:p=(D,{ cls:=.type "list",data:=.seq (List.toArray its) k }):=by simpa using hp
   subst e
   refine ⟨oD5,hD5,?_,nfsD,fun v=>noCell v⟩
   rw [eL,szD]
   exact Nat.ne_of_lt (Nat.lt_succ_self _)
  have plD:∀ p∈[(D,({ cls:=.type "list",data:=.seq (List.toArray its) k }:Obj))],p.1=D:=fun p hp=>by
   have e:p=(D,{ cls:=.type "list",data:=.seq (List.toArray its) k }):=by simpa using hp
   rw [e]
  have err:∀ e s',X'.xe e s'->notedBy (model X.prog X.w) X.A (compEnvC scope (cellsFrom h3.objs.size scope.names cl) H2.objs.size X.env) (fun e s'=>RR (.ref D) H2.objs.size (.error e) s') e s':=fun e s' he=>by
   rw [exe] at he
   exact wpAny_mono he (fun _ s'' q=>hErr D _ e s'' q) fun e'' s'' q=>hErr D _ e'' s'' q
  rcases ht i n acc H5 w5 with ⟨stop,hsz,fin⟩|⟨go,hsz,NN,hNN,step⟩
  · have dn:=T.done X' eprog ew eK ecalm i _ s5 (capt σ map) H5 (notedBy (model X.prog X.w) X.A (compEnvC scope (cellsFrom h3.objs.size scope.names cl) H2.objs.size X.env) fun e s'=>RR (.ref D) H2.objs.size (.error e) s') pinD (f4 fr5 plD) st5 stop
    rw [eA] at dn
    refine thn dn fun r s6 ⟨hr,I6⟩=>?_
    subst hr
    obtain ⟨oD6,hD6,_⟩:=I6.pin (D,_) (by rw [epn];exact List.mem_cons_self)
    obtain ⟨m,nsm,_⟩:=I6.loc
    rw [eL] at nsm
    have un:=I6.base
    rw [efs,eex,eH0,es0] at un
    have hok:=I6.hok
    rw [eprog,ew] at hok
    have os6:=I6.os
    rw [es0] at os6
    have fC:H5 H2.objs.size=none:=by rw [<- eL];exact I6.free
    have nDC:H2.objs.size≠D:=by rw [szD];exact Nat.ne_of_gt (Nat.lt_succ_self _)
    refine hOk D H2.objs.size acc H5 s6 m (I.call' (ch:=fp) os6 ?_ ?_ I6.bare fun b hb=>?_) hD5 nsm (by rw [V8 nDC];exact fC) ?_ ?_ ?_ ?_ fin
    · refine ⟨un.keep,un.slot,fun b o e n hx=>?_,un.there,fun b xs e=>?_,fun b o u e=>?_,fun b ps e=>?_⟩
      · rw [V8 (Nat.ne_of_lt (hDd▸B4 e))]
        exact un.free b o e n hx
      · have:=un.tups b xs e
        rw [V8 (Y5 this hD5)]
        exact this
      · have:=un.frzs b o u e
        rw [V8 (Y5 this hD5)]
        exact this
      · obtain ⟨more,this⟩:=un.tbls b ps e
        exact ⟨more,by rw [V8 (Y5 this hD5)];exact this⟩
    · intro b o e
      by_cases hb:b=D
      · subst hb
        rw [Y3] at e
        cases e
        exact ⟨hsz,its,k,rv5,oD6⟩
      · rw [V8 hb] at e
        exact (hok b o e).stay (fun _ _ _ q=>q) (fun c q=>by rw [V8 (Y5 q hD5)];exact q) fun c xs q=>by rw [V8 (Y5 q hD5)];exact q
    · obtain ⟨f0,f1,f2,f3,f4',f5⟩:=hf b hb
      exact ⟨f3,f1,f4',f5⟩
    · have:=I.lt
      rw [hDd] at this
      intro z
      rw [<- z,szD] at this
      exact absurd (Nat.lt_of_succ_lt this) (Nat.lt_irrefl _)
    · have:=I.sz
      rw [hDd] at this
      omega
    · intro x c e z
      obtain ⟨v,o,ho,_⟩:=I.cell x c e
      have:=B4 ho
      rw [hDd,z,szD] at this
      exact absurd (Nat.lt_of_succ_lt this) (Nat.lt_irrefl _)
    · intro p hp z
      have:=B4 (I.pin p hp).1
      rw [hDd,z,szD] at this
      exact absurd (Nat.lt_of_succ_lt this) (Nat.lt_irrefl _)
  · have im:=T.item X' eprog ew eK ecalm i _ s5 (capt σ map) H5 (notedBy (model X.prog X.w) X.A (compEnvC scope (cellsFrom h3.objs.size scope.names cl) H2.objs.size X.env) fun e s'=>RR (.ref D) H2.objs.size (.error e) s') pinD (f4 fr5 plD) st5 go
    rw [eA] at im
    refine thn im fun r s6 ⟨u,hr,h6⟩=>?_
    subst hr
    refine thn h6 fun _ s7 ⟨x,H7,I7,r7,y7,st7,fr7⟩=>?_
    have I7':=I7.pinned (f4 fr7 plD) (T.obj _ _ st7)
    have stp:=B.keep _ _ _ _ (step x H7 y7)
    have pgx:=pg _ s7 (capt σ map) H7 x u _ I7' r7 stp
    rw [eprog,ew,eA,eenv] at pgx
    refine wpAny_mono pgx (fun _ s8 ⟨σ8,H8,I8,⟨kl,k8⟩,q8⟩=>?_) err
    have pix:=pif _ s8 σ8 H8 _ I8 q8
    rw [eprog,ew,eA,eenv] at pix
    refine wpAny_mono pix (fun b s9 ⟨H9,I9,q9⟩=>?_) err
    have wk:∀ {σa:St} {Ha:Hp} {sa:Shared},σa=σ8->Inv X' ([(D,({ cls:=.type "list",data:=.seq (List.toArray its) k }:Obj))]++OC fp s7.heap) σa Ha sa ->
     Inv X' [] (capt σ map) Ha sa/\tn (i+1) sa.heap/\(∀ b∈fp,Ha b=none)/\Ha D=none/\sa.heap.get? D=some { cls:=.type "list",data:=.seq (List.toArray its) k }:=fun {σa Ha sa} ea Ia=>by
     subst ea
     refine ⟨(Ia.pins_of (pins':=[]) fun p hp=>absurd hp (by simp)).weak kl.symm fun j v e=>?_,T.keep _ _ _ st7 fun b hb o e=>(Ia.pin (b,o) (List.mem_append_right _ (List.mem_append_right _ (HM hb e)))).1,fun b hb=>?_,?_,?_⟩
     · have e':=e
       unfold capt at e'
       rw [List.getElem?_map] at e'
       cases hm:map[j]? with
       | none=>rw [hm] at e';cases e'
       | some o =>
         rw [hm] at e'
         cases o with
         | none=>simp at e'
         | some i'=>rw [k8 j i' hm];exact e
     · obtain ⟨o,e,d⟩:=T.obj _ _ st7 b hb
       exact (Ia.pin (b,o) (List.mem_append_right _ (List.mem_append_right _ (HM hb e)))).2.1
     · exact (Ia.pin (D,_) (List.mem_append_right _ (List.mem_append_left _ List.mem_cons_self))).2.1
     · exact (Ia.pin (D,_) (List.mem_append_right _ (List.mem_append_left _ List.mem_cons_self))).1
    cases b with
    | false =>
      rw [if_neg Bool.false_ne_true] at q9 ⊢
      obtain ⟨m',hm',w9⟩:=hNN _ _ q9
      obtain ⟨a1,a2,a3,a4,a5⟩:=wk rfl I9
      exact ⟨m',hm',i+1,acc,H9,its,k,a1,a2,a3,a4,a5,rv5,w9⟩
    | true =>
      rw [if_pos rfl] at q9 ⊢
      have pex:=pel _ s9 σ8 H9 _ I9 q9
      rw [eprog,ew,eA,eenv] at pex
      refine wpAny_mono pex (fun v s10 ⟨y,H10,I10,r10,q10⟩=>?_) err
      obtain ⟨m',hm',w10⟩:=hNN _ _ q10
      obtain ⟨a1,a2,a3,a4,a5⟩:=wk rfl I10
      have hl:=rv5.length
      refine wpAny_list_append_plain (items:=List.toArray its) ⟨k,a5⟩ (fun h11 pl11 sb11=>?_) (by simp only [List.size_toArray];omega)
      obtain ⟨k',e11⟩:=pl11
      refine ⟨m',hm',i+1,acc++[y],H10,its++[v],k',a1.turned (t':=s10.toks) (it:=D) (fun b o hb e=>(sb11.2 b hb).trans e) a4 ?_ (.inr (by rw [es0,hDd];exact Nat.le_refl _)) ncD (fun p hp=>absurd hp (by rw [epn];simp)),T.keep _ _ _ a2 fun b hb o e=>(sb11.2 b (fD b hb)).trans e,a3,a4,?_,rv5.append (.cons r10 .nil),w10⟩
      · rw [eL,szD]
        exact Nat.ne_of_lt (Nat.lt_succ_self _)
      · rw [e11,List.push_toArray]
 exact codeAny_compStart_list loop (T.self _ 0 _ _ _ (T.keep _ _ _ st fun b hb o e=>pushCells_keeps _ _ _ _ (kC _ _ (kD _ _ e))) loop)
theorem Blk.clos {pins:List (Addr×Obj)}{σ:St}{H:Hp}{s:Shared}(B:Blk X N' scope map tg elt ifs g tt te)(I:Inv X pins σ H s) :
 ∃ cl,closureFor scope X.env=pure cl/\(∀ x c,cl.lookup x=some c->X.env.cells.lookup x=some c)/\∀ x,(x,NameKind.free)∈scope.names->(cl.lookup x).isSome=true :=
 QK fun x hx=>I.ok.has x (by
  have q:=List.all_eq_true.mp B.free _ hx
  simpa using q)
noncomputable def Q5p (wi:TI)(map:List (Option Nat))(g:TG)(tt:TT)(te:TE):TE:=fun σ H Q=>wi σ H fun J H1=>∃ W:Nat->Nat->List V->Hp->Prop,(∃ m,W 0 m [] H1) /\
 PQ J g tt te (capt σ map) (fun acc H'=>∀ D,H' D=none->Q (.ref D) (upd H' D (.lst acc))) W
theorem NL (B:Blk X N' scope map tg elt ifs g tt te)(hi:PI X tg iter wi)(hs:∀ x,foldedSetIterable iter X.env x=pure x:=by intro _;rfl):PE X (.ListComp elt [⟨tg,iter,ifs,0⟩] scope pos) (Q5p wi map g tt te):=by
 intro pins s σ H Q I h
 obtain ⟨cl,hcl,hsub,hhas⟩:=B.clos I
 rw [eval_ListComp]
 refine wpAny_comprehension_free (use:=none) rfl hs hcl B.kind B.loc (thn (hi pins s σ H _ I h) fun v s1 h1=>thn h1 fun itv s2 h2=>?_)
 obtain ⟨it,fp,tn,J,H2,e,I2,T,st2,f2,W,⟨m0,w0⟩,turn⟩:=h2
 subst e
 refine ZH (RR:=fun acc C=>compPost (model X.prog X.w) X.A X.xe none (EP X pins σ Q) acc C) I2 B hsub hhas T st2 f2 w0 turn (fun D C acc H' s' m I' hD nsm fC c1 c2 c3 c4 fin=>?_) fun D C e s' z=>z
 refine ⟨m,nsm,fun h' sb=>⟨.ref D,_,?_,rfl,fin D hD⟩⟩
 exact I'.turned (t':=s'.toks) (fun b o hb e=>(sb.2 b hb).trans e) fC c1 (.inr c2) c3 c4
noncomputable def J1r (i:Nat)(wi:TI)(map:List (Option Nat))(g:TG)(tt:TT)(te:TE):TS:=fun D σ H=>wi σ H fun J H1=>∃ W:Nat->Nat->List V->Hp->Prop,(∃ m,W 0 m [] H1) /\
 PQ J g tt te (capt σ map) (fun acc H'=>∀ d,H' d=none->D.nx (σ.set i (some (.ref d))) (upd H' d (.lst acc))) W
theorem WG {i:Nat}{y:Str}{py spos:Pos}(hN:X.N.Nodup)(hiN:X.N[i]?=some y)(hy:Loc X.env.scope y)(B:Blk X N' scope map tg elt ifs g tt te)(hi:PI X tg iter wi)
 (hsw:swapsWith (.ListComp elt [⟨tg,iter,ifs,0⟩] scope pos) (some (.Name y py)) spos.line X.env=pure true:=by rfl) (hfn:X.fn y=true\/X.env.scope.names.lookup y=some .local:=by first|exact .inl rfl|exact .inr rfl)
 (hs:∀ x,foldedSetIterable iter X.env x=pure x:=by intro _;rfl):PS X (.Assign [.Name y py] (.ListComp elt [⟨tg,iter,ifs,0⟩] scope pos) spos) (J1r i wi map g tt te):=by
 intro pins s σ H D I h
 obtain ⟨cl,hcl,hsub,hhas⟩:=B.clos I
 rw [exec_Assign_Name_used _ _ _ _ hsw]
 refine B0 (wpAny_standAt (B0 ?_))
 show wpAny _ _ (do let _ <- comprehension (.ListComp elt [⟨tg,iter,ifs,0⟩] scope pos) scope X.env _ (newList []) false (eval iter X.env) (some (assign (.Name y py) X.env))) _ _ _
 refine B0 (thn (wpAny_comprehension_free (use:=some (assign (.Name y py) X.env)) (Q:=fun _ s'=>SP X pins D .next s') rfl hs hcl B.kind B.loc (thn (hi pins s σ H _ I h) fun v s1 h1=>thn h1 fun itv s2 h2=>?_)) fun _ s' hq=>B1 (B1 hq))
 obtain ⟨it,fp,tn,J,H2,e,I2,T,st2,f2,W,⟨m0,w0⟩,turn⟩:=h2
 subst e
 refine ZH (RR:=fun acc C=>compPost (model X.prog X.w) X.A X.xe (some (assign (.Name y py) X.env)) (fun _ s'=>SP X pins D .next s') acc C) I2 B hsub hhas T st2 f2 w0 turn (fun d C acc H' s' m I' hD nsm fC c1 c2 c3 c4 fin=>?_) fun D C e s' z=>z
 refine wpAny_assign_Name (QR I' hN hiN hy (v:=.ref d) rfl (fun s'' I'' ⟨a,sb,ha⟩=>?_) hfn)
 have hCa:C≠a:=by
  rcases ha with z|z
  · rw [z];exact c1
  · exact (c3 y a z).symm
 refine ⟨m,nsm.sameBut sb hCa,fun h' sb'=>⟨_,_,?_,fin d hD⟩⟩
 exact I''.turned (t':=s''.toks) (fun b o hb e=>(sb'.2 b hb).trans e) fC c1 (.inr c2) c3 c4
end
theorem gkeep_name {j:Nat}{map:List (Option Nat)}(h:map[j]?=some none):LN (UZ j) map:=fun v σ H Q q=>by
 refine ⟨⟨by simp,fun j' i hm=>?_⟩,q⟩
 have:j≠j':=fun z=>by rw [z,hm] at h;cases h
 rw [List.getElem?_set_ne this]
def Bd (n:Nat)(i:Int):Prop:=i.natAbs<2 ^ n
theorem Bd.mono {m n:Nat}{i:Int}(h:Bd m i)(k:m<=n):Bd n i:=Nat.lt_of_lt_of_le h (Nat.pow_le_pow_right (by decide) k)
theorem Bd.mul {m n:Nat}{i j:Int}(h:Bd m i)(k:Bd n j):Bd (m+n) (i*j):=by
 unfold Bd at *
 rw [Int.natAbs_mul,Nat.pow_add]
 exact Nat.mul_lt_mul'' h k
theorem Bd.add {m n:Nat}{i j:Int}(h:Bd m i)(k:Bd n j):Bd (max m n+1) (i+j):=by
 have h':Bd (max m n) i:=h.mono (Nat.le_max_left _ _)
 have k':Bd (max m n) j:=k.mono (Nat.le_max_right _ _)
 unfold Bd at *
 rw [Nat.pow_succ]
 have:=Int.natAbs_add_le i j
 omega
theorem Bd.sub {m n:Nat}{i j:Int}(h:Bd m i)(k:Bd n j):Bd (max m n+1) (i - j):=by
 have h':Bd (max m n) i:=h.mono (Nat.le_max_left _ _)
 have k':Bd (max m n) j:=k.mono (Nat.le_max_right _ _)
 unfold Bd at *
 rw [Nat.pow_succ]
 have:=Int.natAbs_sub_le i j
 omega
theorem Bd.neg {m:Nat}{i:Int}(h:Bd m i):Bd m (-i):=by
 unfold Bd at *
 rw [Int.natAbs_neg]
 exact h
theorem Bd.of {n:Nat}{i:Int}(h1 : -(2 ^ n:Nat)<i)(h2:i<(2 ^ n:Nat)):Bd n i:=by
 unfold Bd
 omega
theorem Bd.lt {n:Nat}{i:Int}(h:Bd n i) : -((2 ^ n:Nat):Int)<i/\i<((2 ^ n:Nat):Int):=by
 unfold Bd at h
 omega
theorem Bd.ediv {n:Nat}{i:Int}(h:Bd n i){d:Int}(hd:0<d):Bd n (i / d):=by
 have h1:=h.lt
 have hp:(0:Int)<((2 ^ n:Nat):Int):=by
  have:0<2 ^ n:=Nat.pow_pos (by decide)
  omega
 refine Bd.of ?_ ?_
 · by_cases hi:0<=i
   · have:=Int.ediv_nonneg hi (Int.le_of_lt hd)
     omega
   · have h3 : -((2 ^ n:Nat):Int)*d<=-((2 ^ n:Nat):Int)*1:=by
      rw [Int.neg_mul,Int.neg_mul]
      exact Int.neg_le_neg (Int.mul_le_mul_of_nonneg_left (by omega) (Int.le_of_lt hp))
     have h4 : -((2 ^ n:Nat):Int)*d<=i - 1+1:=by omega
     have h5:i / d > -((2 ^ n:Nat):Int)\/i / d<=-((2 ^ n:Nat):Int):=by omega
     rcases h5 with q|q
     · exact q
     · have h6:=Int.mul_ediv_add_emod i d
       have h7:=Int.emod_nonneg i (Int.ne_of_gt hd)
       have h8:=Int.emod_lt_of_pos i hd
       have h9:d*(i / d)<=d*(-((2 ^ n:Nat):Int)):=Int.mul_le_mul_of_nonneg_left q (Int.le_of_lt hd)
       have h10:d*(-((2 ^ n:Nat):Int)) = -((2 ^ n:Nat):Int)*d:=Int.mul_comm _ _
       have h11:d*((2 ^ n:Nat):Int)>=d*1+(((2 ^ n:Nat):Int) - 1):=by
        have:(d - 1)*(((2 ^ n:Nat):Int) - 1)>=0:=Int.mul_nonneg (by omega) (by omega)
        rw [Int.sub_mul,Int.mul_sub,Int.mul_sub] at this
        omega
       have h12:d*(-((2 ^ n:Nat):Int)) = -(d*((2 ^ n:Nat):Int)):=Int.mul_neg _ _
       omega
 · by_cases hi:0<=i
   · exact Int.lt_of_le_of_lt (Int.ediv_le_self d hi) h1.2
   · have:i / d<0:=Int.ediv_neg_of_neg_of_pos (by omega) hd
     omega
theorem TK {n:Nat}{i:Int}(h:Bd n i):Builtin.Int.intBits i<=n:=by
 unfold Builtin.Int.intBits
 split
 · exact Nat.zero_le _
 · rename_i hz
   have h0:i.natAbs≠0:=fun z=>hz (by have:i=0:=Int.natAbs_eq_zero.mp z;simp [this])
   exact (Nat.log2_lt h0).mpr h
def CMulB (i j:Int):Prop:=(∃ m n,Bd m i/\Bd n j/\m+n<=100000000)\/Bd 64 j
def Q7y (i j:Int):Prop:=0<j/\∃ n,Bd n j/\n<=9000
section
variable {X:Cx}
theorem Q8:OpR X (binaryOp .Mult) (rI CMulB fun i j=>.int (i*j)):=opI fun i j _ _ _ _ _ hc q=>mul_int q (by
 rcases hc with ⟨m,n,h1,h2,h3⟩|h1
 case inr=>exact .of_right (TK h1)
 have e1:=TK h1
 have e2:=TK h2
 unfold IntMulOk
 have e3:Builtin.Int.intTooBig (Builtin.Int.intBits i+Builtin.Int.intBits j)=false:=by
  unfold Builtin.Int.intTooBig
  refine decide_eq_false ?_
  have:bitsLine=134217728:=by unfold bitsLine;decide
  rw [this]
  omega
 rw [e3]
 simp)
theorem CY:OpR X (binaryOp .FloorDiv) (rI Q7y fun i j=>.int (i / j)):=opI fun i j _ _ _ _ _ hc q=>by
 obtain ⟨h1,n,h2,h3⟩:=hc
 refine floordiv_int (by omega) (by rw [Int.fdiv_eq_ediv_of_nonneg i (by omega)];exact q) (.inl (PyProof.noPylong_of_log2 ?_))
 have h0:j.natAbs≠0:=by omega
 exact (Nat.log2_lt h0).mpr (h2.mono h3)
theorem OF:OpR X (binaryOp .FloorDiv) (rI (fun _ j=>j≠0/\∃ n,Bd n j/\n<=9000) fun i j=>.int (i.fdiv j)):=opI fun i j _ _ _ _ _ hc q=>by
 obtain ⟨h1,n,h2,h3⟩:=hc
 refine floordiv_int h1 q (.inl (PyProof.noPylong_of_log2 ?_))
 have h0:j.natAbs≠0:=by omega
 exact (Nat.log2_lt h0).mpr (h2.mono h3)
end
theorem Same.upd {H:Hp}{p:Addr}{o:HO}(h:H p=none):Same H (upd H p o):=fun b u e=>by rw [V8 (Y5 e h)];exact e
def Keep (p:Addr)(H H':Hp):Prop:=∀ b o,b≠p->H b=some o->H' b=some o
theorem Keep.trans {p:Addr}{H H1 H2:Hp}(a:Keep p H H1)(b:Keep p H1 H2):Keep p H H2:=fun c o n e=>b c o n (a c o n e)
theorem Keep.upd {p:Addr}{H:Hp}{o:HO}:Keep p H (upd H p o):=fun b u n e=>by rw [V8 n];exact e
theorem Same.keep {p:Addr}{H H':Hp}(h:Same H H'):Keep p H H':=fun b o _ e=>h b o e
structure Callee (P:Program)(w:World)(K:Fg)(mg:Str->Option Value)(base:Heap)(CX:CXT)(x:Str)(k:Nat)(ps:List Str)(sp:Sp):Prop where
 ex:∃ f fd,FnOk P w K mg base CX k f fd ps sp/\mg x=some (.ref f)/\PySem.W.keepIn K (.ref f)=true/\Binds K fd ps []
section
variable {X:Cx}{k:Nat}{ps:List Str}{sp:Sp}{x:Str}{p pos:Pos}{e:Expr}{es:List Expr}{t:TA}
theorem MA (G:Callee X.prog X.w X.K X.mg X.base CX0 x k ps sp)(hr:Room k X.A)(hg:Gl X x)(ha:PA X (e::es) t)(hdb:(x==("__debug__" : Str))=false:=by decide) (he:starEach (e::es) X.env=(false,eval e X.env)::starEach es X.env:=by rfl) (hpl:(backTo pos (starEach es X.env)).any (·.1)=false:=by rfl) :
 PE X (.Call (.Name x p) (e::es) [] pos) (TX sp [] E0 t):=by
 obtain ⟨f,fd,F,hm,hk,hb⟩:=G.ex
 exact YJ F hr hg hm hk hb .nil Q6c ha hdb he hpl
theorem VH:DL X (.builtin "isinstance") (fun xs H Q=>∃ y c t b,xs=[y,.ty c]/\TyOf X.K H y t/\PySem.W.kitOne X.K t (.type c)=some b/\Q (.bl b) H):=by
 intro pins s σ H xs us Q I r h
 obtain ⟨y,c,t,b,rfl,ty,e,q⟩:=h
 obtain ⟨u,w',rfl,r1,r2⟩:=MW r
 cases (show w'=Value.type c from r2)
 exact J0q I r1 ty e fun tk=>⟨.bl b,H,I.tok _,rfl,q⟩
end
theorem Callee.mk' {w:World} {CX:CXT}{x qual:Str}{st:Stmt}{f:Addr} {k:Nat}{ps:List Str}{sp:Sp}(F:Fun K x qual st f fd)(G:FnOk P w K mg base CX k f fd ps sp)(hm:mg x=some (.ref f))(hb:Binds K fd ps []) :
 Callee P w K mg base CX x k ps sp:=⟨f,fd,G,hm,F.kp,hb⟩
theorem Q2r {c:Bool}{A B:Prop}(h1:c=true->A)(h2:c=false->B):if c=true then A else B:=by
 cases c with
 | true=>exact Q9o (h1 rfl)
 | false=>exact Q9p (h2 rfl)
theorem MP:bootBuiltins "abs" = some (.builtin "abs"):=by decide +kernel
theorem GI:bootBuiltins "len" = some (.builtin "len"):=by decide +kernel
theorem V7:bootBuiltins "isinstance" = some (.builtin "isinstance"):=by decide +kernel
theorem XO:bootBuiltins "max" = some (.builtin "max"):=by decide +kernel
theorem PM:bootBuiltins "min" = some (.builtin "min"):=by decide +kernel
theorem Q4q:bootBuiltins "sum" = some (.builtin "sum"):=by decide +kernel
theorem J5o:bootBuiltins "all" = some (.builtin "all"):=by decide +kernel
theorem JZ:bootBuiltins "int" = some (.type "int"):=by decide +kernel
theorem J9g:bootBuiltins "bool" = some (.type "bool"):=by decide +kernel
theorem DP:bootBuiltins "tuple" = some (.type "tuple"):=by decide +kernel
theorem TH:bootBuiltins "list" = some (.type "list"):=by decide +kernel
theorem J5n:bootBuiltins "zip" = some (.type "zip"):=by decide +kernel
theorem TJ:bootBuiltins "enumerate" = some (.type "enumerate"):=by decide +kernel
theorem QN:bootBuiltins "ValueError" = some (.type "ValueError"):=by decide +kernel
theorem rd_mul {i j:Int}{m n:Nat}{Q:Prop}(h1:Bd m i)(h2:Bd n j)(h3:m+n<=100000000)(q:Q):CMulB i j/\Q:=⟨.inl ⟨m,n,h1,h2,h3⟩,q⟩
theorem Bd.num (i:Int)(h:i.natAbs<18446744073709551616):Bd 64 i:=h
theorem AF:1000<=sizeLine:=by decide
theorem Q0s {a b:Int}(h:decide (V.int a=V.int b)=true):a=b:=by injection of_decide_eq_true h
theorem J7j {a b:Int}(h:(!decide (V.int a=V.int b))=true):a≠b:=fun z=>by rw [z] at h;simp at h
theorem J7k {a b:Int}(h:(!decide (V.int a=V.int b))=false):a=b:=by
 have q:decide (V.int a=V.int b)=true:=by cases e:decide (V.int a=V.int b) with|true=>rfl|false=>rw [e] at h;cases h
 exact Q0s q
theorem Q0g {p:Prop}[Decidable p](h:decide p=true):p:=of_decide_eq_true h
def Bag (H:Hp)(p:Addr):Prop:=∃ f m:Int,H p=some (.lst [.int f,.int m])/\0<=f/\0<=m/\m<2147483647
theorem Bag.ne {H:Hp}{p a:Addr}{xs:List V}(b:Bag H p)(h:H a=some (.tup xs)):a≠p:=by
 obtain ⟨f,m,e,_⟩:=b
 exact J3a h e (by intro z;cases z)
def Q7x (p:Addr)(many:Int)(H:Hp)(Q:VK):Prop:=∀ (r:Int) H',0<=r->r<many->Bag H' p->Keep p H H'->Q (.int r) H'
theorem CMulB.right {i j:Int}(h:Bd 64 j):CMulB i j:=.inr h
theorem Keep.tup {p:Addr}{H H':Hp}{a:Addr}{xs:List V}(S:Keep p H H')(b:Bag H p)(h:H a=some (.tup xs)):H' a=some (.tup xs):=S a _ (b.ne h) h
theorem J5q {xs:List V}{i:Int}(h0:0<=i)(h1:i<xs.length):∃ v,atI xs i=some v/\v∈xs:=by
 obtain ⟨j,rfl⟩:∃ j:Nat,i=j:=⟨i.toNat,by omega⟩
 have hj:j<xs.length:=by omega
 exact ⟨xs[j],LM (List.getElem?_eq_getElem hj),List.getElem_mem hj⟩
theorem Y1 (l:List Str)(h:l.Nodup):l.Nodup:=h
section
variable {X:Cx}{l:Expr}
theorem SQ (K:Fg)(h:X.K=K):IxR X (J2e K):=by subst h;exact Q2q
theorem EO (K:Fg)(h:X.K=K):IxR X (J0a K):=by subst h;exact YQ
theorem Z8 {es:List Expr}{k:Nat}{t:TGs}{n:Nat}{pos:Pos}(K:Fg)(h:X.K=K)(hc:X.calm=true)(hs:PGs X es t)(hn:(assignEach es X.env).length=n:=by rfl)(hst:(assignEach es X.env).findIdx? (·.1)=none:=by rfl):PG X (.Tuple es k pos) (Q2y K n t):=by subst h;exact Q1v hc hs hn hst
theorem AL (K:Fg)(h:X.K=K):DL X (.builtin "len") (fun xs H Q=>∃ p ys,xs=[.ref p]/\(SqL K H p ys\/SqT K H p ys)/\Q (.int ys.length) H):=by subst h;exact TF
theorem BD (K:Fg)(h:X.K=K):DL X (.type "tuple") (fun xs H Q=>∃ p ys,xs=[.ref p]/\((SqL K H p ys/\∀ l,H l=none->Q (.ref l) (upd H l (.tup ys)))\/(SqT K H p ys/\Q (.ref p) H))):=by subst h;exact QL
theorem JH (K:Fg)(h:X.K=K):DL X (.type "list") (fun xs H Q=>∃ p ys,xs=[.ref p]/\(SqL K H p ys\/SqT K H p ys)/\∀ l,H l=none->Q (.ref l) (upd H l (.lst ys))):=by subst h;exact TD
theorem J0c {a:Expr}{ta:TE}(K:Fg)(h:X.K=K)(ha:PE X a ta)(he:∀ whole,isTrue a X.env whole=(do let v <- whole;standAt a.pos;holding [v] (truthy v))):PT X a (fun σ H Q=>ta σ H fun x H'=>∃ k,Q4u K x H' k/\Q k H'):=by subst h;exact J2g ha he
end
theorem OV:∀ {ns:List Int} {us:List Value},Vals (ns.map V.int) us->∃ xs:List (Int×Tok),us=xs.map (fun p=>Value.int p.1 p.2)/\xs.map (·.1)=ns
 | [],us,r=>by
   cases r
   exact ⟨[],rfl,rfl⟩
 | n::ns,us,r=>by
   cases r with
   | cons r1 r2 =>
     obtain ⟨t,rfl⟩:=r1
     obtain ⟨xs,e1,e2⟩:=OV r2
     exact ⟨(n,t)::xs,by rw [e1];rfl,by rw [<- e2];rfl⟩
theorem MJ (xs:List (Int×Tok)):intItems xs.toArray=(xs.map fun p=>Value.int p.1 p.2).toArray:=by simp [intItems]
section
variable {X:Cx}
theorem J1f (K:Fg)(hK:X.K=K)(hc:X.calm=true):DL X (.builtin "sum") (fun xs H Q=>∃ (p:Addr) (ns:List Int),xs=[.ref p]/\SqL K H p (ns.map V.int)/\Q (.int ns.sum) H):=by
 subst hK
 intro pins s σ H xs us Q I r h
 obtain ⟨p,ns,rfl,hq,q⟩:=h
 obtain ⟨u,rfl,rx⟩:=KC r
 cases rx
 obtain ⟨its,rv,pl,hz⟩:=I.list hq
 obtain ⟨ps,e1,e2⟩:=OV rv
 subst e1
 have hl:=pl.isList
 rw [<- MJ] at hl
 refine sum_intListG (xs:=ps.toArray) (I.ok.hd hc) hl fun h' tk t' k=>?_
 refine ⟨.int ns.sum,H,I.kept k,⟨t',?_⟩,q⟩
 rw [preSum_eq,List.take_of_length_le (by simp)]
 show Value.int ((ps.map (·.1)).sum) t'=_
 rw [e2]
theorem RE:∀ {bs:List Bool} {us:List Value},Vals (bs.map V.bl) us->us=bs.map Value.bool
 | [],us,r=>by
   cases r
   rfl
 | b::bs,us,r=>by
   cases r with
   | cons r1 r2 =>
     cases r1
     rw [RE r2]
     rfl
theorem UD (bs:List Bool):(List.range bs.length).map (fun i=>bs[i]?.getD false)=bs:=by
 apply List.ext_getElem
 · simp
 · intro i h1 h2
   simp at h1
   simp [h1]
theorem RD (K:Fg)(hK:X.K=K)(hc:X.calm=true):DL X (.builtin "all") (fun xs H Q=>∃ (p:Addr) (bs:List Bool),xs=[.ref p]/\SqL K H p (bs.map V.bl)/\Q (.bl (bs.all id)) H):=by
 subst hK
 intro pins s σ H xs us Q I r h
 obtain ⟨p,bs,rfl,hq,q⟩:=h
 obtain ⟨u,rfl,rx⟩:=KC r
 cases rx
 obtain ⟨its,rv,pl,hz⟩:=I.list hq
 have e1:=RE rv
 subst e1
 have hl:=pl.isList
 have hlt:p<s.heap.objs.size:=by obtain ⟨_,e,_⟩:=hl;exact B4 e
 refine call_all_walk (wpAny_pyIter_list hl ?_)
 refine ⟨_,_,_,_,_,_,(fun i=>bs[i]?.getD false),rfl,Walks.list (A:=X.A.in1) (I.ok.hd hc) _ p (Nat.ne_of_lt hlt) (bs.map Value.bool).toArray,⟨⟨_,Heap.get?_push_size _ rfl,rfl,rfl⟩,hl.push _⟩,?_,fun h' tk hk=>?_⟩
 · intro i v s' Q' E' hv hq'
   have e:bs[i]?.map Value.bool=some v:=by simpa using hv
   cases hb:bs[i]? with
   | none=>rw [hb] at e;cases e
   | some b =>
     rw [hb] at e
     cases e
     have hq'':Q' (bs[i]?.getD false) s':=hq'
     rw [hb] at hq''
     exact wpAny_truthy_bool hq''
 · have ea:(List.range (bs.map Value.bool).toArray.size).all (fun i=>bs[i]?.getD false)=bs.all id:=by
    have:=congrArg (fun l:List Bool=>l.all id) (UD bs)
    simpa [List.all_map] using this
   rw [ea]
   refine ⟨.bl (bs.all id),H,I.kept fun b o e=>hk b o (fun hm=>?_) (B3 _ e),rfl,q⟩
   have:b=s.heap.objs.size:=by simpa using hm
   exact absurd (this▸B4 e) (Nat.lt_irrefl _)
end
section
variable {prog:Program}{w:World}{A:Around}{E:Value->Shared->Prop}{s:Shared}
theorem WZ {u t:Addr}{j:Nat}{its}{v:Value}{Q:Value->Shared->Prop}(a1:s.heap.IsTupleIter u t j)(a2:s.heap.IsTuple t its)(a3:its[j]?=some v)
 (q:∀ h',h'.IsTupleIter u t (j+1)->Heap.SameBut u s.heap h'->Q v { s with heap:=h' }):wpAny (model prog w) A (Builtin.SmallTypes.nextOf (.ref u)) Q E s:=by
 obtain ⟨oi,b1,b2,b3⟩:=id a1
 obtain ⟨ot,c1,_,nt,c2⟩:=a2
 unfold Builtin.SmallTypes.nextOf
 refine B0 (wpAny_callSpecial?_slot (name:=Str.ofString "__next__") a1.typeIs F.slot_tuple_iterator_next (wpAny_call_entry F.slot_tuple_iterator_next a1.typeIs F.entry_tuple_iterator_next ?_ (F.args_tuple_iterator_next_1 _)))
 show wpAny _ _ (field (.ref u) 0 >>= _) _ _ s
 refine B0 (wpAny_field b1 b3 (x:=.ref t) rfl ?_)
 show wpAny _ _ (if (Value.ref t==Value.none)=true then _ else _) _ _ s;rw [if_neg (show ¬ ((Value.ref t==Value.none)=true) from Bool.false_ne_true)]
 show wpAny _ _ (field (.ref u) 1 >>= _) _ _ s
 refine B0 (wpAny_field b1 b3 (x:=.int j 0) rfl ?_)
 show wpAny _ _ (seqItems? (.ref t) >>= _) _ _ s;refine B0 (wpAny_seqItems c1 c2 ?_)
 simp only [Int.toNat_natCast,a3]
 refine B0 (wpAny_setField b1 b3 (by simp) (B1 ⟨v,rfl,B1 (q _ ⟨_,Heap.get?_update_self _ b1 (Obj.isFreed_of_fields (Obj.data_mapFields b3 _)),(Obj.cls_mapFields ..).trans b2,by rw [Obj.data_mapFields b3];simp [rawInt]⟩ (Heap.SameBut.update ..))⟩))
theorem J0j {u t:Addr}{j:Nat}{its}{Q:Value->Shared->Prop}(a0:A.handled=none)(a1:s.heap.IsTupleIter u t j)(a2:s.heap.IsTuple t its)(a3:its[j]?=none)
 (q:∀ h' e,Heap.ExtBut u s.heap h'->(∃ o,h'.get? e=some o/\o.cls=.type "StopIteration")->E (.ref e) { s with heap:=h' }):wpAny (model prog w) A (Builtin.SmallTypes.nextOf (.ref u)) Q E s:=by
 obtain ⟨oi,b1,b2,b3⟩:=id a1
 obtain ⟨ot,c1,_,nt,c2⟩:=a2
 unfold Builtin.SmallTypes.nextOf
 refine B0 (wpAny_callSpecial?_slot (name:=Str.ofString "__next__") a1.typeIs F.slot_tuple_iterator_next (wpAny_call_entry F.slot_tuple_iterator_next a1.typeIs F.entry_tuple_iterator_next ?_ (F.args_tuple_iterator_next_1 _)))
 show wpAny _ _ (field (.ref u) 0 >>= _) _ _ s
 refine B0 (wpAny_field b1 b3 (x:=.ref t) rfl ?_)
 show wpAny _ _ (if (Value.ref t==Value.none)=true then _ else _) _ _ s;rw [if_neg (show ¬ ((Value.ref t==Value.none)=true) from Bool.false_ne_true)]
 show wpAny _ _ (field (.ref u) 1 >>= _) _ _ s
 refine B0 (wpAny_field b1 b3 (x:=.int j 0) rfl ?_)
 show wpAny _ _ (seqItems? (.ref t) >>= _) _ _ s;refine B0 (wpAny_seqItems c1 c2 ?_)
 simp only [Int.toNat_natCast,a3]
 refine B0 (wpAny_rule (B0 (wpAny_setField b1 b3 (by simp) ?_)))
 show wpAny _ _ (newExc (.type "StopIteration") [] >>= _) _ _ _;refine B0 ?_;simp only [newExc,newTuple]
 refine B0 (wpAny_newObj_type ?_ (by size_fits));refine B0 (m:=firstArgMember _ _) (wpAny_of_eq (a:=Value.none) (by first|rfl|(simp only [firstArgMember];rfl)) ?_)
 refine wpAny_newObj_type ?_ (by size_fits);simp only [raiseNew];refine B0 (wpAny_handled ?_)
 first|rw [show A.in1.handled=none from a0]|rw [a0]
 refine B0 (B1 (wpAny_throw (q _ _ (((Heap.SameBut.update ..).extBut.push _).push _) ⟨_,Heap.get?_push_size _ rfl,rfl⟩)))
def ItAt (b:Bool)(h:Heap)(u l:Addr)(j:Nat):Prop:=match b with|false=>h.IsListIter u l j|true=>h.IsTupleIter u l j
def SeqAt (b:Bool)(h:Heap)(l:Addr)(xs:Array Value):Prop:=match b with|false=>h.IsList l xs|true=>h.IsTuple l xs
theorem ItAt.at {b:Bool}{h h':Heap}{u l:Addr}{j:Nat}(x:ItAt b h u l j)(k:∀ o,h.get? u=some o->h'.get? u=some o):ItAt b h' u l j:=by
 cases b with
 | false=>exact Heap.IsListIter.at x k
 | true=>exact Heap.IsTupleIter.at x k
theorem SeqAt.at {b:Bool}{h h':Heap}{l:Addr}{xs:Array Value}(x:SeqAt b h l xs)(k:∀ o,h.get? l=some o->h'.get? l=some o):SeqAt b h' l xs:=by
 cases b with
 | false=>obtain ⟨o,e,r⟩:=x;exact ⟨o,k o e,r⟩
 | true=>obtain ⟨o,e,r⟩:=x;exact ⟨o,k o e,r⟩
theorem ItAt.obj {b:Bool}{h:Heap}{u l:Addr}{j:Nat}(x:ItAt b h u l j):∃ o,h.get? u=some o/\∀ v,o.data≠.cell v:=by
 cases b with
 | false=>obtain ⟨o,e,c,d⟩:=x;exact ⟨o,e,fun v z=>by rw [d] at z;cases z⟩
 | true=>obtain ⟨o,e,c,d⟩:=x;exact ⟨o,e,fun v z=>by rw [d] at z;cases z⟩
theorem IA {b:Bool}{u l:Addr}{j:Nat}{xs:Array Value}{v:Value}{Q:Value->Shared->Prop}(a1:ItAt b s.heap u l j)(a2:SeqAt b s.heap l xs)(a3:xs[j]?=some v)
 (q:∀ h',ItAt b h' u l (j+1)->Heap.SameBut u s.heap h'->Q v { s with heap:=h' }):wpAny (model prog w) A (Builtin.SmallTypes.nextOf (.ref u)) Q E s:=by
 cases b with
 | false=>exact wpAny_nextOf_list_item a1 a2 a3 q
 | true=>exact WZ a1 a2 a3 q
theorem YA {b:Bool}{u l:Addr}{j:Nat}{xs:Array Value}{Q:Value->Shared->Prop}(a0:A.handled=none)(a1:ItAt b s.heap u l j)(a2:SeqAt b s.heap l xs)(a3:xs[j]?=none)
 (q:∀ h' e,Heap.ExtBut u s.heap h'->(∃ o,h'.get? e=some o/\o.cls=.type "StopIteration")->E (.ref e) { s with heap:=h' }):wpAny (model prog w) A (Builtin.SmallTypes.nextOf (.ref u)) Q E s:=by
 cases b with
 | false=>exact wpAny_nextOf_list_end a0 a1 a2 a3 q
 | true=>exact J0j a0 a1 a2 a3 q
abbrev AR (h:Heap)(T:Addr)(vs:Array Value):Prop:=h.get? T=some { cls:=.type "tuple",data:=.seq vs }
theorem GK {T:Addr}{vs:Array Value}{v:Value}{k:Nat}{Q:Unit->Shared->Prop}(hv:vs.size<=1000)(hT:AR s.heap T vs)
 (q:∀ h',AR h' T (vs.setIfInBounds k v)->Heap.SameBut T s.heap h'->Q () { s with heap:=h' }):wpAny (model prog w) A (updateSeq T (·.setIfInBounds k v)) Q E s:=by
 have z1:vs.size<=sizeLine:=Nat.le_trans hv AF
 refine wpAny_updateSeq hT rfl (q _ ?_ (Heap.SameBut.update ..)) (hz:=z1) (_hz':=by simp;omega)
 show Heap.get? _ T=_
 rw [Heap.get?_update_self _ hT rfl];simp [Obj.mapSeq]
end
section
variable {X:Cx}{pins:List (Addr×Obj)}{σ:St}{H:Hp}{s:Shared}{h':Heap}
theorem Inv.zipped {fp:List Addr}{T:Addr}{o:HO}{t':Nat}(I:Inv X pins σ H s)(hf:∀ b∈fp,KB X pins H b)(k:∀ b o,b∉fp->s.heap.get? b=some o->h'.get? b=some o)(hT:s.heap.objs.size<=T)
 (new:ObjOk X.prog X.w (upd H T o) h' T o):Inv X pins σ (upd H T o) { s with heap:=h',toks:=t' }:=by
 have hn:H T=none:=I.hok.fresh hT
 have ne:∀ b u,s.heap.get? b=some u->b≠T:=fun b u e z=>absurd (B4 e) (by rw [z];exact Nat.not_lt.mpr hT)
 have nfp:∀ b u,H b=some u->b∉fp:=fun b u e hb=>by rw [(hf b hb).1] at e;cases e
 refine I.step (g':=s.gens) (d':=s.drawn) (ch:=fp) (fun b hb=>?_) (fun b o _ _ hc e _=>k b o hc e) (fun b o _ _ hc e _=>⟨o.slots,k b o hc e⟩) (fun b u _ e n=>by rw [V8 (ne b u e)];exact n)
  (fun b o hc e=>⟨o,k b o hc e⟩) (fun b xs e=>by rw [V8 (Y5 e hn)];exact e) (fun b o u e=>by rw [V8 (Y5 e hn)];exact e) (fun b ps e=>⟨#[],by rw [V8 (Y5 e hn),e];simp⟩) (fun m hm=>?_) (fun b u e=>?_) I.bare
 · obtain ⟨_,f1,_,f3,f4,f5⟩:=hf b hb
   exact ⟨f3,f1,f4,f5⟩
 · obtain ⟨o,es,ep,ho,r⟩:=hm
   exact ⟨o,es,ep,k _ o (fun hb=>(hf _ hb).2.1 rfl) ho,r⟩
 · by_cases hb:b=T
   · subst hb
     rw [Y3] at e
     cases e
     exact new
   · rw [V8 hb] at e
     refine (I.hok b u e).stay (fun c v hc q=>k c v ?_ q) (fun c q=>by rw [V8 (Y5 q hn)];exact q) fun c xs q=>by rw [V8 (Y5 q hn)];exact q
     rcases hc with z|z
     · rw [z];exact nfp b u e
     · exact nfp c _ z
theorem Inv.turnedL {fp:List Addr}{t':Nat}(I:Inv X pins σ H s)(hf:∀ b∈fp,KB X pins H b)(k:∀ b o,b∉fp->s.heap.get? b=some o->h'.get? b=some o):Inv X pins σ H { s with heap:=h',toks:=t' }:=by
 have nfp:∀ b u,H b=some u->b∉fp:=fun b u e hb=>by rw [(hf b hb).1] at e;cases e
 refine I.step (g':=s.gens) (d':=s.drawn) (ch:=fp) (fun b hb=>?_) (fun b o _ _ hc e _=>k b o hc e) (fun b o _ _ hc e _=>⟨o.slots,k b o hc e⟩) (fun b u _ e n=>n)
  (fun b o hc e=>⟨o,k b o hc e⟩) (fun b xs e=>e) (fun b o u e=>e) (fun b ps e=>⟨#[],by rw [e];simp⟩) (fun m hm=>?_) (fun b u e=>?_) I.bare
 · obtain ⟨_,f1,_,f3,f4,f5⟩:=hf b hb
   exact ⟨f3,f1,f4,f5⟩
 · obtain ⟨o,es,ep,ho,r⟩:=hm
   exact ⟨o,es,ep,k _ o (fun hb=>(hf _ hb).2.1 rfl) ho,r⟩
 · refine (I.hok b u e).stay (fun c v hc q=>k c v ?_ q) (fun c q=>q) fun c xs q=>q
   rcases hc with z|z
   · rw [z];exact nfp b u e
   · exact nfp c _ z
def SqX (K:Fg)(b:Bool)(H:Hp)(a:Addr)(xs:List V):Prop:=match b with|false=>SqL K H a xs|true=>SqT K H a xs
theorem Inv.seqX {b:Bool}{a:Addr}{xs:List V}(I:Inv X pins σ H s)(h:SqX X.K b H a xs):∃ its:List Value,Vals xs its/\SeqAt b s.heap a its.toArray/\xs.length<=sizeLine:=by
 cases b with
 | false=>obtain ⟨its,r,p,z⟩:=I.list h;exact ⟨its,r,p.isList,z⟩
 | true=>obtain ⟨its,r,p,z⟩:=I.tuple h;exact ⟨its,r,p,z⟩
theorem Inv.seqX_inj {b:Bool}{a:Addr}{xs ys:List V}(I:Inv X pins σ H s)(h:SqX X.K b H a xs)(h':SqX X.K b H a ys):xs=ys:=by
 cases b with
 | false=>exact I.list_inj h h'
 | true=>exact I.tuple_inj h h'
theorem Inv.seqX_ne {b:Bool}{a:Addr}{xs:List V}{c:Addr}(I:Inv X pins σ H s)(h:SqX X.K b H a xs)(f:KB X pins H c):a≠c:=by
 intro e
 subst e
 have base:∀ {o:Obj},X.base.get? a=some o->False:=fun {o} q=>by
  rcases f.2.2.2.1 with z|z
  · exact I.ok.noex a o q z
  · exact absurd (B4 (I.ok.bs a o q).1) (Nat.not_lt.mpr z)
 cases b with
 | false =>
   rcases h with (h|⟨o,h⟩)|⟨o,_,_,h,_⟩
   · rw [f.1] at h;cases h
   · rw [f.1] at h;cases h
   · exact base (I.ok.mod.kin _ _ h)
 | true =>
   rcases h with (h|⟨o,h⟩)|⟨o,_,_,h,_⟩
   · rw [f.1] at h;cases h
   · rw [f.1] at h;cases h
   · exact base (I.ok.mod.kin _ _ h)
end
section
variable {prog:Program}{w:World}{A:Around}{E:Value->Shared->Prop}{s:Shared}
structure ZAp2 (z TI TO i1 i2 l1 l2:Addr):Prop where
 z_TI:z≠TI
 z_TO:z≠TO
 z_i1:z≠i1
 z_i2:z≠i2
 TI_z:TI≠z
 TI_TO:TI≠TO
 TI_i1:TI≠i1
 TI_i2:TI≠i2
 TO_z:TO≠z
 TO_TI:TO≠TI
 TO_i1:TO≠i1
 TO_i2:TO≠i2
 i1_z:i1≠z
 i1_TI:i1≠TI
 i1_TO:i1≠TO
 i1_i2:i1≠i2
 i2_z:i2≠z
 i2_TI:i2≠TI
 i2_TO:i2≠TO
 i2_i1:i2≠i1
 l1_z:l1≠z
 l1_TI:l1≠TI
 l1_TO:l1≠TO
 l1_i1:l1≠i1
 l1_i2:l1≠i2
 l2_z:l2≠z
 l2_TI:l2≠TI
 l2_TO:l2≠TO
 l2_i1:l2≠i1
 l2_i2:l2≠i2
theorem ZQ {b1 b2:Bool}{z TI TO i1 i2 l1 l2:Addr}{k:Nat}{xs1 xs2:Array Value}{x1 x2 a1 a2:Value}{Q:Value->Shared->Prop}(D:ZAp2 z TI TO i1 i2 l1 l2)(hz:IsZip s.heap z TI TO .none)(hI:AR s.heap TI #[.ref i1,.ref i2])(hO:AR s.heap TO #[a1,a2])(d1:ItAt b1 s.heap i1 l1 k)(g1:SeqAt b1 s.heap l1 xs1)(d2:ItAt b2 s.heap i2 l2 k)(g2:SeqAt b2 s.heap l2 xs2)
 (e1:xs1[k]?=some x1) (e2:xs2[k]?=some x2)
 (q:∀ h',IsZip h' z TI TO (rawInt s.heap.objs.size)->AR h' TO #[x1,x2]->ItAt b1 h' i1 l1 (k+1)->ItAt b2 h' i2 l2 (k+1)->AR h' s.heap.objs.size #[x1,x2]->(∀ c o,c≠z->c≠TO->c≠i1->c≠i2->s.heap.get? c=some o->h'.get? c=some o)->Q (.ref s.heap.objs.size) { s with heap:=h' }) :
 wpAny (model prog w) A (Builtin.«zip.__next__» ⟨[.ref z],[]⟩) (fun fin s'=>∃ v,fin=.done (.ret v)/\Q v s') E s:=by
 show wpAny _ _ (field (.ref z) 2 >>= _) _ _ _;refine B0 (wpAny_field hz rfl (x:=.bool false) rfl ?_)
 show wpAny _ _ (field (.ref z) 3 >>= _) _ _ _;refine B0 (wpAny_field hz rfl (x:=.ref TI) rfl ?_)
 refine B0 (wpAny_seqItems hI rfl ?_)
 show wpAny _ _ (Builtin.SmallTypes.ownedTupleIsFree (.ref z) >>= _) _ _ _;refine B0 ?_;unfold Builtin.SmallTypes.ownedTupleIsFree
 refine B0 (wpAny_field hz rfl (x:=.none) rfl (B1 ?_));simp only [if_true];refine B0 (wpAny_rule ?_)
 refine B0 (wpAny_field hz rfl (x:=.ref TO) rfl ?_);refine B0 (wpAny_setField_rec hz (by simp) fun p0 z0 m0=>?_)
 replace z0:IsZip p0 z TI TO .ellipsis:=z0
 have y0:AR p0 TO #[a1,a2]:=m0.extBut _ _ D.TO_z hO
 have w0:∀ c o,c≠z->c≠TO->c≠i1->c≠i2->s.heap.get? c=some o->p0.get? c=some o:=fun c o c1 _ _ _ e=>m0.extBut _ _ c1 e
 have r0:p0.objs.size=s.heap.objs.size:=m0.1
 have d1_0:ItAt b1 p0 i1 l1 k:=d1.at fun o e=>m0.extBut _ _ D.i1_z e
 have g1_0:SeqAt b1 p0 l1 xs1:=g1.at fun o e=>m0.extBut _ _ D.l1_z e
 have d2_0:ItAt b2 p0 i2 l2 k:=d2.at fun o e=>m0.extBut _ _ D.i2_z e
 have g2_0:SeqAt b2 p0 l2 xs2:=g2.at fun o e=>m0.extBut _ _ D.l2_z e
 refine B0 ?_;simp only [List.zipIdx_cons,List.zipIdx_nil,List.forIn_cons,List.forIn_nil]
 refine B0 (B0 (wpAny_onRaise ?_));show wpAny _ _ (Builtin.SmallTypes.nextOf (.ref i1) >>= _) _ _ _
 refine B0 (IA d1_0 g1_0 e1 fun u1 t1 n1=>B1 ?_)
 have v1:AR u1 TO #[a1,a2]:=n1.extBut _ _ D.TO_i1 y0
 refine B0 (wpAny_seqItems v1 rfl ?_);refine B0 (GK (Nat.le_of_ble_eq_true rfl) v1 fun p1 y1 m1=>?_)
 replace y1:AR p1 TO #[x1,a2]:=y1
 have z1:IsZip p1 z TI TO .ellipsis:=m1.extBut _ _ D.z_TO (n1.extBut _ _ D.z_i1 z0)
 have w1:∀ c o,c≠z->c≠TO->c≠i1->c≠i2->s.heap.get? c=some o->p1.get? c=some o:=fun c o c1 c2 c3 c4 e=>m1.extBut _ _ c2 (n1.extBut _ _ c3 (w0 c o c1 c2 c3 c4 e))
 have r1:p1.objs.size=s.heap.objs.size:=by rw [m1.1,n1.1];exact r0
 have d1_1:ItAt b1 p1 i1 l1 (k+1):=t1.at fun o e=>m1.extBut _ _ D.i1_TO e
 have d2_1:ItAt b2 p1 i2 l2 k:=(d2_0.at fun o e=>n1.extBut _ _ D.i2_i1 e).at fun o e=>m1.extBut _ _ D.i2_TO e
 have g2_1:SeqAt b2 p1 l2 xs2:=(g2_0.at fun o e=>n1.extBut _ _ D.l2_i1 e).at fun o e=>m1.extBut _ _ D.l2_TO e
 refine B0 (wpAny_letGo (B1 ?_))
 refine B0 (B0 (wpAny_onRaise ?_));show wpAny _ _ (Builtin.SmallTypes.nextOf (.ref i2) >>= _) _ _ _
 refine B0 (IA d2_1 g2_1 e2 fun u2 t2 n2=>B1 ?_)
 have v2:AR u2 TO #[x1,a2]:=n2.extBut _ _ D.TO_i2 y1
 refine B0 (wpAny_seqItems v2 rfl ?_);refine B0 (GK (Nat.le_of_ble_eq_true rfl) v2 fun p2 y2 m2=>?_)
 replace y2:AR p2 TO #[x1,x2]:=y2
 have z2:IsZip p2 z TI TO .ellipsis:=m2.extBut _ _ D.z_TO (n2.extBut _ _ D.z_i2 z1)
 have w2:∀ c o,c≠z->c≠TO->c≠i1->c≠i2->s.heap.get? c=some o->p2.get? c=some o:=fun c o c1 c2 c3 c4 e=>m2.extBut _ _ c2 (n2.extBut _ _ c4 (w1 c o c1 c2 c3 c4 e))
 have r2:p2.objs.size=s.heap.objs.size:=by rw [m2.1,n2.1];exact r1
 have d1_2:ItAt b1 p2 i1 l1 (k+1):=(d1_1.at fun o e=>n2.extBut _ _ D.i1_i2 e).at fun o e=>m2.extBut _ _ D.i1_TO e
 have d2_2:ItAt b2 p2 i2 l2 (k+1):=t2.at fun o e=>m2.extBut _ _ D.i2_TO e
 refine B0 (wpAny_letGo (B1 (B1 ?_)))
 refine B0 (wpAny_seqItems y2 rfl ?_);refine B0 (wpAny_newTuple ?_)
 have zl:z<p2.objs.size:=B4 z2
 show wpAny _ _ (Builtin.SmallTypes.ownedTupleHandOut (.ref z) (.ref p2.objs.size) >>= _) _ _ _;refine B0 ?_;unfold Builtin.SmallTypes.ownedTupleHandOut
 have za:IsZip (p2.push { cls:=.type "tuple",data:=.seq #[x1,x2] }) z TI TO .ellipsis:=B3 _ z2
 refine B0 (wpAny_setField_rec za (by simp) fun pa zb ma=>?_)
 replace zb:IsZip pa z TI TO (rawInt p2.objs.size):=zb
 refine wpAny_setField_rec zb (by simp) fun pb zc mb=>?_
 replace zc:IsZip pb z TI TO (rawInt p2.objs.size):=zc
 have up:∀ c o,c≠z->p2.get? c=some o->pb.get? c=some o:=fun c o c1 e=>mb.extBut _ _ c1 (ma.extBut _ _ c1 (B3 _ e))
 have tt:AR pb p2.objs.size #[x1,x2]:=mb.extBut _ _ (Nat.ne_of_gt zl) (ma.extBut _ _ (Nat.ne_of_gt zl) (Heap.get?_push_size _ rfl))
 rw [r2] at zc tt
 refine B1 ⟨_,rfl,?_⟩
 show Q (.ref p2.objs.size) _
 rw [r2]
 exact q pb zc (up _ _ D.TO_z y2) (d1_2.at fun o e=>up _ o D.i1_z e) (d2_2.at fun o e=>up _ o D.i2_z e) tt fun c o c1 c2 c3 c4 e=>up c o c1 (w2 c o c1 c2 c3 c4 e)
theorem J1k {b1 b2:Bool}{z TI TO i1 i2 l1 l2:Addr}{k:Nat}{xs1 xs2:Array Value}{a1 a2:Value}{Q:Fin->Shared->Prop}(hh:A.handled=none)(D:ZAp2 z TI TO i1 i2 l1 l2)(hz:IsZip s.heap z TI TO .none)(hI:AR s.heap TI #[.ref i1,.ref i2])(hO:AR s.heap TO #[a1,a2])(d1:ItAt b1 s.heap i1 l1 k)(g1:SeqAt b1 s.heap l1 xs1)(d2:ItAt b2 s.heap i2 l2 k)(g2:SeqAt b2 s.heap l2 xs2)
 (e1:xs1[k]?=none) (q:∀ h' e,(∀ c o,c≠z->c≠TO->c≠i1->c≠i2->s.heap.get? c=some o->h'.get? c=some o)->(∃ o,h'.get? e=some o/\o.cls=.type "StopIteration")->E (.ref e) { s with heap:=h' }) :
 wpAny (model prog w) A (Builtin.«zip.__next__» ⟨[.ref z],[]⟩) Q E s:=by
 show wpAny _ _ (field (.ref z) 2 >>= _) _ _ _;refine B0 (wpAny_field hz rfl (x:=.bool false) rfl ?_)
 show wpAny _ _ (field (.ref z) 3 >>= _) _ _ _;refine B0 (wpAny_field hz rfl (x:=.ref TI) rfl ?_)
 refine B0 (wpAny_seqItems hI rfl ?_)
 show wpAny _ _ (Builtin.SmallTypes.ownedTupleIsFree (.ref z) >>= _) _ _ _;refine B0 ?_;unfold Builtin.SmallTypes.ownedTupleIsFree
 refine B0 (wpAny_field hz rfl (x:=.none) rfl (B1 ?_));simp only [if_true];refine B0 (wpAny_rule ?_)
 refine B0 (wpAny_field hz rfl (x:=.ref TO) rfl ?_);refine B0 (wpAny_setField_rec hz (by simp) fun p0 z0 m0=>?_)
 replace z0:IsZip p0 z TI TO .ellipsis:=z0
 have y0:AR p0 TO #[a1,a2]:=m0.extBut _ _ D.TO_z hO
 have w0:∀ c o,c≠z->c≠TO->c≠i1->c≠i2->s.heap.get? c=some o->p0.get? c=some o:=fun c o c1 _ _ _ e=>m0.extBut _ _ c1 e
 have r0:p0.objs.size=s.heap.objs.size:=m0.1
 have d1_0:ItAt b1 p0 i1 l1 k:=d1.at fun o e=>m0.extBut _ _ D.i1_z e
 have g1_0:SeqAt b1 p0 l1 xs1:=g1.at fun o e=>m0.extBut _ _ D.l1_z e
 have d2_0:ItAt b2 p0 i2 l2 k:=d2.at fun o e=>m0.extBut _ _ D.i2_z e
 have g2_0:SeqAt b2 p0 l2 xs2:=g2.at fun o e=>m0.extBut _ _ D.l2_z e
 refine B0 ?_;simp only [List.zipIdx_cons,List.zipIdx_nil,List.forIn_cons,List.forIn_nil]
 refine B0 (B0 (wpAny_onRaise ?_));show wpAny _ _ (Builtin.SmallTypes.nextOf (.ref i1) >>= _) _ _ _
 refine B0 (YA hh d1_0 g1_0 e1 fun u1 e n1 he=>?_)
 obtain ⟨oe,f1,f2⟩:=he
 have z1:IsZip u1 z TI TO .ellipsis:=n1 _ _ D.z_i1 z0
 have ez:e≠z:=fun x=>by subst x;rw [z1] at f1;cases f1;simp at f2
 refine wpAny_setField_rec z1 (by simp) fun p1 _ m1=>q p1 e (fun c o c1 c2 c3 c4 x=>m1.extBut _ _ c1 (n1 _ _ c3 (w0 c o c1 c2 c3 c4 x))) ⟨oe,m1.extBut _ _ ez f1,f2⟩
end
section
variable {prog:Program}{w:World}{A:Around}{E:Value->Shared->Prop}{s:Shared}
structure ZAp3 (z TI TO i1 i2 i3 l1 l2 l3:Addr):Prop where
 z_TI:z≠TI
 z_TO:z≠TO
 z_i1:z≠i1
 z_i2:z≠i2
 z_i3:z≠i3
 TI_z:TI≠z
 TI_TO:TI≠TO
 TI_i1:TI≠i1
 TI_i2:TI≠i2
 TI_i3:TI≠i3
 TO_z:TO≠z
 TO_TI:TO≠TI
 TO_i1:TO≠i1
 TO_i2:TO≠i2
 TO_i3:TO≠i3
 i1_z:i1≠z
 i1_TI:i1≠TI
 i1_TO:i1≠TO
 i1_i2:i1≠i2
 i1_i3:i1≠i3
 i2_z:i2≠z
 i2_TI:i2≠TI
 i2_TO:i2≠TO
 i2_i1:i2≠i1
 i2_i3:i2≠i3
 i3_z:i3≠z
 i3_TI:i3≠TI
 i3_TO:i3≠TO
 i3_i1:i3≠i1
 i3_i2:i3≠i2
 l1_z:l1≠z
 l1_TI:l1≠TI
 l1_TO:l1≠TO
 l1_i1:l1≠i1
 l1_i2:l1≠i2
 l1_i3:l1≠i3
 l2_z:l2≠z
 l2_TI:l2≠TI
 l2_TO:l2≠TO
 l2_i1:l2≠i1
 l2_i2:l2≠i2
 l2_i3:l2≠i3
 l3_z:l3≠z
 l3_TI:l3≠TI
 l3_TO:l3≠TO
 l3_i1:l3≠i1
 l3_i2:l3≠i2
 l3_i3:l3≠i3
theorem ZP {b1 b2 b3:Bool}{z TI TO i1 i2 i3 l1 l2 l3:Addr}{k:Nat}{xs1 xs2 xs3:Array Value}{x1 x2 x3 a1 a2 a3:Value}{Q:Value->Shared->Prop}(D:ZAp3 z TI TO i1 i2 i3 l1 l2 l3)(hz:IsZip s.heap z TI TO .none)(hI:AR s.heap TI #[.ref i1,.ref i2,.ref i3])(hO:AR s.heap TO #[a1,a2,a3])(d1:ItAt b1 s.heap i1 l1 k)(g1:SeqAt b1 s.heap l1 xs1)(d2:ItAt b2 s.heap i2 l2 k)(g2:SeqAt b2 s.heap l2 xs2)(d3:ItAt b3 s.heap i3 l3 k)(g3:SeqAt b3 s.heap l3 xs3)
 (e1:xs1[k]?=some x1) (e2:xs2[k]?=some x2) (e3:xs3[k]?=some x3)
 (q:∀ h',IsZip h' z TI TO (rawInt s.heap.objs.size)->AR h' TO #[x1,x2,x3]->ItAt b1 h' i1 l1 (k+1)->ItAt b2 h' i2 l2 (k+1)->ItAt b3 h' i3 l3 (k+1)->AR h' s.heap.objs.size #[x1,x2,x3]->(∀ c o,c≠z->c≠TO->c≠i1->c≠i2->c≠i3->s.heap.get? c=some o->h'.get? c=some o)->Q (.ref s.heap.objs.size) { s with heap:=h' }) :
 wpAny (model prog w) A (Builtin.«zip.__next__» ⟨[.ref z],[]⟩) (fun fin s'=>∃ v,fin=.done (.ret v)/\Q v s') E s:=by
 show wpAny _ _ (field (.ref z) 2 >>= _) _ _ _;refine B0 (wpAny_field hz rfl (x:=.bool false) rfl ?_)
 show wpAny _ _ (field (.ref z) 3 >>= _) _ _ _;refine B0 (wpAny_field hz rfl (x:=.ref TI) rfl ?_)
 refine B0 (wpAny_seqItems hI rfl ?_)
 show wpAny _ _ (Builtin.SmallTypes.ownedTupleIsFree (.ref z) >>= _) _ _ _;refine B0 ?_;unfold Builtin.SmallTypes.ownedTupleIsFree
 refine B0 (wpAny_field hz rfl (x:=.none) rfl (B1 ?_));simp only [if_true];refine B0 (wpAny_rule ?_)
 refine B0 (wpAny_field hz rfl (x:=.ref TO) rfl ?_);refine B0 (wpAny_setField_rec hz (by simp) fun p0 z0 m0=>?_)
 replace z0:IsZip p0 z TI TO .ellipsis:=z0
 have y0:AR p0 TO #[a1,a2,a3]:=m0.extBut _ _ D.TO_z hO
 have w0:∀ c o,c≠z->c≠TO->c≠i1->c≠i2->c≠i3->s.heap.get? c=some o->p0.get? c=some o:=fun c o c1 _ _ _ _ e=>m0.extBut _ _ c1 e
 have r0:p0.objs.size=s.heap.objs.size:=m0.1
 have d1_0:ItAt b1 p0 i1 l1 k:=d1.at fun o e=>m0.extBut _ _ D.i1_z e
 have g1_0:SeqAt b1 p0 l1 xs1:=g1.at fun o e=>m0.extBut _ _ D.l1_z e
 have d2_0:ItAt b2 p0 i2 l2 k:=d2.at fun o e=>m0.extBut _ _ D.i2_z e
 have g2_0:SeqAt b2 p0 l2 xs2:=g2.at fun o e=>m0.extBut _ _ D.l2_z e
 have d3_0:ItAt b3 p0 i3 l3 k:=d3.at fun o e=>m0.extBut _ _ D.i3_z e
 have g3_0:SeqAt b3 p0 l3 xs3:=g3.at fun o e=>m0.extBut _ _ D.l3_z e
 refine B0 ?_;simp only [List.zipIdx_cons,List.zipIdx_nil,List.forIn_cons,List.forIn_nil]
 refine B0 (B0 (wpAny_onRaise ?_));show wpAny _ _ (Builtin.SmallTypes.nextOf (.ref i1) >>= _) _ _ _
 refine B0 (IA d1_0 g1_0 e1 fun u1 t1 n1=>B1 ?_)
 have v1:AR u1 TO #[a1,a2,a3]:=n1.extBut _ _ D.TO_i1 y0
 refine B0 (wpAny_seqItems v1 rfl ?_);refine B0 (GK (Nat.le_of_ble_eq_true rfl) v1 fun p1 y1 m1=>?_)
 replace y1:AR p1 TO #[x1,a2,a3]:=y1
 have z1:IsZip p1 z TI TO .ellipsis:=m1.extBut _ _ D.z_TO (n1.extBut _ _ D.z_i1 z0)
 have w1:∀ c o,c≠z->c≠TO->c≠i1->c≠i2->c≠i3->s.heap.get? c=some o->p1.get? c=some o:=fun c o c1 c2 c3 c4 c5 e=>m1.extBut _ _ c2 (n1.extBut _ _ c3 (w0 c o c1 c2 c3 c4 c5 e))
 have r1:p1.objs.size=s.heap.objs.size:=by rw [m1.1,n1.1];exact r0
 have d1_1:ItAt b1 p1 i1 l1 (k+1):=t1.at fun o e=>m1.extBut _ _ D.i1_TO e
 have d2_1:ItAt b2 p1 i2 l2 k:=(d2_0.at fun o e=>n1.extBut _ _ D.i2_i1 e).at fun o e=>m1.extBut _ _ D.i2_TO e
 have g2_1:SeqAt b2 p1 l2 xs2:=(g2_0.at fun o e=>n1.extBut _ _ D.l2_i1 e).at fun o e=>m1.extBut _ _ D.l2_TO e
 have d3_1:ItAt b3 p1 i3 l3 k:=(d3_0.at fun o e=>n1.extBut _ _ D.i3_i1 e).at fun o e=>m1.extBut _ _ D.i3_TO e
 have g3_1:SeqAt b3 p1 l3 xs3:=(g3_0.at fun o e=>n1.extBut _ _ D.l3_i1 e).at fun o e=>m1.extBut _ _ D.l3_TO e
 refine B0 (wpAny_letGo (B1 ?_))
 refine B0 (B0 (wpAny_onRaise ?_));show wpAny _ _ (Builtin.SmallTypes.nextOf (.ref i2) >>= _) _ _ _
 refine B0 (IA d2_1 g2_1 e2 fun u2 t2 n2=>B1 ?_)
 have v2:AR u2 TO #[x1,a2,a3]:=n2.extBut _ _ D.TO_i2 y1
 refine B0 (wpAny_seqItems v2 rfl ?_);refine B0 (GK (Nat.le_of_ble_eq_true rfl) v2 fun p2 y2 m2=>?_)
 replace y2:AR p2 TO #[x1,x2,a3]:=y2
 have z2:IsZip p2 z TI TO .ellipsis:=m2.extBut _ _ D.z_TO (n2.extBut _ _ D.z_i2 z1)
 have w2:∀ c o,c≠z->c≠TO->c≠i1->c≠i2->c≠i3->s.heap.get? c=some o->p2.get? c=some o:=fun c o c1 c2 c3 c4 c5 e=>m2.extBut _ _ c2 (n2.extBut _ _ c4 (w1 c o c1 c2 c3 c4 c5 e))
 have r2:p2.objs.size=s.heap.objs.size:=by rw [m2.1,n2.1];exact r1
 have d1_2:ItAt b1 p2 i1 l1 (k+1):=(d1_1.at fun o e=>n2.extBut _ _ D.i1_i2 e).at fun o e=>m2.extBut _ _ D.i1_TO e
 have d2_2:ItAt b2 p2 i2 l2 (k+1):=t2.at fun o e=>m2.extBut _ _ D.i2_TO e
 have d3_2:ItAt b3 p2 i3 l3 k:=(d3_1.at fun o e=>n2.extBut _ _ D.i3_i2 e).at fun o e=>m2.extBut _ _ D.i3_TO e
 have g3_2:SeqAt b3 p2 l3 xs3:=(g3_1.at fun o e=>n2.extBut _ _ D.l3_i2 e).at fun o e=>m2.extBut _ _ D.l3_TO e
 refine B0 (wpAny_letGo (B1 ?_))
 refine B0 (B0 (wpAny_onRaise ?_));show wpAny _ _ (Builtin.SmallTypes.nextOf (.ref i3) >>= _) _ _ _
 refine B0 (IA d3_2 g3_2 e3 fun u3 t3 n3=>B1 ?_)
 have v3:AR u3 TO #[x1,x2,a3]:=n3.extBut _ _ D.TO_i3 y2
 refine B0 (wpAny_seqItems v3 rfl ?_);refine B0 (GK (Nat.le_of_ble_eq_true rfl) v3 fun p3 y3 m3=>?_)
 replace y3:AR p3 TO #[x1,x2,x3]:=y3
 have z3:IsZip p3 z TI TO .ellipsis:=m3.extBut _ _ D.z_TO (n3.extBut _ _ D.z_i3 z2)
 have w3:∀ c o,c≠z->c≠TO->c≠i1->c≠i2->c≠i3->s.heap.get? c=some o->p3.get? c=some o:=fun c o c1 c2 c3 c4 c5 e=>m3.extBut _ _ c2 (n3.extBut _ _ c5 (w2 c o c1 c2 c3 c4 c5 e))
 have r3:p3.objs.size=s.heap.objs.size:=by rw [m3.1,n3.1];exact r2
 have d1_3:ItAt b1 p3 i1 l1 (k+1):=(d1_2.at fun o e=>n3.extBut _ _ D.i1_i3 e).at fun o e=>m3.extBut _ _ D.i1_TO e
 have d2_3:ItAt b2 p3 i2 l2 (k+1):=(d2_2.at fun o e=>n3.extBut _ _ D.i2_i3 e).at fun o e=>m3.extBut _ _ D.i2_TO e
 have d3_3:ItAt b3 p3 i3 l3 (k+1):=t3.at fun o e=>m3.extBut _ _ D.i3_TO e
 refine B0 (wpAny_letGo (B1 (B1 ?_)))
 refine B0 (wpAny_seqItems y3 rfl ?_);refine B0 (wpAny_newTuple ?_)
 have zl:z<p3.objs.size:=B4 z3
 show wpAny _ _ (Builtin.SmallTypes.ownedTupleHandOut (.ref z) (.ref p3.objs.size) >>= _) _ _ _;refine B0 ?_;unfold Builtin.SmallTypes.ownedTupleHandOut
 have za:IsZip (p3.push { cls:=.type "tuple",data:=.seq #[x1,x2,x3] }) z TI TO .ellipsis:=B3 _ z3
 refine B0 (wpAny_setField_rec za (by simp) fun pa zb ma=>?_)
 replace zb:IsZip pa z TI TO (rawInt p3.objs.size):=zb
 refine wpAny_setField_rec zb (by simp) fun pb zc mb=>?_
 replace zc:IsZip pb z TI TO (rawInt p3.objs.size):=zc
 have up:∀ c o,c≠z->p3.get? c=some o->pb.get? c=some o:=fun c o c1 e=>mb.extBut _ _ c1 (ma.extBut _ _ c1 (B3 _ e))
 have tt:AR pb p3.objs.size #[x1,x2,x3]:=mb.extBut _ _ (Nat.ne_of_gt zl) (ma.extBut _ _ (Nat.ne_of_gt zl) (Heap.get?_push_size _ rfl))
 rw [r3] at zc tt
 refine B1 ⟨_,rfl,?_⟩
 show Q (.ref p3.objs.size) _
 rw [r3]
 exact q pb zc (up _ _ D.TO_z y3) (d1_3.at fun o e=>up _ o D.i1_z e) (d2_3.at fun o e=>up _ o D.i2_z e) (d3_3.at fun o e=>up _ o D.i3_z e) tt fun c o c1 c2 c3 c4 c5 e=>up c o c1 (w3 c o c1 c2 c3 c4 c5 e)
theorem J1j {b1 b2 b3:Bool}{z TI TO i1 i2 i3 l1 l2 l3:Addr}{k:Nat}{xs1 xs2 xs3:Array Value}{a1 a2 a3:Value}{Q:Fin->Shared->Prop}(hh:A.handled=none)(D:ZAp3 z TI TO i1 i2 i3 l1 l2 l3)(hz:IsZip s.heap z TI TO .none)(hI:AR s.heap TI #[.ref i1,.ref i2,.ref i3])(hO:AR s.heap TO #[a1,a2,a3])(d1:ItAt b1 s.heap i1 l1 k)(g1:SeqAt b1 s.heap l1 xs1)(d2:ItAt b2 s.heap i2 l2 k)(g2:SeqAt b2 s.heap l2 xs2)(d3:ItAt b3 s.heap i3 l3 k)(g3:SeqAt b3 s.heap l3 xs3)
 (e1:xs1[k]?=none) (q:∀ h' e,(∀ c o,c≠z->c≠TO->c≠i1->c≠i2->c≠i3->s.heap.get? c=some o->h'.get? c=some o)->(∃ o,h'.get? e=some o/\o.cls=.type "StopIteration")->E (.ref e) { s with heap:=h' }) :
 wpAny (model prog w) A (Builtin.«zip.__next__» ⟨[.ref z],[]⟩) Q E s:=by
 show wpAny _ _ (field (.ref z) 2 >>= _) _ _ _;refine B0 (wpAny_field hz rfl (x:=.bool false) rfl ?_)
 show wpAny _ _ (field (.ref z) 3 >>= _) _ _ _;refine B0 (wpAny_field hz rfl (x:=.ref TI) rfl ?_)
 refine B0 (wpAny_seqItems hI rfl ?_)
 show wpAny _ _ (Builtin.SmallTypes.ownedTupleIsFree (.ref z) >>= _) _ _ _;refine B0 ?_;unfold Builtin.SmallTypes.ownedTupleIsFree
 refine B0 (wpAny_field hz rfl (x:=.none) rfl (B1 ?_));simp only [if_true];refine B0 (wpAny_rule ?_)
 refine B0 (wpAny_field hz rfl (x:=.ref TO) rfl ?_);refine B0 (wpAny_setField_rec hz (by simp) fun p0 z0 m0=>?_)
 replace z0:IsZip p0 z TI TO .ellipsis:=z0
 have y0:AR p0 TO #[a1,a2,a3]:=m0.extBut _ _ D.TO_z hO
 have w0:∀ c o,c≠z->c≠TO->c≠i1->c≠i2->c≠i3->s.heap.get? c=some o->p0.get? c=some o:=fun c o c1 _ _ _ _ e=>m0.extBut _ _ c1 e
 have r0:p0.objs.size=s.heap.objs.size:=m0.1
 have d1_0:ItAt b1 p0 i1 l1 k:=d1.at fun o e=>m0.extBut _ _ D.i1_z e
 have g1_0:SeqAt b1 p0 l1 xs1:=g1.at fun o e=>m0.extBut _ _ D.l1_z e
 have d2_0:ItAt b2 p0 i2 l2 k:=d2.at fun o e=>m0.extBut _ _ D.i2_z e
 have g2_0:SeqAt b2 p0 l2 xs2:=g2.at fun o e=>m0.extBut _ _ D.l2_z e
 have d3_0:ItAt b3 p0 i3 l3 k:=d3.at fun o e=>m0.extBut _ _ D.i3_z e
 have g3_0:SeqAt b3 p0 l3 xs3:=g3.at fun o e=>m0.extBut _ _ D.l3_z e
 refine B0 ?_;simp only [List.zipIdx_cons,List.zipIdx_nil,List.forIn_cons,List.forIn_nil]
 refine B0 (B0 (wpAny_onRaise ?_));show wpAny _ _ (Builtin.SmallTypes.nextOf (.ref i1) >>= _) _ _ _
 refine B0 (YA hh d1_0 g1_0 e1 fun u1 e n1 he=>?_)
 obtain ⟨oe,f1,f2⟩:=he
 have z1:IsZip u1 z TI TO .ellipsis:=n1 _ _ D.z_i1 z0
 have ez:e≠z:=fun x=>by subst x;rw [z1] at f1;cases f1;simp at f2
 refine wpAny_setField_rec z1 (by simp) fun p1 _ m1=>q p1 e (fun c o c1 c2 c3 c4 c5 x=>m1.extBut _ _ c1 (n1 _ _ c3 (w0 c o c1 c2 c3 c4 c5 x))) ⟨oe,m1.extBut _ _ ez f1,f2⟩
end
section
variable {prog:Program}{w:World}{A:Around}{E:Value->Shared->Prop}{s:Shared}
def Z3 (b:Bool)(l:Addr):Obj:=match b with
 | false=>{ cls:=.type "list_iterator",data:=.fields #[.ref l,.int 0 0] }
 | true=>{ cls:=.type "tuple_iterator",data:=.fields #[.ref l,.int 0 0] }
theorem IQ {b:Bool}{h:Heap}{u l:Addr}(e:h.get? u=some (Z3 b l)):ItAt b h u l 0:=by
 cases b with
 | false=>exact ⟨_,e,rfl,rfl⟩
 | true=>exact ⟨_,e,rfl,rfl⟩
theorem FQ (b:Bool)(l:Addr):(Z3 b l).isFreed=false:=by cases b<;>rfl
theorem HZ {b:Bool}{l:Addr}{xs:Array Value}{Q:Value->Shared->Prop}(a:SeqAt b s.heap l xs)(q:Q (.ref s.heap.objs.size) { s with heap:=s.heap.push (Z3 b l) }):wpAny (model prog w) A (pyIter (.ref l)) Q E s:=by
 cases b with
 | false=>exact wpAny_pyIter_list a q
 | true=>exact wpAny_pyIter_tuple a q
end
theorem PY (a b c:Value):checkTypeCall "zip" ⟨[a,b,c],[]⟩=pure ():=by kernel_rfl
theorem SM (a b c:Value):checkBuiltinCall "zip.__new__" ⟨[.type "zip",a,b,c],[]⟩=pure ():=by kernel_rfl
theorem XQ (a b c d:Value):argsOk "object.__init__" ⟨[a,b,c,d],[]⟩:=by
 unfold argsOk;rw [signature?_of (id:="object.__init__") (n:=['_','_','t','i','n','i','_','_']) (o:=['t','c','e','j','b','o']) (by kernel_rfl) F.owner_object];kernel_rfl
section
variable {prog:Program}{w:World}{A:Around}{E:Value->Shared->Prop}{s:Shared}
abbrev zH2 (b1 b2:Bool)(l1 l2:Addr)(s:Shared):Heap:=(((((s.heap.push (Z3 b1 l1)).push (Z3 b2 l2)).push { cls:=.type "tuple",data:=.seq #[.ref s.heap.objs.size,.ref (s.heap.objs.size+1)] }).push { cls:=.type "tuple",data:=.seq #[.none,.none] }).push { cls:=.type "zip",data:=.fields #[.none,.bool false,.bool false,.ref (s.heap.objs.size+2),.ref (s.heap.objs.size+3)] })
theorem XB (b1 b2:Bool)(l1 l2:Addr)(xs1 xs2:Array Value) :
 Meets (Builtin.«zip.__new__» ⟨[.type "zip",.ref l1,.ref l2],[]⟩) (fun _ R s=>SeqAt b1 s.heap l1 xs1/\SeqAt b2 s.heap l2 xs2/\R (.ok (.ret (.ref (s.heap.objs.size+4)))) { s with heap:=zH2 b1 b2 l1 l2 s }) :=
 .of_wp fun prog w A R s h=>by
  obtain ⟨hp,g,d,tk,os⟩:=s;obtain ⟨k1,k2,h⟩:=h
  have hs:=sub_zip
  have K1:SeqAt b1 (Shared.heap ⟨hp,g,d,tk,os⟩) l1 xs1:=k1.at fun o e=>e
  have K2:SeqAt b2 (Shared.heap ⟨(hp.push (Z3 b1 l1)),g,d,tk,os⟩) l2 xs2:=k2.at fun o e=>B3 _ (e)
  wp_walk using HZ K1,HZ K2
  simp only [Heap.size_push] at *
  exact ⟨_,rfl,h⟩
theorem J1e {b1 b2:Bool}{l1 l2:Addr}{xs1 xs2:Array Value}{Q:Value->Shared->Prop}(k1:SeqAt b1 s.heap l1 xs1)(k2:SeqAt b2 s.heap l2 xs2)
 (q:∀ h',IsZip h' (s.heap.objs.size+4) (s.heap.objs.size+2) (s.heap.objs.size+3) .none->AR h' (s.heap.objs.size+2) #[.ref s.heap.objs.size,.ref (s.heap.objs.size+1)]->AR h' (s.heap.objs.size+3) #[.none,.none]->ItAt b1 h' (s.heap.objs.size) l1 0->ItAt b2 h' (s.heap.objs.size+1) l2 0->(∀ c o,s.heap.get? c=some o->h'.get? c=some o)->Q (.ref (s.heap.objs.size+4)) { s with heap:=h' }) :
 wpAny (model prog w) A (call (.type "zip") [.ref l1,.ref l2]) Q E s:=by
 refine callType_new F.called_zip (by decide) (F.typeCall_zip_2 _ _) (F.newCall_zip_2 _ _) (fun obj=>F.args_object_init_3 obj _ _) F.entry_zip_new (XB b1 b2 l1 l2 xs1 xs2) ⟨k1,k2,?_⟩
 have z1:(s.heap.push (Z3 b1 l1)).objs.size=s.heap.objs.size+1:=by exact Heap.size_push ..
 have z2:((s.heap.push (Z3 b1 l1)).push (Z3 b2 l2)).objs.size=s.heap.objs.size+2:=by rw [Heap.size_push,z1]
 have z3:(((s.heap.push (Z3 b1 l1)).push (Z3 b2 l2)).push { cls:=.type "tuple",data:=.seq #[.ref s.heap.objs.size,.ref (s.heap.objs.size+1)] }).objs.size=s.heap.objs.size+3:=by rw [Heap.size_push,z2]
 have z4:((((s.heap.push (Z3 b1 l1)).push (Z3 b2 l2)).push { cls:=.type "tuple",data:=.seq #[.ref s.heap.objs.size,.ref (s.heap.objs.size+1)] }).push { cls:=.type "tuple",data:=.seq #[.none,.none] }).objs.size=s.heap.objs.size+4:=by rw [Heap.size_push,z3]
 have g0:(zH2 b1 b2 l1 l2 s).get? s.heap.objs.size=some _:=B3 _ (B3 _ (B3 _ (B3 _ (Heap.get?_push_size _ (FQ _ _)))))
 have g1:(zH2 b1 b2 l1 l2 s).get? (s.heap.push (Z3 b1 l1)).objs.size=some _:=B3 _ (B3 _ (B3 _ (Heap.get?_push_size _ (FQ _ _))))
 rw [z1] at g1
 have g2:(zH2 b1 b2 l1 l2 s).get? ((s.heap.push (Z3 b1 l1)).push (Z3 b2 l2)).objs.size=some _:=B3 _ (B3 _ (Heap.get?_push_size _ rfl))
 rw [z2] at g2
 have g3:(zH2 b1 b2 l1 l2 s).get? (((s.heap.push (Z3 b1 l1)).push (Z3 b2 l2)).push { cls:=.type "tuple",data:=.seq #[.ref s.heap.objs.size,.ref (s.heap.objs.size+1)] }).objs.size=some _:=B3 _ (Heap.get?_push_size _ rfl)
 rw [z3] at g3
 have g4:(zH2 b1 b2 l1 l2 s).get? ((((s.heap.push (Z3 b1 l1)).push (Z3 b2 l2)).push { cls:=.type "tuple",data:=.seq #[.ref s.heap.objs.size,.ref (s.heap.objs.size+1)] }).push { cls:=.type "tuple",data:=.seq #[.none,.none] }).objs.size=some _:=Heap.get?_push_size _ rfl
 rw [z4] at g4
 exact ⟨⟨_,g4,rfl⟩,q _ g4 g2 g3 (IQ g0) (IQ g1) fun c o x=>B3 _ (B3 _ (B3 _ (B3 _ (B3 _ x))))⟩
end
def Q4z (K:Fg)(b1 b2:Bool)(l1 l2:Addr):It :=
 ⟨fun i H=>∃ ys1 ys2 y1 y2,SqX K b1 H l1 ys1/\ys1[i]?=some y1/\SqX K b2 H l2 ys2/\ys2[i]?=some y2,
  fun i H v H'=>∃ t y1 y2,v=.ref t/\H t=none/\H'=upd H t (.tup [y1,y2])/\(∀ ys,SqX K b1 H l1 ys->ys[i]?=some y1)/\(∀ ys,SqX K b2 H l2 ys->ys[i]?=some y2),
  fun i H=>(∃ ys,SqX K b1 H l1 ys/\ys.length<=i)/\(∃ ys,SqX K b2 H l2 ys)⟩
structure ZFp2 (z TI TO i1 i2:Addr):Prop where
 z_TI:z≠TI
 z_TO:z≠TO
 z_i1:z≠i1
 z_i2:z≠i2
 TI_z:TI≠z
 TI_TO:TI≠TO
 TI_i1:TI≠i1
 TI_i2:TI≠i2
 TO_z:TO≠z
 TO_TI:TO≠TI
 TO_i1:TO≠i1
 TO_i2:TO≠i2
 i1_z:i1≠z
 i1_TI:i1≠TI
 i1_TO:i1≠TO
 i1_i2:i1≠i2
 i2_z:i2≠z
 i2_TI:i2≠TI
 i2_TO:i2≠TO
 i2_i1:i2≠i1
def V0o (b1 b2:Bool)(z TI TO i1 i2 l1 l2:Addr)(i:Nat)(h:Heap):Prop:=IsZip h z TI TO .none/\AR h TI #[.ref i1,.ref i2]/\(∃ a1 a2,AR h TO #[a1,a2])/\ItAt b1 h i1 l1 i/\ItAt b2 h i2 l2 i
theorem ZS {w:World} {elts:List Expr}{c1}{tpos:Pos}{b1 b2:Bool}{z TI TO i1 i2 l1 l2:Addr}(Z:ZFp2 z TI TO i1 i2):Turn P w K (.Tuple elts c1 tpos) (Q4z K b1 b2 l1 l2) [z,TI,TO,i1,i2] z (V0o b1 b2 z TI TO i1 i2 l1 l2) where
 mem:=by simp
 obj:=fun i h st b hb=>by
  obtain ⟨s1,s2,⟨a1,a2,s3⟩,d1,d2⟩:=st
  simp only [List.mem_cons,List.not_mem_nil,or_false] at hb
  rcases hb with rfl|rfl|rfl|rfl|rfl
  · exact ⟨_,s1,fun v q=>by cases q⟩
  · exact ⟨_,s2,fun v q=>by cases q⟩
  · exact ⟨_,s3,fun v q=>by cases q⟩
  · exact d1.obj
  · exact d2.obj
 keep:=fun i h h' st k=>by
  obtain ⟨s1,s2,⟨a1,a2,s3⟩,d1,d2⟩:=st
  exact ⟨k z (by simp) _ s1,k TI (by simp) _ s2,⟨a1,a2,k TO (by simp) _ s3⟩,d1.at fun o e=>k i1 (by simp) o e,d2.at fun o e=>k i2 (by simp) o e⟩
 item:=by
  intro X hP hw hK hc i pins s σ H E I hf st hg
  subst hP hw hK
  obtain ⟨ys1,ys2,y1,y2,h1,q1,h2,q2⟩:=hg
  obtain ⟨s1,s2,⟨a1,a2,s3⟩,d1,d2⟩:=st
  obtain ⟨v1,r1,p1,_⟩:=I.seqX h1
  obtain ⟨u1,m1,t1⟩:=r1.get q1
  obtain ⟨v2,r2,p2,_⟩:=I.seqX h2
  obtain ⟨u2,m2,t2⟩:=r2.get q2
  have D:ZAp2 z TI TO i1 i2 l1 l2:={ z_TI:=Z.z_TI,z_TO:=Z.z_TO,z_i1:=Z.z_i1,z_i2:=Z.z_i2,TI_z:=Z.TI_z,TI_TO:=Z.TI_TO,TI_i1:=Z.TI_i1,TI_i2:=Z.TI_i2,TO_z:=Z.TO_z,TO_TI:=Z.TO_TI,TO_i1:=Z.TO_i1,TO_i2:=Z.TO_i2,i1_z:=Z.i1_z,i1_TI:=Z.i1_TI,i1_TO:=Z.i1_TO,i1_i2:=Z.i1_i2,i2_z:=Z.i2_z,i2_TI:=Z.i2_TI,i2_TO:=Z.i2_TO,i2_i1:=Z.i2_i1,l1_z:=I.seqX_ne h1 (hf z (by simp)),l1_TI:=I.seqX_ne h1 (hf TI (by simp)),l1_TO:=I.seqX_ne h1 (hf TO (by simp)),l1_i1:=I.seqX_ne h1 (hf i1 (by simp)),l1_i2:=I.seqX_ne h1 (hf i2 (by simp)),l2_z:=I.seqX_ne h2 (hf z (by simp)),l2_TI:=I.seqX_ne h2 (hf TI (by simp)),l2_TO:=I.seqX_ne h2 (hf TO (by simp)),l2_i1:=I.seqX_ne h2 (hf i1 (by simp)),l2_i2:=I.seqX_ne h2 (hf i2 (by simp)) }
  have hT:s.TypeIs (.ref z) "zip":=⟨_,s1,rfl⟩
  have szn:∀ b∈[z,TI,TO,i1,i2],b≠s.heap.objs.size:=fun b hb e=>by
   simp only [List.mem_cons,List.not_mem_nil,or_false] at hb
   rcases hb with rfl|rfl|rfl|rfl|rfl
   · exact Nat.lt_irrefl _ (e▸B4 s1)
   · exact Nat.lt_irrefl _ (e▸B4 s2)
   · exact Nat.lt_irrefl _ (e▸B4 s3)
   · obtain ⟨_,w1,_⟩:=d1.obj;exact Nat.lt_irrefl _ (e▸B4 w1)
   · obtain ⟨_,w1,_⟩:=d2.obj;exact Nat.lt_irrefl _ (e▸B4 w1)
  unfold pyNext
  refine B0 (wpAny_attempt (wpAny_callSpecial?_slot (name:=Str.ofString "__next__") hT F.slot_zip_next (wpAny_call_entry F.slot_zip_next hT F.entry_zip_next (ZQ D s1 s2 s3 d1 p1 d2 p2 (x1:=u1) (by simpa using m1) (x2:=u2) (by simpa using m2) fun h' e1 e2 f1 f2 e3 kp=>B1 ?_) (F.args_zip_next_1 _))))
  refine ⟨_,rfl,wpAny_letOwnedTupleGo_zip (s:={ s with heap:=h' }) e1 fun hq e4 sb=>?_⟩
  have up:∀ b o,b≠z->h'.get? b=some o->hq.get? b=some o:=fun b o hb e=>sb.extBut _ _ hb e
  have I2:Inv X pins σ (upd H s.heap.objs.size (.tup [y1,y2])) { s with heap:=hq }:=I.zipped (t':=s.toks) (fp:=[z,TI,TO,i1,i2]) hf (fun b o hb e=>up b o (fun x=>hb (by simp [x])) (kp b o (fun x=>hb (by simp [x])) (fun x=>hb (by simp [x])) (fun x=>hb (by simp [x])) (fun x=>hb (by simp [x])) e)) (Nat.le_refl _)
   ⟨Nat.le_trans (Nat.le_of_ble_eq_true rfl) AF,[u1,u2],.cons t1 (.cons t2 (.nil)),⟨_,up _ _ (Ne.symm (szn z (by simp))) e3,rfl,_,rfl⟩⟩
  refine ⟨.ref s.heap.objs.size,_,I2,rfl,⟨_,y1,y2,rfl,I.hok.fresh (Nat.le_refl _),rfl,fun ys hy=>by rw [I.seqX_inj hy h1];exact q1,fun ys hy=>by rw [I.seqX_inj hy h2];exact q2⟩,⟨e4,up _ _ D.TI_z (kp _ _ D.TI_z D.TI_TO D.TI_i1 D.TI_i2 s2),⟨_,_,up _ _ D.TO_z e2⟩,f1.at fun o e=>up _ o D.i1_z e,f2.at fun o e=>up _ o D.i2_z e⟩,fun b hb=>?_⟩
  rw [V8 (szn b hb)]
  exact (hf b hb).1
 done:=by
  intro X hP hw hK hc i pins s σ H E I hf st hg
  subst hP hw hK
  obtain ⟨⟨ys1,h1,q1⟩,⟨ys2,h2⟩⟩:=hg
  obtain ⟨s1,s2,⟨a1,a2,s3⟩,d1,d2⟩:=st
  obtain ⟨v1,r1,p1,_⟩:=I.seqX h1
  obtain ⟨v2,r2,p2,_⟩:=I.seqX h2
  have D:ZAp2 z TI TO i1 i2 l1 l2:={ z_TI:=Z.z_TI,z_TO:=Z.z_TO,z_i1:=Z.z_i1,z_i2:=Z.z_i2,TI_z:=Z.TI_z,TI_TO:=Z.TI_TO,TI_i1:=Z.TI_i1,TI_i2:=Z.TI_i2,TO_z:=Z.TO_z,TO_TI:=Z.TO_TI,TO_i1:=Z.TO_i1,TO_i2:=Z.TO_i2,i1_z:=Z.i1_z,i1_TI:=Z.i1_TI,i1_TO:=Z.i1_TO,i1_i2:=Z.i1_i2,i2_z:=Z.i2_z,i2_TI:=Z.i2_TI,i2_TO:=Z.i2_TO,i2_i1:=Z.i2_i1,l1_z:=I.seqX_ne h1 (hf z (by simp)),l1_TI:=I.seqX_ne h1 (hf TI (by simp)),l1_TO:=I.seqX_ne h1 (hf TO (by simp)),l1_i1:=I.seqX_ne h1 (hf i1 (by simp)),l1_i2:=I.seqX_ne h1 (hf i2 (by simp)),l2_z:=I.seqX_ne h2 (hf z (by simp)),l2_TI:=I.seqX_ne h2 (hf TI (by simp)),l2_TO:=I.seqX_ne h2 (hf TO (by simp)),l2_i1:=I.seqX_ne h2 (hf i1 (by simp)),l2_i2:=I.seqX_ne h2 (hf i2 (by simp)) }
  have hT:s.TypeIs (.ref z) "zip":=⟨_,s1,rfl⟩
  have hl:=r1.length
  unfold pyNext
  refine B0 (wpAny_attempt (wpAny_callSpecial?_slot (name:=Str.ofString "__next__") hT F.slot_zip_next (wpAny_call_entry F.slot_zip_next hT F.entry_zip_next (J1k (I.ok.hd hc) D s1 s2 s3 d1 p1 d2 p2 (by simp;omega) fun h' e kp he=>?_) (F.args_zip_next_1 _))))
  obtain ⟨oe,f1,f2⟩:=he
  refine B0 (wpAny_isInstance (T:="StopIteration") (b:=true) ⟨oe,f1,f2⟩ isSubtype_stop (B1 ⟨rfl,?_⟩))
  exact I.turnedL (t':=s.toks) (fp:=[z,TI,TO,i1,i2]) hf fun b o hb e=>kp b o (fun x=>hb (by simp [x])) (fun x=>hb (by simp [x])) (fun x=>hb (by simp [x])) (fun x=>hb (by simp [x])) e
 self:=fun _ _ _ _ _ st h=>wpAny_pyIter_zip st.1 h
section
variable {prog:Program}{w:World}{A:Around}{E:Value->Shared->Prop}{s:Shared}
abbrev zH3 (b1 b2 b3:Bool)(l1 l2 l3:Addr)(s:Shared):Heap:=((((((s.heap.push (Z3 b1 l1)).push (Z3 b2 l2)).push (Z3 b3 l3)).push { cls:=.type "tuple",data:=.seq #[.ref s.heap.objs.size,.ref (s.heap.objs.size+1),.ref (s.heap.objs.size+2)] }).push { cls:=.type "tuple",data:=.seq #[.none,.none,.none] }).push { cls:=.type "zip",data:=.fields #[.none,.bool false,.bool false,.ref (s.heap.objs.size+3),.ref (s.heap.objs.size+4)] })
theorem XA (b1 b2 b3:Bool)(l1 l2 l3:Addr)(xs1 xs2 xs3:Array Value) :
 Meets (Builtin.«zip.__new__» ⟨[.type "zip",.ref l1,.ref l2,.ref l3],[]⟩) (fun _ R s=>SeqAt b1 s.heap l1 xs1/\SeqAt b2 s.heap l2 xs2/\SeqAt b3 s.heap l3 xs3/\R (.ok (.ret (.ref (s.heap.objs.size+5)))) { s with heap:=zH3 b1 b2 b3 l1 l2 l3 s }) :=
 .of_wp fun prog w A R s h=>by
  obtain ⟨hp,g,d,tk,os⟩:=s;obtain ⟨k1,k2,k3,h⟩:=h
  have hs:=sub_zip
  have K1:SeqAt b1 (Shared.heap ⟨hp,g,d,tk,os⟩) l1 xs1:=k1.at fun o e=>e
  have K2:SeqAt b2 (Shared.heap ⟨(hp.push (Z3 b1 l1)),g,d,tk,os⟩) l2 xs2:=k2.at fun o e=>B3 _ (e)
  have K3:SeqAt b3 (Shared.heap ⟨((hp.push (Z3 b1 l1)).push (Z3 b2 l2)),g,d,tk,os⟩) l3 xs3:=k3.at fun o e=>B3 _ (B3 _ (e))
  wp_walk using HZ K1,HZ K2,HZ K3
  simp only [Heap.size_push] at *
  exact ⟨_,rfl,h⟩
theorem J1d {b1 b2 b3:Bool}{l1 l2 l3:Addr}{xs1 xs2 xs3:Array Value}{Q:Value->Shared->Prop}(k1:SeqAt b1 s.heap l1 xs1)(k2:SeqAt b2 s.heap l2 xs2)(k3:SeqAt b3 s.heap l3 xs3)
 (q:∀ h',IsZip h' (s.heap.objs.size+5) (s.heap.objs.size+3) (s.heap.objs.size+4) .none->AR h' (s.heap.objs.size+3) #[.ref s.heap.objs.size,.ref (s.heap.objs.size+1),.ref (s.heap.objs.size+2)]->AR h' (s.heap.objs.size+4) #[.none,.none,.none]->ItAt b1 h' (s.heap.objs.size) l1 0->ItAt b2 h' (s.heap.objs.size+1) l2 0->ItAt b3 h' (s.heap.objs.size+2) l3 0->(∀ c o,s.heap.get? c=some o->h'.get? c=some o)->Q (.ref (s.heap.objs.size+5)) { s with heap:=h' }) :
 wpAny (model prog w) A (call (.type "zip") [.ref l1,.ref l2,.ref l3]) Q E s:=by
 refine callType_new F.called_zip (by decide) (PY _ _ _) (SM _ _ _) (fun obj=>XQ obj _ _ _) F.entry_zip_new (XA b1 b2 b3 l1 l2 l3 xs1 xs2 xs3) ⟨k1,k2,k3,?_⟩
 have z1:(s.heap.push (Z3 b1 l1)).objs.size=s.heap.objs.size+1:=by exact Heap.size_push ..
 have z2:((s.heap.push (Z3 b1 l1)).push (Z3 b2 l2)).objs.size=s.heap.objs.size+2:=by rw [Heap.size_push,z1]
 have z3:(((s.heap.push (Z3 b1 l1)).push (Z3 b2 l2)).push (Z3 b3 l3)).objs.size=s.heap.objs.size+3:=by rw [Heap.size_push,z2]
 have z4:((((s.heap.push (Z3 b1 l1)).push (Z3 b2 l2)).push (Z3 b3 l3)).push { cls:=.type "tuple",data:=.seq #[.ref s.heap.objs.size,.ref (s.heap.objs.size+1),.ref (s.heap.objs.size+2)] }).objs.size=s.heap.objs.size+4:=by rw [Heap.size_push,z3]
 have z5:(((((s.heap.push (Z3 b1 l1)).push (Z3 b2 l2)).push (Z3 b3 l3)).push { cls:=.type "tuple",data:=.seq #[.ref s.heap.objs.size,.ref (s.heap.objs.size+1),.ref (s.heap.objs.size+2)] }).push { cls:=.type "tuple",data:=.seq #[.none,.none,.none] }).objs.size=s.heap.objs.size+5:=by rw [Heap.size_push,z4]
 have g0:(zH3 b1 b2 b3 l1 l2 l3 s).get? s.heap.objs.size=some _:=B3 _ (B3 _ (B3 _ (B3 _ (B3 _ (Heap.get?_push_size _ (FQ _ _))))))
 have g1:(zH3 b1 b2 b3 l1 l2 l3 s).get? (s.heap.push (Z3 b1 l1)).objs.size=some _:=B3 _ (B3 _ (B3 _ (B3 _ (Heap.get?_push_size _ (FQ _ _)))))
 rw [z1] at g1
 have g2:(zH3 b1 b2 b3 l1 l2 l3 s).get? ((s.heap.push (Z3 b1 l1)).push (Z3 b2 l2)).objs.size=some _:=B3 _ (B3 _ (B3 _ (Heap.get?_push_size _ (FQ _ _))))
 rw [z2] at g2
 have g3:(zH3 b1 b2 b3 l1 l2 l3 s).get? (((s.heap.push (Z3 b1 l1)).push (Z3 b2 l2)).push (Z3 b3 l3)).objs.size=some _:=B3 _ (B3 _ (Heap.get?_push_size _ rfl))
 rw [z3] at g3
 have g4:(zH3 b1 b2 b3 l1 l2 l3 s).get? ((((s.heap.push (Z3 b1 l1)).push (Z3 b2 l2)).push (Z3 b3 l3)).push { cls:=.type "tuple",data:=.seq #[.ref s.heap.objs.size,.ref (s.heap.objs.size+1),.ref (s.heap.objs.size+2)] }).objs.size=some _:=B3 _ (Heap.get?_push_size _ rfl)
 rw [z4] at g4
 have g5:(zH3 b1 b2 b3 l1 l2 l3 s).get? (((((s.heap.push (Z3 b1 l1)).push (Z3 b2 l2)).push (Z3 b3 l3)).push { cls:=.type "tuple",data:=.seq #[.ref s.heap.objs.size,.ref (s.heap.objs.size+1),.ref (s.heap.objs.size+2)] }).push { cls:=.type "tuple",data:=.seq #[.none,.none,.none] }).objs.size=some _:=Heap.get?_push_size _ rfl
 rw [z5] at g5
 exact ⟨⟨_,g5,rfl⟩,q _ g5 g3 g4 (IQ g0) (IQ g1) (IQ g2) fun c o x=>B3 _ (B3 _ (B3 _ (B3 _ (B3 _ (B3 _ x)))))⟩
end
def Q4y (K:Fg)(b1 b2 b3:Bool)(l1 l2 l3:Addr):It :=
 ⟨fun i H=>∃ ys1 ys2 ys3 y1 y2 y3,SqX K b1 H l1 ys1/\ys1[i]?=some y1/\SqX K b2 H l2 ys2/\ys2[i]?=some y2/\SqX K b3 H l3 ys3/\ys3[i]?=some y3,
  fun i H v H'=>∃ t y1 y2 y3,v=.ref t/\H t=none/\H'=upd H t (.tup [y1,y2,y3])/\(∀ ys,SqX K b1 H l1 ys->ys[i]?=some y1)/\(∀ ys,SqX K b2 H l2 ys->ys[i]?=some y2)/\(∀ ys,SqX K b3 H l3 ys->ys[i]?=some y3),
  fun i H=>(∃ ys,SqX K b1 H l1 ys/\ys.length<=i)/\(∃ ys,SqX K b2 H l2 ys)/\(∃ ys,SqX K b3 H l3 ys)⟩
structure ZFp3 (z TI TO i1 i2 i3:Addr):Prop where
 z_TI:z≠TI
 z_TO:z≠TO
 z_i1:z≠i1
 z_i2:z≠i2
 z_i3:z≠i3
 TI_z:TI≠z
 TI_TO:TI≠TO
 TI_i1:TI≠i1
 TI_i2:TI≠i2
 TI_i3:TI≠i3
 TO_z:TO≠z
 TO_TI:TO≠TI
 TO_i1:TO≠i1
 TO_i2:TO≠i2
 TO_i3:TO≠i3
 i1_z:i1≠z
 i1_TI:i1≠TI
 i1_TO:i1≠TO
 i1_i2:i1≠i2
 i1_i3:i1≠i3
 i2_z:i2≠z
 i2_TI:i2≠TI
 i2_TO:i2≠TO
 i2_i1:i2≠i1
 i2_i3:i2≠i3
 i3_z:i3≠z
 i3_TI:i3≠TI
 i3_TO:i3≠TO
 i3_i1:i3≠i1
 i3_i2:i3≠i2
def V0n (b1 b2 b3:Bool)(z TI TO i1 i2 i3 l1 l2 l3:Addr)(i:Nat)(h:Heap):Prop:=IsZip h z TI TO .none/\AR h TI #[.ref i1,.ref i2,.ref i3]/\(∃ a1 a2 a3,AR h TO #[a1,a2,a3])/\ItAt b1 h i1 l1 i/\ItAt b2 h i2 l2 i/\ItAt b3 h i3 l3 i
theorem ZR {w:World} {elts:List Expr}{c1}{tpos:Pos}{b1 b2 b3:Bool}{z TI TO i1 i2 i3 l1 l2 l3:Addr}(Z:ZFp3 z TI TO i1 i2 i3):Turn P w K (.Tuple elts c1 tpos) (Q4y K b1 b2 b3 l1 l2 l3) [z,TI,TO,i1,i2,i3] z (V0n b1 b2 b3 z TI TO i1 i2 i3 l1 l2 l3) where
 mem:=by simp
 obj:=fun i h st b hb=>by
  obtain ⟨s1,s2,⟨a1,a2,a3,s3⟩,d1,d2,d3⟩:=st
  simp only [List.mem_cons,List.not_mem_nil,or_false] at hb
  rcases hb with rfl|rfl|rfl|rfl|rfl|rfl
  · exact ⟨_,s1,fun v q=>by cases q⟩
  · exact ⟨_,s2,fun v q=>by cases q⟩
  · exact ⟨_,s3,fun v q=>by cases q⟩
  · exact d1.obj
  · exact d2.obj
  · exact d3.obj
 keep:=fun i h h' st k=>by
  obtain ⟨s1,s2,⟨a1,a2,a3,s3⟩,d1,d2,d3⟩:=st
  exact ⟨k z (by simp) _ s1,k TI (by simp) _ s2,⟨a1,a2,a3,k TO (by simp) _ s3⟩,d1.at fun o e=>k i1 (by simp) o e,d2.at fun o e=>k i2 (by simp) o e,d3.at fun o e=>k i3 (by simp) o e⟩
 item:=by
  intro X hP hw hK hc i pins s σ H E I hf st hg
  subst hP hw hK
  obtain ⟨ys1,ys2,ys3,y1,y2,y3,h1,q1,h2,q2,h3,q3⟩:=hg
  obtain ⟨s1,s2,⟨a1,a2,a3,s3⟩,d1,d2,d3⟩:=st
  obtain ⟨v1,r1,p1,_⟩:=I.seqX h1
  obtain ⟨u1,m1,t1⟩:=r1.get q1
  obtain ⟨v2,r2,p2,_⟩:=I.seqX h2
  obtain ⟨u2,m2,t2⟩:=r2.get q2
  obtain ⟨v3,r3,p3,_⟩:=I.seqX h3
  obtain ⟨u3,m3,t3⟩:=r3.get q3
  have D:ZAp3 z TI TO i1 i2 i3 l1 l2 l3:={ z_TI:=Z.z_TI,z_TO:=Z.z_TO,z_i1:=Z.z_i1,z_i2:=Z.z_i2,z_i3:=Z.z_i3,TI_z:=Z.TI_z,TI_TO:=Z.TI_TO,TI_i1:=Z.TI_i1,TI_i2:=Z.TI_i2,TI_i3:=Z.TI_i3,TO_z:=Z.TO_z,TO_TI:=Z.TO_TI,TO_i1:=Z.TO_i1,TO_i2:=Z.TO_i2,TO_i3:=Z.TO_i3,i1_z:=Z.i1_z,i1_TI:=Z.i1_TI,i1_TO:=Z.i1_TO,i1_i2:=Z.i1_i2,i1_i3:=Z.i1_i3,i2_z:=Z.i2_z,i2_TI:=Z.i2_TI,i2_TO:=Z.i2_TO,i2_i1:=Z.i2_i1,i2_i3:=Z.i2_i3,i3_z:=Z.i3_z,i3_TI:=Z.i3_TI,i3_TO:=Z.i3_TO,i3_i1:=Z.i3_i1,i3_i2:=Z.i3_i2,l1_z:=I.seqX_ne h1 (hf z (by simp)),l1_TI:=I.seqX_ne h1 (hf TI (by simp)),l1_TO:=I.seqX_ne h1 (hf TO (by simp)),l1_i1:=I.seqX_ne h1 (hf i1 (by simp)),l1_i2:=I.seqX_ne h1 (hf i2 (by simp)),l1_i3:=I.seqX_ne h1 (hf i3 (by simp)),l2_z:=I.seqX_ne h2 (hf z (by simp)),l2_TI:=I.seqX_ne h2 (hf TI (by simp)),l2_TO:=I.seqX_ne h2 (hf TO (by simp)),l2_i1:=I.seqX_ne h2 (hf i1 (by simp)),l2_i2:=I.seqX_ne h2 (hf i2 (by simp)),l2_i3:=I.seqX_ne h2 (hf i3 (by simp)),l3_z:=I.seqX_ne h3 (hf z (by simp)),l3_TI:=I.seqX_ne h3 (hf TI (by simp)),l3_TO:=I.seqX_ne h3 (hf TO (by simp)),l3_i1:=I.seqX_ne h3 (hf i1 (by simp)),l3_i2:=I.seqX_ne h3 (hf i2 (by simp)),l3_i3:=I.seqX_ne h3 (hf i3 (by simp)) }
  have hT:s.TypeIs (.ref z) "zip":=⟨_,s1,rfl⟩
  have szn:∀ b∈[z,TI,TO,i1,i2,i3],b≠s.heap.objs.size:=fun b hb e=>by
   simp only [List.mem_cons,List.not_mem_nil,or_false] at hb
   rcases hb with rfl|rfl|rfl|rfl|rfl|rfl
   · exact Nat.lt_irrefl _ (e▸B4 s1)
   · exact Nat.lt_irrefl _ (e▸B4 s2)
   · exact Nat.lt_irrefl _ (e▸B4 s3)
   · obtain ⟨_,w1,_⟩:=d1.obj;exact Nat.lt_irrefl _ (e▸B4 w1)
   · obtain ⟨_,w1,_⟩:=d2.obj;exact Nat.lt_irrefl _ (e▸B4 w1)
   · obtain ⟨_,w1,_⟩:=d3.obj;exact Nat.lt_irrefl _ (e▸B4 w1)
  unfold pyNext
  refine B0 (wpAny_attempt (wpAny_callSpecial?_slot (name:=Str.ofString "__next__") hT F.slot_zip_next (wpAny_call_entry F.slot_zip_next hT F.entry_zip_next (ZP D s1 s2 s3 d1 p1 d2 p2 d3 p3 (x1:=u1) (by simpa using m1) (x2:=u2) (by simpa using m2) (x3:=u3) (by simpa using m3) fun h' e1 e2 f1 f2 f3 e3 kp=>B1 ?_) (F.args_zip_next_1 _))))
  refine ⟨_,rfl,wpAny_letOwnedTupleGo_zip (s:={ s with heap:=h' }) e1 fun hq e4 sb=>?_⟩
  have up:∀ b o,b≠z->h'.get? b=some o->hq.get? b=some o:=fun b o hb e=>sb.extBut _ _ hb e
  have I2:Inv X pins σ (upd H s.heap.objs.size (.tup [y1,y2,y3])) { s with heap:=hq }:=I.zipped (t':=s.toks) (fp:=[z,TI,TO,i1,i2,i3]) hf (fun b o hb e=>up b o (fun x=>hb (by simp [x])) (kp b o (fun x=>hb (by simp [x])) (fun x=>hb (by simp [x])) (fun x=>hb (by simp [x])) (fun x=>hb (by simp [x])) (fun x=>hb (by simp [x])) e)) (Nat.le_refl _)
   ⟨Nat.le_trans (Nat.le_of_ble_eq_true rfl) AF,[u1,u2,u3],.cons t1 (.cons t2 (.cons t3 (.nil))),⟨_,up _ _ (Ne.symm (szn z (by simp))) e3,rfl,_,rfl⟩⟩
  refine ⟨.ref s.heap.objs.size,_,I2,rfl,⟨_,y1,y2,y3,rfl,I.hok.fresh (Nat.le_refl _),rfl,fun ys hy=>by rw [I.seqX_inj hy h1];exact q1,fun ys hy=>by rw [I.seqX_inj hy h2];exact q2,fun ys hy=>by rw [I.seqX_inj hy h3];exact q3⟩,⟨e4,up _ _ D.TI_z (kp _ _ D.TI_z D.TI_TO D.TI_i1 D.TI_i2 D.TI_i3 s2),⟨_,_,_,up _ _ D.TO_z e2⟩,f1.at fun o e=>up _ o D.i1_z e,f2.at fun o e=>up _ o D.i2_z e,f3.at fun o e=>up _ o D.i3_z e⟩,fun b hb=>?_⟩
  rw [V8 (szn b hb)]
  exact (hf b hb).1
 done:=by
  intro X hP hw hK hc i pins s σ H E I hf st hg
  subst hP hw hK
  obtain ⟨⟨ys1,h1,q1⟩,⟨ys2,h2⟩,⟨ys3,h3⟩⟩:=hg
  obtain ⟨s1,s2,⟨a1,a2,a3,s3⟩,d1,d2,d3⟩:=st
  obtain ⟨v1,r1,p1,_⟩:=I.seqX h1
  obtain ⟨v2,r2,p2,_⟩:=I.seqX h2
  obtain ⟨v3,r3,p3,_⟩:=I.seqX h3
  have D:ZAp3 z TI TO i1 i2 i3 l1 l2 l3:={ z_TI:=Z.z_TI,z_TO:=Z.z_TO,z_i1:=Z.z_i1,z_i2:=Z.z_i2,z_i3:=Z.z_i3,TI_z:=Z.TI_z,TI_TO:=Z.TI_TO,TI_i1:=Z.TI_i1,TI_i2:=Z.TI_i2,TI_i3:=Z.TI_i3,TO_z:=Z.TO_z,TO_TI:=Z.TO_TI,TO_i1:=Z.TO_i1,TO_i2:=Z.TO_i2,TO_i3:=Z.TO_i3,i1_z:=Z.i1_z,i1_TI:=Z.i1_TI,i1_TO:=Z.i1_TO,i1_i2:=Z.i1_i2,i1_i3:=Z.i1_i3,i2_z:=Z.i2_z,i2_TI:=Z.i2_TI,i2_TO:=Z.i2_TO,i2_i1:=Z.i2_i1,i2_i3:=Z.i2_i3,i3_z:=Z.i3_z,i3_TI:=Z.i3_TI,i3_TO:=Z.i3_TO,i3_i1:=Z.i3_i1,i3_i2:=Z.i3_i2,l1_z:=I.seqX_ne h1 (hf z (by simp)),l1_TI:=I.seqX_ne h1 (hf TI (by simp)),l1_TO:=I.seqX_ne h1 (hf TO (by simp)),l1_i1:=I.seqX_ne h1 (hf i1 (by simp)),l1_i2:=I.seqX_ne h1 (hf i2 (by simp)),l1_i3:=I.seqX_ne h1 (hf i3 (by simp)),l2_z:=I.seqX_ne h2 (hf z (by simp)),l2_TI:=I.seqX_ne h2 (hf TI (by simp)),l2_TO:=I.seqX_ne h2 (hf TO (by simp)),l2_i1:=I.seqX_ne h2 (hf i1 (by simp)),l2_i2:=I.seqX_ne h2 (hf i2 (by simp)),l2_i3:=I.seqX_ne h2 (hf i3 (by simp)),l3_z:=I.seqX_ne h3 (hf z (by simp)),l3_TI:=I.seqX_ne h3 (hf TI (by simp)),l3_TO:=I.seqX_ne h3 (hf TO (by simp)),l3_i1:=I.seqX_ne h3 (hf i1 (by simp)),l3_i2:=I.seqX_ne h3 (hf i2 (by simp)),l3_i3:=I.seqX_ne h3 (hf i3 (by simp)) }
  have hT:s.TypeIs (.ref z) "zip":=⟨_,s1,rfl⟩
  have hl:=r1.length
  unfold pyNext
  refine B0 (wpAny_attempt (wpAny_callSpecial?_slot (name:=Str.ofString "__next__") hT F.slot_zip_next (wpAny_call_entry F.slot_zip_next hT F.entry_zip_next (J1j (I.ok.hd hc) D s1 s2 s3 d1 p1 d2 p2 d3 p3 (by simp;omega) fun h' e kp he=>?_) (F.args_zip_next_1 _))))
  obtain ⟨oe,f1,f2⟩:=he
  refine B0 (wpAny_isInstance (T:="StopIteration") (b:=true) ⟨oe,f1,f2⟩ isSubtype_stop (B1 ⟨rfl,?_⟩))
  exact I.turnedL (t':=s.toks) (fp:=[z,TI,TO,i1,i2,i3]) hf fun b o hb e=>kp b o (fun x=>hb (by simp [x])) (fun x=>hb (by simp [x])) (fun x=>hb (by simp [x])) (fun x=>hb (by simp [x])) (fun x=>hb (by simp [x])) e
 self:=fun _ _ _ _ _ st h=>wpAny_pyIter_zip st.1 h
noncomputable def J3r (K:Fg)(b1 b2:Bool)(ta:TA):TI:=fun σ H R=>ta σ H fun vs H1=>∃ l1 l2,vs=[.ref l1,.ref l2]/\(∃ ys,SqX K b1 H1 l1 ys)/\(∃ ys,SqX K b2 H1 l2 ys)/\R (Q4z K b1 b2 l1 l2) H1
theorem IY {X:Cx}{elts:List Expr}{c1}{tpos:Pos}(K:Fg)(hK:X.K=K)(b1 b2:Bool){e1 e2:Expr}{ta:TA}{p pos:Pos}(hg:Gl X "zip") (hm:X.mg "zip" = none) (ha:PA X [e1,e2] ta)
 (hs:starEach [e1,e2] X.env=[(false,eval e1 X.env),(false,eval e2 X.env)]:=by rfl) (hs2:starEach [e2] X.env=[(false,eval e2 X.env)]:=by rfl) :
 PI X (.Tuple elts c1 tpos) (.Call (.Name "zip" p) [e1,e2] [] pos) (J3r K b1 b2 ta):=by
 subst hK
 intro pins s σ H R I h
 refine Call_ (IM I hg hm J5n (PyProof.Rows.callWith_type1 (thn (ha pos pins s σ H _ I h) fun us s1 ⟨vs,H1,I1,r1,q1⟩=>?_) (by rw [hs,hs2]) (by rw [hs2];rfl)))
 obtain ⟨l1,l2,e,⟨ys1,h1⟩,⟨ys2,h2⟩,q⟩:=q1
 subst e
 obtain ⟨u1,u2,rfl,t1,t2⟩:=MW r1
 cases t1
 cases t2
 obtain ⟨v1,r1,p1,_⟩:=I1.seqX h1
 obtain ⟨v2,r2,p2,_⟩:=I1.seqX h2
 refine J1e p1 p2 fun h' f1 f2 f3 g1 g2 kp=>?_
 refine wpAny_pyIter_zip (s:={ s1 with heap:=h' }) f1 ?_
 refine ⟨s1.heap.objs.size+4,[s1.heap.objs.size+4,s1.heap.objs.size+2,s1.heap.objs.size+3,s1.heap.objs.size,s1.heap.objs.size+1],_,_,H1,rfl,I1.kept (t':=s1.toks) kp,ZS (b1:=b1) (TI:=s1.heap.objs.size+2) (TO:=s1.heap.objs.size+3) (i1:=s1.heap.objs.size) (i2:=s1.heap.objs.size+1) (l1:=l1) (l2:=l2) ⟨by show (_:Nat)≠_;omega,by show (_:Nat)≠_;omega,by show (_:Nat)≠_;omega,by show (_:Nat)≠_;omega,by show (_:Nat)≠_;omega,by show (_:Nat)≠_;omega,by show (_:Nat)≠_;omega,by show (_:Nat)≠_;omega,by show (_:Nat)≠_;omega,by show (_:Nat)≠_;omega,by show (_:Nat)≠_;omega,by show (_:Nat)≠_;omega,by show (_:Nat)≠_;omega,by show (_:Nat)≠_;omega,by show (_:Nat)≠_;omega,by show (_:Nat)≠_;omega,by show (_:Nat)≠_;omega,by show (_:Nat)≠_;omega,by show (_:Nat)≠_;omega,by show (_:Nat)≠_;omega⟩,⟨f1,f2,⟨_,_,f3⟩,g1,g2⟩,fun b hb=>?_,q⟩
 have hge:s1.heap.objs.size<=b:=by
  simp only [List.mem_cons,List.not_mem_nil,or_false] at hb
  rcases hb with rfl|rfl|rfl|rfl|rfl<;>first|exact Nat.le_refl _|exact Nat.le_add_right _ _
 exact I1.fpOk hge (I1.hok.fresh hge)
noncomputable def Q0a (K:Fg)(b1 b2 b3:Bool)(ta:TA):TI:=fun σ H R=>ta σ H fun vs H1=>∃ l1 l2 l3,vs=[.ref l1,.ref l2,.ref l3]/\(∃ ys,SqX K b1 H1 l1 ys)/\(∃ ys,SqX K b2 H1 l2 ys)/\(∃ ys,SqX K b3 H1 l3 ys)/\R (Q4y K b1 b2 b3 l1 l2 l3) H1
theorem J6z {X:Cx}{elts:List Expr}{c1}{tpos:Pos}(K:Fg)(hK:X.K=K)(b1 b2 b3:Bool){e1 e2 e3:Expr}{ta:TA}{p pos:Pos}(hg:Gl X "zip") (hm:X.mg "zip" = none) (ha:PA X [e1,e2,e3] ta)
 (hs:starEach [e1,e2,e3] X.env=[(false,eval e1 X.env),(false,eval e2 X.env),(false,eval e3 X.env)]:=by rfl) (hs2:starEach [e2,e3] X.env=[(false,eval e2 X.env),(false,eval e3 X.env)]:=by rfl) :
 PI X (.Tuple elts c1 tpos) (.Call (.Name "zip" p) [e1,e2,e3] [] pos) (Q0a K b1 b2 b3 ta):=by
 subst hK
 intro pins s σ H R I h
 refine Call_ (IM I hg hm J5n (PyProof.Rows.callWith_type1 (thn (ha pos pins s σ H _ I h) fun us s1 ⟨vs,H1,I1,r1,q1⟩=>?_) (by rw [hs,hs2]) (by rw [hs2];rfl)))
 obtain ⟨l1,l2,l3,e,⟨ys1,h1⟩,⟨ys2,h2⟩,⟨ys3,h3⟩,q⟩:=q1
 subst e
 cases r1 with
 | cons t1 r1 =>
 cases r1 with
 | cons t2 r1 =>
 cases r1 with
 | cons t3 r1 =>
 cases r1
 cases t1
 cases t2
 cases t3
 obtain ⟨v1,r1,p1,_⟩:=I1.seqX h1
 obtain ⟨v2,r2,p2,_⟩:=I1.seqX h2
 obtain ⟨v3,r3,p3,_⟩:=I1.seqX h3
 refine J1d p1 p2 p3 fun h' f1 f2 f3 g1 g2 g3 kp=>?_
 refine wpAny_pyIter_zip (s:={ s1 with heap:=h' }) f1 ?_
 refine ⟨s1.heap.objs.size+5,[s1.heap.objs.size+5,s1.heap.objs.size+3,s1.heap.objs.size+4,s1.heap.objs.size,s1.heap.objs.size+1,s1.heap.objs.size+2],_,_,H1,rfl,I1.kept (t':=s1.toks) kp,ZR (b1:=b1) (TI:=s1.heap.objs.size+3) (TO:=s1.heap.objs.size+4) (i1:=s1.heap.objs.size) (i2:=s1.heap.objs.size+1) (i3:=s1.heap.objs.size+2) (l1:=l1) (l2:=l2) (l3:=l3) ⟨by show (_:Nat)≠_;omega,by show (_:Nat)≠_;omega,by show (_:Nat)≠_;omega,by show (_:Nat)≠_;omega,by show (_:Nat)≠_;omega,by show (_:Nat)≠_;omega,by show (_:Nat)≠_;omega,by show (_:Nat)≠_;omega,by show (_:Nat)≠_;omega,by show (_:Nat)≠_;omega,by show (_:Nat)≠_;omega,by show (_:Nat)≠_;omega,by show (_:Nat)≠_;omega,by show (_:Nat)≠_;omega,by show (_:Nat)≠_;omega,by show (_:Nat)≠_;omega,by show (_:Nat)≠_;omega,by show (_:Nat)≠_;omega,by show (_:Nat)≠_;omega,by show (_:Nat)≠_;omega,by show (_:Nat)≠_;omega,by show (_:Nat)≠_;omega,by show (_:Nat)≠_;omega,by show (_:Nat)≠_;omega,by show (_:Nat)≠_;omega,by show (_:Nat)≠_;omega,by show (_:Nat)≠_;omega,by show (_:Nat)≠_;omega,by show (_:Nat)≠_;omega,by show (_:Nat)≠_;omega⟩,⟨f1,f2,⟨_,_,_,f3⟩,g1,g2,g3⟩,fun b hb=>?_,q⟩
 have hge:s1.heap.objs.size<=b:=by
  simp only [List.mem_cons,List.not_mem_nil,or_false] at hb
  rcases hb with rfl|rfl|rfl|rfl|rfl|rfl<;>first|exact Nat.le_refl _|exact Nat.le_add_right _ _
 exact I1.fpOk hge (I1.hok.fresh hge)
section
variable {X:Cx}
theorem J2q {x:Str}{n:Int}{pos:Pos}(hg:Gl X x)(hm:∃ t,X.mg x=some (.int n t))(hd:(x==("__debug__" : Str))=false:=by decide):PE X (.Name x pos) (tC (.int n)):=by
 obtain ⟨t,e⟩:=hm
 exact YI hg e ⟨t,rfl⟩ hd
theorem YL:∀ cs:List (Int×Nat×Pos),PA X (cs.map fun c=>.Constant (.int c.1) c.2.1 c.2.2) (fun σ H Q=>Q (cs.map fun c=>V.int c.1) H)
 | []=>AA
 | c::cs=>by
   intro pos pins s σ H Q I h
   exact V2 (e:=.Constant (.int c.1) c.2.1 c.2.2) AC (YL cs) (by rfl) pos pins s σ H Q I h
theorem WL {es:List Expr}{x1}{pos:Pos}(cs:List (Int×Nat×Pos))(h:es=cs.map fun c=>.Constant (.int c.1) c.2.1 c.2.2):PE X (.Tuple es x1 pos) (Q5i fun σ H Q=>Q (cs.map fun c=>V.int c.1) H):=by
 subst h
 exact WM (YL cs)
theorem J2h {sts0:List Stmt}{t:TS}(h:PSs X sts0 t):∀ {sts:List Stmt},PSs X sts (fun D σ H=>sts=sts0/\t D σ H):=by
 intro sts pins s σ H D I q
 obtain ⟨e,q⟩:=q
 subst e
 exact h pins s σ H D I q
end
def Itv (K:Fg)(n:Nat)(a:Addr):It :=
 ⟨fun i H=>∃ xs,SqL K H a xs/\xs.length=n/\i<n,fun i H x H'=>H'=H/\∀ xs,SqL K H a xs->xs.reverse[i]?=some x,fun i H=>i=n⟩
theorem HY {w:World} {tg:Expr}(n:Nat)(a it:Addr):Turn P w K tg (Itv K n a) [it] it (fun i h=>i<=n/\h.IsRevIter it a ((n:Int) - 1 - i)) where
 mem:=by simp
 obj:=fun i h st b hb=>by
  have e:b=it:=by simpa using hb
  subst e
  obtain ⟨_,o,e,c,d⟩:=st
  exact ⟨o,e,fun v z=>by rw [d] at z;cases z⟩
 keep:=fun i h h' st k=>⟨st.1,st.2.at fun o e=>k it (by simp) o e⟩
 item:=by
  intro X hP hw hK hc i pins s σ H E I hf st hg
  subst hP hw hK
  obtain ⟨xs,hq,hn,hi⟩:=hg
  obtain ⟨its,rv,p,hz⟩:=I.list hq
  obtain ⟨x,hx⟩:∃ x,xs[n - 1 - i]?=some x:=⟨_,List.getElem?_eq_getElem (by omega)⟩
  obtain ⟨u,hu,ru⟩:=rv.get hx
  obtain ⟨f0,f1,f2,f3,f4,f5⟩:=hf it (by simp)
  obtain ⟨_,st⟩:=st
  have ei:((n:Int) - 1 - i)=((n - 1 - i:Nat):Int):=by omega
  rw [ei] at st
  refine wpAny_pyNext_rev_item st p.isList (x:=u) (by simpa using hu) fun h' st' sb=>?_
  have I1:Inv X pins σ H { s with heap:=h' }:=I.turned (t':=s.toks) (fun b o hb e=>(sb.2 b hb).trans e) f0 f1 f3 f4 f5
  have ej:((n - 1 - i:Nat):Int) - 1=(n:Int) - 1 - (i+1:Nat):=by omega
  rw [ej] at st'
  obtain ⟨o,e,c,d⟩:=id st'
  refine ⟨u,rfl,YV (s:={ s with heap:=h' }) e c d (by decide) ⟨x,H,I1,ru,⟨rfl,fun ys hy=>?_⟩,⟨hi,st'⟩,fun b hb=>(hf b hb).1⟩⟩
  rw [I.list_inj hy hq,List.getElem?_reverse (by omega),hn]
  exact hx
 done:=by
  intro X hP hw hK hc i pins s σ H E I hf st hg
  subst hP hw hK
  obtain ⟨f0,f1,f2,f3,f4,f5⟩:=hf it (by simp)
  have hg:i=n:=hg
  subst hg
  obtain ⟨_,st⟩:=st
  have ei:((i:Int) - 1 - i) = -1:=by omega
  rw [ei] at st
  exact wpAny_pyNext_rev_end (I.ok.hd hc) st fun h' eb=>⟨rfl,I.turned (t':=s.toks) (fun b o hb e=>eb b o hb e) f0 f1 f3 f4 f5⟩
 self:=fun A i s Q E st h=>wpAny_pyIter_revIter st.2 h
theorem VI:bootBuiltins "reversed" = some (.type "reversed"):=by decide +kernel
noncomputable def V3j (K:Fg)(ta:TA):TI:=fun σ H R=>ta σ H fun vs H1=>∃ l xs,vs=[.ref l]/\SqL K H1 l xs/\R (Itv K xs.length l) H1
def V3t (K:Fg)(H:Hp)(ps:List Addr)(ns:List (List Int)):Prop:=ps.length=ns.length/\∀ (i:Nat) p l,ps[i]?=some p->ns[i]?=some l->SqT K H p (l.map V.int)
def V3w (K:Fg)(H:Hp)(ps:List Addr)(xss:List (List V)):Prop:=ps.length=xss.length/\∀ (i:Nat) p xs,ps[i]?=some p->xss[i]?=some xs->SqL K H p xs/\∀ x∈xs,J3x x=true
theorem ZX {X:Cx}(K:Fg)(h:X.K=K):SlR X (J2d K):=by subst h;exact J6q
section
variable {X:Cx}{x:Str}{C:Addr}{bm bmN:List Value}{newId Bn inN B nid initId:String}{e0:Expr}{rest:List Expr}{t:TA}{np cpos pos:Pos}
theorem J2i (O:OwnCls x C bm newId X.mg X.base)(Fn:ExcBaseFacts Bn newId inN bmN)(hBn:bm.contains (.type Bn)=true)(FB:ExcBaseFacts B nid initId bm)(hc:X.calm=true)(hg:Gl X x)(E:XK)
 (hx:∀ (pins:List (Addr×Obj)) (σ:St) (H:Hp) (s:Shared) (h':Heap) (e:Addr) (us:List Value),Inv X pins σ H s->Heap.MadeExcOf s.heap h' e (.ref C) us->E (.ref C) none H->X.xe (.ref e) { s with heap:=h' })
 (ha:PA X (e0::rest) t) (hz:∀ σ H Q,t σ H Q->t σ H fun vs H1=>vs.length<=sizeLine/\Q vs H1)
 (he:starEach (e0::rest) X.env=(false,eval e0 X.env)::starEach rest X.env:=by rfl) (hpl:(backTo cpos (starEach rest X.env)).any (·.1)=false:=by rfl) (hd:(x==("__debug__" : Str))=false:=by decide) :
 PS X (.Raise (some (.Call (.Name x np) (e0::rest) [] cpos)) none pos) (fun _ σ H=>t σ H fun _ H1=>E (.ref C) none H1):=by
 intro pins s σ H D I q
 obtain ⟨tl,N,nm,qn,bs,hdct,sn,sub,ab,col,dd,k0,k1,k2,k3,k5,mN,hC,hN,hni,T⟩:=O.obj
 refine wpAny_Raise_call_subU (C:=C) (nm:=nm) (q:=qn) (N:=N) (bs:=bs) (bm:=tl) (hdct:=hdct) (sn:=sn) (sub:=sub) (ab:=ab) (col:=col) (dd:=dd) (k0:=k0) (k1:=k1) (k2:=k2) (k3:=k3) (k5:=k5)
  Fn hBn FB (mN:=mN) (T.hasType FB.hasBase) (I.ok.hd hc) (by rw [he];show (false||(backTo cpos (starEach rest X.env)).any (·.1))=false;rw [hpl];rfl) hni (LA I hg O.bound ⟨rfl,?_⟩ hd)
 have h1:=ha cpos pins s σ H _ I (hz _ _ _ q)
 rw [he] at h1 ⊢
 refine Calls.evalArgs_plain (wpAny_mono h1 (fun us s2 ⟨vs,H1,I1,r,z,w⟩=>⟨rfl,by rw [<- r.length];exact z,I1.bk _ _ hC,hN.keeps I1.bk,T.keeps I1.bk,fun h' e hm=>hx pins σ H1 s2 h' e us I1 hm w⟩) fun _ _ y=>y)
end
section
variable {M:Model}{A:Around}{E:Value->Shared->Prop}{s:Shared}
structure Gone (fs:List Addr)(x:Addr)(ox:Obj)(old:List Addr)(h h':Heap)(T:Addr):Prop where
 keep:∀ b o,b∉fs->b≠x->b∉old->h.get? b=some o->h'.get? b=some o
 slot:∀ b o,b∈fs->h.get? b=some o->∃ sl,h'.get? b=some { o with slots:=sl }
 new:h.objs.size<=T
 exc:h'.get? x=some (ox.mapFields (·.setIfInBounds 1 (.ref T)))
 tr:∃ oT ts,h'.get? T=some oT/\oT.data=.fields ts/\ts[3]?=some .none
theorem JX {env:Env}{outer:List Env}{L x:Addr}{ox:Obj}{vs:Array Value}{hd:Value}{nx:Bool}{Q:Unit->Shared->Prop}(f1:A.frames=some (env::outer))(f2:s.heap.FunFrames base (env::outer))(f3:env.frame=some L)
 (x1:s.heap.get? x=some ox) (x2:ox.data=.fields vs) (x3:1<vs.size) (q:∀ h' T,Gone ((env::outer).filterMap (·.frame)) x ox [] s.heap h' T->Q () { s with heap:=h' }) :
 wpAny M A (do let a <- frameOf env;let pl <- entryPlaceOf L nx;let b <- EntryCells.newEntry hd a .none (rawInt L) .none pl;setField (.ref x) 1 b) (fun _ s'=>wpAny M A (setFlight (.ref x) none) Q E s') E s:=by
 have xf:x∉(env::outer).filterMap (·.frame):=fun hm=>by
  obtain ⟨_,o,e1,e2⟩:=f2.mem hm
  rw [x1] at e1
  cases e1
  exact e2 vs x2
 refine B0 (wpAny_frameOf_fun f1 f2 f3 fun g1 m1=>B0 (wpAny_entryPlaceOf fun pl hpl=>?_))
 unfold EntryCells.newEntry newFields
 refine B0 (wpAny_newObj_type ?_ (hpl.sizeOk5 _ _ _ _ _))
 generalize hob:({ cls:=.type "traceback",dict:=none,data:=.fields ([hd,.ref L,.none,rawInt L,.none]++(if pl.isEmpty then List.replicate 6 Value.none else pl)).toArray }:Obj)=ob
 have dob:ob.data=.fields ([hd,.ref L,.none,rawInt L,.none]++(if pl.isEmpty then List.replicate 6 Value.none else pl)).toArray:=by rw [<- hob]
 have lob:ob.isFreed=false:=Obj.isFreed_of_fields dob
 have xg1:g1.get? x=some ox:=(m1.2.1 x xf).trans x1
 have xg2:=B3 (h:=g1) ob xg1
 refine wpAny_setField xg2 x2 x3 ?_
 have nTx:g1.objs.size≠x:=Nat.ne_of_gt (B4 xg1)
 have dx:=Obj.data_mapFields x2 (·.setIfInBounds 1 (Value.ref g1.objs.size))
 have xg3:=Heap.get?_update_self (Obj.mapFields (·.setIfInBounds 1 (Value.ref g1.objs.size))) xg2 (Obj.isFreed_of_fields dx)
 have tg3:=(Heap.get?_update_other (g1.push ob) (Obj.mapFields (·.setIfInBounds 1 (Value.ref g1.objs.size))) (Ne.symm nTx)).trans (Heap.get?_push_size g1 lob)
 unfold setFlight
 refine B0 (wpAny_field xg3 dx (x:=.ref g1.objs.size) (by simp [x3]) ?_)
 rw [if_pos (show (Value.ref g1.objs.size != Value.none)=true from by simp)]
 refine wpAny_setField tg3 dob (by simp only [List.size_toArray,List.length_append,List.length_cons,List.length_nil]<;>omega) (q _ g1.objs.size ⟨?_,?_,?_,?_,?_⟩)
 · intro b o nf nx' _ e
   have e1:g1.get? b=some o:=(m1.2.1 b nf).trans e
   rw [Heap.get?_update_other _ _ (Nat.ne_of_gt (B4 e1)),Heap.get?_update_other _ _ (Ne.symm nx')]
   exact B3 _ e1
 · intro b o hb e
   obtain ⟨sl,e1⟩:=m1.2.2 b o e
   refine ⟨sl,?_⟩
   have nbx:b≠x:=fun z=>xf (z▸hb)
   rw [Heap.get?_update_other _ _ (Nat.ne_of_gt (B4 e1)),Heap.get?_update_other _ _ (Ne.symm nbx)]
   exact B3 _ e1
 · rw [m1.1]
   exact Nat.le_refl _
 · rw [Heap.get?_update_other _ _ nTx]
   exact xg3
 · refine ⟨_,_,Heap.get?_update_self _ tg3 (Obj.isFreed_of_fields (Obj.data_mapFields dob _)),Obj.data_mapFields dob _,?_⟩
   first|(simp;done)|(rcases hpl with rfl|⟨_,_,_,_,_,_,_,rfl⟩<;>simp)
theorem US {env:Env}{outer:List Env}{L x:Addr}{ox:Obj}{vs:Array Value}{Q:Unit->Shared->Prop}(f1:A.frames=some (env::outer))(f2:s.heap.FunFrames base (env::outer))(f3:env.frame=some L)
 (x1:s.heap.get? x=some ox) (x2:ox.data=.fields vs) (x3:vs[1]?=some .none) (q:∀ h' T,Gone ((env::outer).filterMap (·.frame)) x ox [] s.heap h' T->Q () { s with heap:=h' }):wpAny M A (leaving env (.ref x)) Q E s:=by
 unfold leaving noteFrame;simp only [f3]
 refine B0 (B0 (wpAny_field x1 x2 x3 ?_));rw [if_neg (by decide)]
 exact JX f1 f2 f3 x1 x2 (Array.getElem?_eq_some_iff.mp x3).1 q
theorem XD {env:Env}{outer:List Env}{L x T0:Addr}{ox oT:Obj}{vs ts:Array Value}{Q:Unit->Shared->Prop}(f1:A.frames=some (env::outer))(f2:s.heap.FunFrames base (env::outer))(f3:env.frame=some L)
 (x1:s.heap.get? x=some ox) (x2:ox.data=.fields vs) (x3:vs[1]?=some (.ref T0)) (t1:s.heap.get? T0=some oT) (t2:oT.data=.fields ts) (t3:ts[3]?=some .none) (tx:T0≠x)
 (q:∀ h' T,Gone ((env::outer).filterMap (·.frame)) x ox [T0] s.heap h' T->Q () { s with heap:=h' }):wpAny M A (leaving env (.ref x)) Q E s:=by
 unfold leaving noteFrame;simp only [f3]
 refine B0 (B0 (wpAny_field x1 x2 x3 ?_));rw [if_pos (show (Value.ref T0 != Value.none)=true from by simp)]
 refine B0 (wpAny_field t1 t2 t3 ?_);rw [if_neg (show ¬ ((Value.none==rawInt L)=true) from by simp [rawInt])]
 refine B0 (wpAny_setField t1 t2 (Array.getElem?_eq_some_iff.mp t3).1 ?_)
 have oth:∀ b,b≠T0->(s.heap.update T0 (Obj.mapFields (·.setIfInBounds 3 Value.none))).get? b=s.heap.get? b:=fun b hb=>Heap.get?_update_other _ _ (Ne.symm hb)
 have nrec:∀ b o,s.heap.get? b=some o->(∀ vs,o.data≠.fields vs)->b≠T0:=fun b o e n z=>by
  rw [z,t1] at e
  cases e
  exact n ts t2
 have fT:∀ b∈(env::outer).filterMap (·.frame),b≠T0:=fun b hb=>by
  obtain ⟨_,o,e1,e2⟩:=f2.mem hb
  exact nrec b o e1 e2
 refine JX f1 (f2.of_keeps fun b o e n=>⟨o,(oth b (nrec b o e n)).trans e,rfl⟩) f3 ((oth x (Ne.symm tx)).trans x1) x2 (Array.getElem?_eq_some_iff.mp x3).1 fun h' T g=>q h' T ⟨?_,?_,?_,g.exc,g.tr⟩
 · intro b o nf nx no e
   exact g.keep b o nf nx (by simp) ((oth b (by simpa using no)).trans e)
 · intro b o hb e
   exact g.slot b o hb ((oth b (fT b hb)).trans e)
 · have:=g.new
   simpa using this
end
theorem ObjOk.ex {w:World}{H:Hp}{h:Heap}{a:Addr}{o:HO}(x:ObjOk P w H h a o):∃ ob,h.get? a=some ob:=by
 cases o with
 | lst xs=>obtain ⟨_,_,_,_,e⟩:=x;exact ⟨_,e⟩
 | tup xs=>obtain ⟨_,_,_,ob,e,_⟩:=x;exact ⟨_,e⟩
 | dK kvs=>obtain ⟨_,_,_,_,o,_,_,e,_⟩:=x;exact ⟨_,e⟩
 | dT kvs=>obtain ⟨_,_,_,_,o,_,_,e,_⟩:=x;exact ⟨_,e⟩
 | set S n=>obtain ⟨o,_,_,_,e,_⟩:=x;exact ⟨_,e⟩
 | ins C dx fs=>obtain ⟨_,_,_,e,_⟩:=x;exact ⟨_,e⟩
 | own y=>exact x
 | xd fs=>obtain ⟨_,⟨_,_,_,e,_⟩,_⟩:=x;exact ⟨_,e⟩
 | rng lo hi=>obtain ⟨_,_,_,e⟩:=x;exact ⟨_,e⟩
 | frz ob u=>obtain ⟨e,_⟩:=x;exact ⟨_,e⟩
 | tbl ps=>exact ⟨_,(show h.get? a=some _ from x)⟩
 | met f y=>exact ⟨_,(show h.get? a=some _ from x)⟩
 | ext φ=>obtain ⟨_,e,_⟩:=x;exact e
theorem QY (o:Obj)(f:Array Value->Array Value):(o.mapFields f).dict=o.dict:=by unfold Obj.mapFields;split<;>rfl
def Exd (H:Hp)(base g h:Heap)(x C:Addr):Prop:=H x=none/\base.get? x=none/\g.get? x=none/\∃ ox vs T oT ts,h.get? x=some ox/\ox.cls=.ref C/\ox.dict=none/\ox.data=.fields vs/\vs[1]?=some (.ref T)/\vs[2]?=some .none /\
 T≠x/\H T=none/\base.get? T=none/\g.get? T=none/\h.get? T=some oT/\oT.data=.fields ts/\ts[3]?=some .none
def CX1 (P:Program)(w:World)(base:Heap):CXT:=fun outer H s E e s'=>∃ (x C:Addr) (H':Hp),e=.ref x/\s'.os=s.os/\AllBare s'.gens/\Un (frs outer) [] H H' s.heap s'.heap/\HOk P w H' s'.heap/\Exd H' base s.heap s'.heap x C/\E (.ref C) none H'
theorem J1l {P:Program}{w:World}{K:Fg}{mg:Str->Option Value}{base:Heap}{N:List Str}{qual:Str}{scope:Scope}{f:Addr}{cd:Value}{A:Around}{outer:List Env}{s:Shared}{H:Hp}{E:XK}{C:Addr}
 (pins:List (Addr×Obj)) (σ:St) (H1:Hp) (s1:Shared) (h':Heap) (e:Addr) (us:List Value) (I:Inv (V4 (CX1 P w base) P w K mg base N qual scope f cd A outer s H E) pins σ H1 s1) (hm:Heap.MadeExcOf s1.heap h' e (.ref C) us) (q:E (.ref C) none H1) :
 (V4 (CX1 P w base) P w K mg base N qual scope f cd A outer s H E).xe (.ref e) { s1 with heap:=h' }:=by
 obtain ⟨t,e1,e2,e3⟩:=hm.there
 have nH:∀ b,s1.heap.get? b=none->H1 b=none:=fun b hb=>by
  cases z:H1 b with
  | none=>rfl
  | some o =>
    obtain ⟨ob,eo⟩:∃ ob,s1.heap.get? b=some ob:=(I.hok b o z).ex
    rw [hb] at eo
    cases eo
 have hst:s1.heap.FunFrames base (envOfC qual scope s.heap.objs.size f cd::outer):=I.stack
 have hfree:∀ b∈frs (envOfC qual scope s.heap.objs.size f cd::outer),H1 b=none:=I.stkFree
 show wpAny (model P w) (A.deeper (envOfC qual scope s.heap.objs.size f cd)) (leaving (envOfC qual scope s.heap.objs.size f cd) (.ref e)) _ _ { s1 with heap:=h' }
 refine US (s:={ s1 with heap:=h' }) (base:=base) I.ok.frames (hst.of_keeps fun b o eb _=>⟨o,hm.keeps b o eb,rfl⟩) rfl e1 rfl rfl fun h2 T g=>?_
 have lt1:∀ b o,s1.heap.get? b=some o->b<h'.objs.size:=fun b o eb=>B4 (hm.keeps b o eb)
 have neE:∀ b o,s1.heap.get? b=some o->b≠e:=fun b o eb z=>by rw [z,hm.new] at eb;cases eb
 have kp:∀ b o,b∉frs (envOfC qual scope s.heap.objs.size f cd::outer)->s1.heap.get? b=some o->h2.get? b=some o:=fun b o nf eb=>g.keep b o nf (neE b o eb) (by simp) (hm.keeps b o eb)
 have sl:∀ b o,b∈frs (envOfC qual scope s.heap.objs.size f cd::outer)->s1.heap.get? b=some o->∃ z,h2.get? b=some { o with slots:=z }:=fun b o hb eb=>g.slot b o hb (hm.keeps b o eb)
 have nTo:∀ b o,s1.heap.get? b=some o->b≠T:=fun b o eb z=>by
  have h1:=lt1 b o eb
  rw [z] at h1
  exact absurd (Nat.lt_of_lt_of_le h1 g.new) (Nat.lt_irrefl _)
 have baseK:∀ b o,base.get? b=some o->s1.heap.get? b=some o:=I.bk
 have nf:∀ b o,s.heap.get? b=some o->b∉frs outer->b∉frs (envOfC qual scope s.heap.objs.size f cd::outer):=fun b o eb nb hb=>by
  rcases List.mem_cons.mp (show b∈s.heap.objs.size::frs outer from hb) with z|z
  · exact absurd (B4 eb) (by rw [z];exact Nat.lt_irrefl _)
  · exact nb z
 have tH:H1 T=none:=by
  cases z:H1 T with
  | none=>rfl
  | some o =>
    obtain ⟨ob,eo⟩:=(I.hok T o z).ex
    exact absurd rfl (nTo T ob eo)
 have U:Un (frs outer) [] H H1 s.heap s1.heap:=I.base
 refine ⟨e,C,H1,rfl,I.os,I.bare,⟨fun b o eb n hb hx=>kp b o (nf b o eb hb) (U.keep b o eb n hb hx),fun b o eb n hb hx=>?_,U.free,fun b o eb hx=>?_,U.tups,U.frzs,U.tbls⟩,fun b o eb=>?_,⟨nH e hm.new,?_,?_,?_⟩,q⟩
 · obtain ⟨z,e4⟩:=U.slot b o eb n hb hx
   obtain ⟨z',e5⟩:=sl b _ (List.mem_cons_of_mem _ hb) e4
   exact ⟨z',e5⟩
 · obtain ⟨o',e4⟩:=U.there b o eb hx
   by_cases hb:b∈frs (envOfC qual scope s.heap.objs.size f cd::outer)
   · obtain ⟨z,e5⟩:=sl b o' hb e4
     exact ⟨_,e5⟩
   · exact ⟨o',kp b o' hb e4⟩
 · refine (I.hok b o eb).stay (fun c v hc ev=>kp c v (fun hb=>?_) ev) (fun _ z=>z) fun _ _ z=>z
   have:=hfree c hb
   rcases hc with z|z
   · rw [z,eb] at this
     cases this
   · rw [z] at this
     cases this
 · cases z:base.get? e with
   | none=>rfl
   | some o=>exact absurd rfl (neE e o (baseK e o z))
 · cases z:s.heap.get? e with
   | none=>rfl
   | some o =>
     obtain ⟨o',e4⟩:=U.there e o z (by simp)
     exact absurd rfl (neE e o' e4)
 · obtain ⟨oT,ts,g1,g2,g3⟩:=g.tr
   refine ⟨_,_,T,oT,ts,g.exc,rfl,rfl,rfl,rfl,rfl,?_,tH,?_,?_,g1,g2,g3⟩
   · intro z
     have:=B4 e1
     rw [<- z] at this
     exact absurd (Nat.lt_of_lt_of_le this g.new) (Nat.lt_irrefl _)
   · cases z:base.get? T with
     | none=>rfl
     | some o=>exact absurd rfl (nTo T o (baseK T o z))
   · cases z:s.heap.get? T with
     | none=>rfl
     | some o =>
       obtain ⟨o',e4⟩:=U.there T o z (by simp)
       exact absurd rfl (nTo T o' e4)
theorem Inv.raised {X:Cx}{pins:List (Addr×Obj)}{σ:St}{H H2:Hp}{s s':Shared}(I:Inv X pins σ H s)(os:s'.os=s.os)(bare:AllBare s'.gens)(un:Un (frs X.stack) [] H H2 s.heap s'.heap)(hok:HOk X.prog X.w H2 s'.heap):Inv X pins σ H2 s':=by
 obtain ⟨hh,g,d,t,os'⟩:=s'
 obtain rfl:os'=s.os:=os
 exact I.call (h':=hh) (g':=g) (d':=d) (t':=t) (ch:=[]) un hok bare (fun b z=>absurd z (by simp))
theorem XW {P:Program}{w:World}{K:Fg}{mg:Str->Option Value}{base:Heap}{N:List Str}{qual:Str}{scope:Scope}{f:Addr}{cd:Value}{A:Around}{outer:List Env}{s:Shared}{H:Hp}{E:XK} :
 EU (CX1 P w base) (V4 (CX1 P w base) P w K mg base N qual scope f cd A outer s H E) E:=by
 intro pins σ H1 s1 e s' I h
 obtain ⟨x,C,H2,rfl,os,bare,U2,hok2,⟨hx0,hb0,hg0,ox,vs,T0,oT,ts,x1,xc,xn,xd,v1,v2,tx,hT0,bT0,gT0,t1,t2,t3⟩,q⟩:=h
 have I2:Inv (V4 (CX1 P w base) P w K mg base N qual scope f cd A outer s H E) pins σ H2 s':=I.raised os bare U2 hok2
 have hst:s'.heap.FunFrames base (envOfC qual scope s.heap.objs.size f cd::outer):=I2.stack
 have hfree:∀ b∈frs (envOfC qual scope s.heap.objs.size f cd::outer),H2 b=none:=I2.stkFree
 have U1:Un (frs outer) [] H H1 s.heap s1.heap:=I.base
 have U:Un (frs outer) [] H H2 s.heap s'.heap:=I2.base
 show wpAny (model P w) (A.deeper (envOfC qual scope s.heap.objs.size f cd)) (leaving (envOfC qual scope s.heap.objs.size f cd) (.ref x)) _ _ s'
 refine XD (s:=s') (base:=base) I2.ok.frames hst rfl x1 xd v1 t1 t2 t3 tx fun h2 T g=>?_
 have ne1:∀ b o,s.heap.get? b=some o->b≠x/\b≠T0:=fun b o eb=>by
  obtain ⟨o',e4⟩:=U1.there b o eb (by simp)
  refine ⟨fun z=>?_,fun z=>?_⟩
  · rw [z,hg0] at e4
    cases e4
  · rw [z,gT0] at e4
    cases e4
 have nf:∀ b o,s.heap.get? b=some o->b∉frs outer->b∉frs (envOfC qual scope s.heap.objs.size f cd::outer):=fun b o eb nb hb=>by
  rcases List.mem_cons.mp (show b∈s.heap.objs.size::frs outer from hb) with z|z
  · exact absurd (B4 eb) (by rw [z];exact Nat.lt_irrefl _)
  · exact nb z
 have nTo:∀ b o,s'.heap.get? b=some o->b≠T:=fun b o eb z=>by
  have h1:=B4 eb
  rw [z] at h1
  exact absurd (Nat.lt_of_lt_of_le h1 g.new) (Nat.lt_irrefl _)
 have tH:H2 T=none:=by
  cases z:H2 T with
  | none=>rfl
  | some o =>
    obtain ⟨ob,eo⟩:=(hok2 T o z).ex
    exact absurd rfl (nTo T ob eo)
 have dx:=Obj.data_mapFields xd (·.setIfInBounds 1 (Value.ref T))
 refine ⟨x,C,H2,rfl,I2.os,bare,⟨fun b o eb n hb hx=>g.keep b o (nf b o eb hb) (ne1 b o eb).1 (by simpa using (ne1 b o eb).2) (U.keep b o eb n hb hx),fun b o eb n hb hx=>?_,U.free,fun b o eb hx=>?_,U.tups,U.frzs,U.tbls⟩,fun b o eb=>?_,⟨hx0,hb0,?_,?_⟩,q⟩
 · obtain ⟨z,e4⟩:=U.slot b o eb n hb hx
   obtain ⟨z',e5⟩:=g.slot b _ (List.mem_cons_of_mem _ hb) e4
   exact ⟨z',e5⟩
 · obtain ⟨o',e4⟩:=U.there b o eb hx
   by_cases hb:b∈frs (envOfC qual scope s.heap.objs.size f cd::outer)
   · obtain ⟨z,e5⟩:=g.slot b o' hb e4
     exact ⟨_,e5⟩
   · exact ⟨o',g.keep b o' hb (ne1 b o eb).1 (by simpa using (ne1 b o eb).2) e4⟩
 · have nx:b≠x:=fun z=>by rw [z,hx0] at eb;cases eb
   refine (hok2 b o eb).stay (fun c v hc ev=>g.keep c v (fun hb=>?_) (fun z=>?_) (fun z=>?_) ev) (fun _ z=>z) fun _ _ z=>z
   · have:=hfree c hb
     rcases hc with y|y
     · rw [y,eb] at this;cases this
     · rw [y] at this;cases this
   · rcases hc with y|y
     · rw [<- y,z,hx0] at eb;cases eb
     · rw [z,hx0] at y;cases y
   · have z:c=T0:=by simpa using z
     rcases hc with y|y
     · rw [<- y,z,hT0] at eb;cases eb
     · rw [z,hT0] at y;cases y
 · cases z:s.heap.get? x with
   | none=>rfl
   | some o=>exact absurd rfl (ne1 x o z).1
 · obtain ⟨oT',ts',g1,g2,g3⟩:=g.tr
   refine ⟨_,_,T,oT',ts',g.exc,(Obj.cls_mapFields ..).trans xc,(QY ..).trans xn,dx,?_,?_,?_,tH,?_,?_,g1,g2,g3⟩
   · have:=(Array.getElem?_eq_some_iff.mp v1).1
     simp [this]
   · rw [Array.getElem?_setIfInBounds_ne (by decide)]
     exact v2
   · intro z
     exact nTo x _ x1 z.symm
   · cases z:base.get? T with
     | none=>rfl
     | some o=>exact absurd rfl (nTo T o (I2.bk T o z))
   · cases z:s.heap.get? T with
     | none=>rfl
     | some o =>
       obtain ⟨o',e4⟩:=U.there T o z (by simp)
       exact absurd rfl (nTo T o' e4)
theorem Fun.okX {P:Program}{w:World} {mg:Str->Option Value}{base:Heap}{CX:CXT}{x qual:Str}{st:Stmt}{f:Addr} {N ps:List Str}{k:Nat}{sp:Sp}(F:Fun K x qual st f fd)(S:FnScope N ps (J3 st))(len:∀ vs H Q E,sp vs H Q E->vs.length=ps.length)
 (hbody:∀ (cdv:Value) (A:Around) (outer:List Env) (s:Shared) (H:Hp) (vs:List V) (Q:VK) (E:XK),Room k (A.deeper (envOfC qual (J3 st) s.heap.objs.size f cdv))->sp vs H Q E ->
  ∃ t,PSs (V4 CX P w K mg base N qual (J3 st) f cdv A outer s H E) (BW st) t/\t { nx:=fun _ H'=>Q .non H',rt:=Q } (CP N vs) H):FnOk P w K mg base CX (k+1) f fd ps sp:=by
 obtain ⟨oc,od,kV,doc,pm,an,cdv,ct,osl,rfl,lk,hcd⟩:=F.ex
 exact Q0d lk hcd S len fun A outer s H vs Q E hr hsp=>hbody cdv A outer s H vs Q E hr hsp
theorem RX {X:Cx}{CX:CXT}{k:Nat}{ps:List Str}{sp:Sp}{E:XK}{x:Str}{p pos:Pos}{e:Expr}{es:List Expr}{t:TA}(hp:EU CX X E)(G:Callee X.prog X.w X.K X.mg X.base CX x k ps sp)(hr:Room k X.A)(hg:Gl X x)(ha:PA X (e::es) t)
 (hdb:(x==("__debug__" : Str))=false:=by decide) (he:starEach (e::es) X.env=(false,eval e X.env)::starEach es X.env:=by rfl) (hpl:(backTo pos (starEach es X.env)).any (·.1)=false:=by rfl):PE X (.Call (.Name x p) (e::es) [] pos) (TX sp [] E t):=by
 obtain ⟨f,fd,F,hm,hk,hb⟩:=G.ex
 exact YJ F hr hg hm hk hb .nil hp ha hdb he hpl
def ExcO (x C:Addr):HO:=.ext fun h=>∃ (ox:Obj) (vs:Array Value),h.get? x=some ox/\ox.cls=.ref C/\ox.dict=none/\ox.data=.fields vs/\vs[2]?=some .none
theorem ExcO.ok {w:World}{H:Hp}{h:Heap}{x C:Addr}{ox:Obj}{vs:Array Value}(e:h.get? x=some ox)(c:ox.cls=.ref C)(d:ox.dict=none)(f:ox.data=.fields vs)(v:vs[2]?=some .none):ObjOk P w H h x (ExcO x C) :=
 ⟨⟨ox,vs,e,c,d,f,v⟩,⟨ox,e⟩,fun h1 h2 ⟨ox',vs',e',c',d',f',v'⟩ k=>⟨ox',vs',k _ e',c',d',f',v'⟩⟩
theorem Inv.exc {X:Cx}{pins:List (Addr×Obj)}{σ:St}{H:Hp}{s:Shared}{x C:Addr}(I:Inv X pins σ H s)(hx:H x=some (ExcO x C)):∃ (ox:Obj) (vs:Array Value),s.heap.get? x=some ox/\ox.cls=.ref C/\ox.dict=none/\ox.data=.fields vs/\vs[2]?=some .none:=(I.hok x _ hx).1
structure TurnM (P:Program)(w:World)(K:Fg)(A₀:Around)(tg:Expr)(J:It)(fp:List Addr)(it:Addr)(tn:Nat->Heap->Prop):Prop where
 mem:it∈fp
 obj:∀ i h,tn i h->∀ b∈fp,∃ o,h.get? b=some o/\∀ v,o.data≠.cell v
 keep:∀ i h h',tn i h->(∀ b∈fp,∀ o,h.get? b=some o->h'.get? b=some o)->tn i h'
 item:∀ (X:Cx),X.prog=P->X.w=w->X.K=K->X.A=A₀->∀ (i:Nat) (pins:List (Addr×Obj)) (s:Shared) (σ:St) (H:Hp) (E:Value->Shared->Prop),Inv X pins σ H s->(∀ b∈fp,KB X pins H b)->tn i s.heap->J.go i H->wpAny (model P w) X.A (pyNext (.ref it)) (fun r s1=>∃ u,r=some u /\
  wpAny (model P w) X.A (letOwnedTupleGo tg (.ref it) u) (fun _ s2=>∃ x H',Inv X pins σ H' s2/\RelV x u/\J.yld i H x H'/\tn (i+1) s2.heap/\∀ b∈fp,H' b=none) E s1) E s
 done:∀ (X:Cx),X.prog=P->X.w=w->X.K=K->X.A=A₀->∀ (i:Nat) (pins:List (Addr×Obj)) (s:Shared) (σ:St) (H:Hp) (E:Value->Shared->Prop),Inv X pins σ H s->(∀ b∈fp,KB X pins H b)->tn i s.heap->J.stop i H->wpAny (model P w) X.A (pyNext (.ref it)) (fun r s1=>r=none/\Inv X pins σ H s1) E s
 self:∀ (A:Around) (i:Nat) (s:Shared) (Q:Value->Shared->Prop) (E:Value->Shared->Prop),tn i s.heap->Q (.ref it) s->wpAny (model P w) A (pyIter (.ref it)) Q E s
def V0q (X:Cx)(pins:List (Addr×Obj))(σ:St)(tg:Expr)(R:It->Hp->Prop)(itv:Value)(s2:Shared):Prop :=
 ∃ (it:Addr) (fp:List Addr) (tn:Nat->Heap->Prop) (J:It) (H':Hp),itv=.ref it/\Inv X pins σ H' s2/\TurnM X.prog X.w X.K X.A tg J fp it tn/\tn 0 s2.heap/\(∀ b∈fp,KB X pins H' b)/\R J H'
def PIM (X:Cx)(tg iter:Expr)(wi:TI):Prop :=
 ∀ (pins:List (Addr×Obj)) (s:Shared) (σ:St) (H:Hp) (R:It->Hp->Prop),Inv X pins σ H s->wi σ H R->wpAny (model X.prog X.w) X.A (eval iter X.env) (fun v s1=>wpAny (model X.prog X.w) X.A (pyIter v) (V0q X pins σ tg R) X.xe s1) X.xe s
def V0u (K:Fg)(a x C:Addr):It:=⟨(Itl K a).go,(Itl K a).yld,fun i H=>(Itl K a).stop i H/\H x=some (ExcO x C)⟩
def V0s (lo:Int)(n:Nat)(x C:Addr):It:=⟨(Itr lo n).go,(Itr lo n).yld,fun i H=>n<=i/\H x=some (ExcO x C)⟩
section
noncomputable def Q9s (K:Fg)(x C:Addr)(tl:TE):TI:=fun σ H R=>tl σ H fun v H1=>∃ a,v=.ref a/\(∃ xs,SqL K H1 a xs)/\R (V0u K a x C) H1
noncomputable def Q9r (x C:Addr)(ta:TA):TI:=fun σ H R=>ta σ H fun vs H1=>∃ j:Int,vs=[.int j]/\-(2 ^ 62)<=j/\j<2 ^ 62/\R (V0s 0 j.toNat x C) H1
end
section
variable {X:Cx}{elt tg:Expr}{ifs:List Expr}{scope:Scope}{N':List Str}{map:List (Option Nat)}{g:TG}{tt:TT}{te:TE}
structure BlkM (X:Cx)(N':List Str)(scope:Scope)(map:List (Option Nat))(tg elt:Expr)(ifs:List Expr)(g:TG)(tt:TT)(te:TE):Prop where
 kind:scope.kind=.function
 loc:∀ x∈scope.names,x.2=.local->scope.names.lookup x.1=some .local
 free:(scope.names.all fun p=>!(p.2==NameKind.free)||(X.env.kindOf p.1==some .cell||X.env.kindOf p.1==some .free))=true
 cap:CapOk X scope map N'
 keep:LN g map
 run:∀ cells C fp s H,PG (Q9 X N' scope cells C fp s H) tg g/\PIf (Q9 X N' scope cells C fp s H) ifs tt/\PE (Q9 X N' scope cells C fp s H) elt te
end
structure RoomM (k:Nat)(A:Around):Prop where
 dp:A.depth+3*k+5<recursionLimit
 un:A.units+16*k+200<cLine
theorem RoomM.deeper {k:Nat}{A:Around}(r:RoomM (k+1) A)(env:Env):RoomM k (A.deeper env):=⟨by have:=r.dp;show A.depth+1+3*k+5<_;omega,by have:=r.un;show A.units+3+16*k+200<_;omega⟩
theorem RoomM.depth {k:Nat}{A:Around}(r:RoomM k A):A.depth<recursionLimit:=by have:=r.dp;omega
theorem Room.mark {k:Nat}{A:Around}(r:Room k A)(h:Option Value):RoomM k (A.mark h):=⟨r.dp,r.un⟩
structure FnOkM (P:Program)(w:World)(K:Fg)(mg:Str->Option Value)(base:Heap)(k:Nat)(f:Addr)(fd:FuncData)(ps:List Str)(sp:Addr->Sp):Prop where
 len:∀ x vs H Q E,sp x vs H Q E->vs.length=ps.length
 run:∀ (A:Around) (outer:List Env) (s:Shared) (H:Hp) (args:Args) (us:List Value) (vs:List V) (Q:VK) (x:Addr),RoomM k A->A.handled=some (.ref x)->Env0 P w K mg base A outer s H->BindsTo s fd args (ps.zip us)->Vals vs us->sp x vs H Q E0->codeAny (model P w) A (.call (.ref f) args) (CR CX0 outer P w H s Q E0) s
def RB (P:Program)(w:World)(K:Fg)(mg:Str->Option Value)(base:Heap)(N:List Str)(qual:Str)(scope:Scope)(f:Addr)(cd:Value)(A:Around)(outer:List Env)(s:Shared)(H:Hp):Cx where
 prog:=P
 w:=w
 K:=K
 mg:=mg
 base:=base
 A:=A.deeper (envOfC qual scope s.heap.objs.size f cd)
 N:=N
 s₀:=s
 H₀:=H
 env:=envOfC qual scope s.heap.objs.size f cd
 outer:=outer
 stack:=envOfC qual scope s.heap.objs.size f cd::outer
 ex:=[]
 calm:=false
 fn:=fun _=>true
 pn:=[]
 xe:=fun _ _=>False
theorem XG {P:Program}{w:World}{K:Fg}{mg:Str->Option Value}{base:Heap}{N ps:List Str}{qual:Str}{scope:Scope}{f:Addr}{cd:Value}{A:Around}{outer:List Env}{s s1:Shared}{H:Hp}{us:List Value}{vs:List V}
 (S:FnScope N ps scope) (e0:Env0 P w K mg base A outer s H) (hl:vs.length=ps.length) (r:Vals vs us)
 (x:InCallC s s.heap.objs.size (bindL (envOfC qual scope s.heap.objs.size f cd).kindOf (ps.zip us) fun _=>none) (cellsFrom (s.heap.objs.size+1) scope.names []) (bindC (envOfC qual scope s.heap.objs.size f cd).kindOf (ps.zip us) fun _=>none) s1) :
 Inv (RB P w K mg base N qual scope f cd A outer s H) [] (CP N vs) H s1:=by
 have hpl:ps.length<=N.length:=by have:=congrArg List.length S.pre;rw [List.length_take] at this;omega
 obtain ⟨h1,tk,rfl,hk⟩:=x.done
 have noA:∀ b:Addr,b∉(RB P w K mg base N qual scope f cd A outer s H).ex:=fun b z=>absurd (show b∈([]:List Addr) from z) (by simp)
 refine ⟨⟨e0.mod,S.kind,rfl,rfl,Nat.le_refl _,fun y z c h1 h2=>?_,fun y hy=>?_,fun y c _ h=>?_,fun z=>(by cases z),Around.frames_deeper e0.frames,.inr ⟨rfl,rfl⟩,fun b z=>absurd z (noA b),e0.bs,e0.bsz,fun b _ _=>noA b,fun b z=>absurd z (noA b),e0.funs,e0.frf⟩,
  rfl,e0.bare,Un.kept hk,⟨_,x.toInCall.ns,fun i y v h1 h2 h3=>?_⟩,fun y c h=>⟨_,x.cell y c h⟩,e0.hok.fresh (Nat.le_refl _),fun y c h=>?_,fun p hp=>absurd (show p∈([]:List (Addr×Obj)) from hp) (by simp),e0.hok.kept hk,?_⟩
 · exact name_of_addr x.apart (PySem.mem_of_lookup h1) (PySem.mem_of_lookup h2)
 · have hy:scope.names.lookup y=some .cell\/scope.names.lookup y=some .free:=hy
   rcases hy with hy|hy
   · exact LK hy
   · exact absurd rfl (S.nofree _ (PySem.mem_of_lookup hy))
 · exact Nat.le_of_lt (x.above y c (PySem.mem_of_lookup h))
 · have hi:i<vs.length:=by
    unfold CP at h2
    by_cases hi:i<vs.length
    · exact hi
    · rw [List.getElem?_append_right (by simpa using hi)] at h2
      rw [List.getElem?_replicate] at h2
      split at h2<;>cases h2
   have ha:vs[i]?=some v:=by
    unfold CP at h2
    rw [List.getElem?_append_left (by simpa using hi),List.getElem?_map] at h2
    cases e:vs[i]? with
    | none=>rw [e] at h2;cases h2
    | some a=>rw [e] at h2;cases h2;rfl
   obtain ⟨u,hu,rv⟩:=r.get ha
   have hp:ps[i]?=some y:=by
    rw [<- S.pre,List.getElem?_take_of_lt (by omega)];exact h1
   have ndP:ps.Nodup:=by rw [<- S.pre];exact S.nd.sublist (List.take_sublist _ _)
   refine ⟨u,rv,?_⟩
   rcases S.par y (List.mem_of_getElem? hp) with k|k
   · exact .inl ⟨k,MQ ndP hp hu k⟩
   · obtain ⟨c,e⟩:=LK (n:=s.heap.objs.size+1) k
     refine .inr ⟨.inl k,c,e,?_⟩
     have q:=x.cell y c e
     rw [MR ndP hp hu (by show scope.names.lookup y≠_;rw [k];decide)] at q
     exact q
 · exact e0.hok.fresh (Nat.le_of_lt (x.above y c (PySem.mem_of_lookup h)))
 · unfold CP
   show _=N.length
   rw [List.length_append,List.length_map,List.length_replicate]
   omega
theorem Q3a {P:Program}{w:World}{K:Fg}{mg:Str->Option Value}{base:Heap}{k:Nat}{f:Addr}{name qual:Str}{params:Arguments}{body:List Stmt}{scope:Scope}{dV kV doc pm cdv ct oc:Value}{an od:Option Addr}
 {osl:Array (Option Value)} {N ps:List Str} {sp:Addr->Sp} (lk:K.lookup f=some ⟨oc,od,.func (PySem.W.fnOf name qual params body scope dV kV doc pm an cdv ct),osl⟩) (hcd:PySem.W.codeIn K cdv qual=true) (S:FnScope N ps scope)
 (len:∀ x vs H Q E,sp x vs H Q E->vs.length=ps.length)
 (hbody:∀ (A:Around) (outer:List Env) (s:Shared) (H:Hp) (vs:List V) (Q:VK) (x:Addr),RoomM k (A.deeper (envOfC qual scope s.heap.objs.size f cdv))->A.handled=some (.ref x)->sp x vs H Q E0 ->
  ∃ t,PSs (RB P w K mg base N qual scope f cdv A outer s H) body t/\t { nx:=fun _ H'=>Q .non H',rt:=Q } (CP N vs) H) :
 FnOkM P w K mg base (k+1) f (PySem.W.fnOf name qual params body scope dV kV doc pm an cdv ct) ps sp:=by
 refine ⟨len,fun A outer s H args us vs Q x hr hh e0 hb r hsp=>?_⟩
 have hl:=len _ _ _ _ _ hsp
 have KX:K.In s.heap:=e0.mod.kin.keeps fun b o e=>(e0.bs b o e).1
 have lim:s.heap.NoLimit:=e0.mod.nolimit.keeps fun b o e=>(e0.bs b o e).1
 have hkind:∀ y∈ps.zip us,scope.names.lookup y.1=some .local\/(scope.names.lookup y.1=some .cell/\((cellsFrom (s.heap.objs.size+1) scope.names []).lookup y.1).isSome=true):=fun ⟨n,v⟩ hy=>by
  rcases S.par n (List.of_mem_zip hy).1 with q|q
  · exact .inl q
  · exact .inr ⟨q,PySem.W.cellsFrom_some _ _ _ (.inl q)⟩
 refine codeAny_call_function hr.depth (KX _ _ lk) rfl S.co S.gen rfl (PySem.W.codeRec_of KX hcd) (hb _ _ _ _ ?_)
 refine wpAny_newFunctionEnv_cells S.kind hkind fun env he s1 xc=>?_
 subst he
 refine ⟨lim.keeps xc.toInCall.keep,codeAny_func ?_⟩
 obtain ⟨t,ht,hq⟩:=hbody A outer s H vs Q x (hr.deeper _) hh hsp
 have I:Inv (RB P w K mg base N qual scope f cdv A outer s H) [] (CP N vs) H s1:=XG S e0 hl r xc
 refine wpAny_mono (ht [] s1 (CP N vs) H _ I hq) (fun fl s' hs=>?_) fun e s' hs=>hs.elim
 have fin:∀ {σ':St} {H':Hp} {v:V} {u:Value},Inv (RB P w K mg base N qual scope f cdv A outer s H) [] σ' H' s'->RelV v u->Q v H'->CE outer P w H s Q u s' :=
  fun {σ' H' v u} J rv q=>⟨v,H',J.os,J.bare,J.base,J.hok,rv,q⟩
 cases fl with
 | ret u =>
   obtain ⟨v,σ',H',J,rv,q⟩:=hs
   exact fin J rv q
 | next =>
   obtain ⟨σ',H',J,q⟩:=hs
   exact fin (v:=V.non) (u:=Value.none) J rfl q
 | brk =>
   obtain ⟨_,_,_,q⟩:=hs
   exact False.elim q
 | cont =>
   obtain ⟨_,_,_,q⟩:=hs
   exact False.elim q
theorem Fun.okM {P:Program}{w:World} {mg:Str->Option Value}{base:Heap}{x qual:Str}{st:Stmt}{f:Addr} {N ps:List Str}{k:Nat}{sp:Addr->Sp}(F:Fun K x qual st f fd)(S:FnScope N ps (J3 st))(len:∀ y vs H Q E,sp y vs H Q E->vs.length=ps.length)
 (hbody:∀ (cdv:Value) (A:Around) (outer:List Env) (s:Shared) (H:Hp) (vs:List V) (Q:VK) (y:Addr),RoomM k (A.deeper (envOfC qual (J3 st) s.heap.objs.size f cdv))->A.handled=some (.ref y)->sp y vs H Q E0 ->
  ∃ t,PSs (RB P w K mg base N qual (J3 st) f cdv A outer s H) (BW st) t/\t { nx:=fun _ H'=>Q .non H',rt:=Q } (CP N vs) H):FnOkM P w K mg base (k+1) f fd ps sp:=by
 obtain ⟨oc,od,kV,doc,pm,an,cdv,ct,osl,rfl,lk,hcd⟩:=F.ex
 exact Q3a lk hcd S len fun A outer s H vs Q y hr hh hsp=>hbody cdv A outer s H vs Q y hr hh hsp
structure CalleeM (P:Program)(w:World)(K:Fg)(mg:Str->Option Value)(base:Heap)(x:Str)(k:Nat)(ps:List Str)(sp:Addr->Sp):Prop where
 ex:∃ f fd,FnOkM P w K mg base k f fd ps sp/\mg x=some (.ref f)/\PySem.W.keepIn K (.ref f)=true/\Binds K fd ps []
theorem CalleeM.mk' {w:World} {x qual:Str}{st:Stmt}{f:Addr} {k:Nat}{ps:List Str}{sp:Addr->Sp}(F:Fun K x qual st f fd)(G:FnOkM P w K mg base k f fd ps sp)(hm:mg x=some (.ref f))(hb:Binds K fd ps []) :
 CalleeM P w K mg base x k ps sp:=⟨f,fd,G,hm,F.kp,hb⟩
theorem J7b {X:Cx}{k:Nat}{ps:List Str}{sp:Addr->Sp}{x:Str}{p pos:Pos}{e:Expr}{es:List Expr}{t:TA}{y:Addr}(hh:X.A.handled=some (.ref y))(G:CalleeM X.prog X.w X.K X.mg X.base x k ps sp)(hr:RoomM k X.A)(hg:Gl X x)(ha:PA X (e::es) t)(hdb:(x==("__debug__" : Str))=false:=by decide)
 (he:starEach (e::es) X.env=(false,eval e X.env)::starEach es X.env:=by rfl) (hpl:(backTo pos (starEach es X.env)).any (·.1)=false:=by rfl):PE X (.Call (.Name x p) (e::es) [] pos) (TX (sp y) [] E0 t):=by
 obtain ⟨f,fd,F,hm,hk,hb⟩:=G.ex
 intro pins s σ H Q I h
 refine wpAny_Call_Name_kw (LA I hg hm ?_ hdb)
 refine PySem.W.callWith_K (h₀:=X.base) I.ok.mod.kin hk (thn (ha pos pins s σ H _ I h) fun us s1 ⟨vs,H1,I1,r,q⟩=>⟨I1.kIn,?_⟩) he hpl
 have q:sp y (vs++[]) H1 Q E0:=q
 rw [List.append_nil] at q
 have hl:us.length=ps.length:=by rw [<- r.length];exact F.len _ _ _ _ _ q
 have hb':=hb s1 us I1.kIn (by simpa using hl)
 rw [List.append_nil] at hb'
 refine wpAny_call (codeAny_mono (F.run X.A X.stack s1 H1 ⟨us,[]⟩ us vs Q y hr hh I1.env0 hb' r q) fun r s' hq=>?_)
 cases r with
 | error e=>exact hq.elim
 | ok fl =>
   cases fl with
   | ret u=>exact I1.after hq
   | next=>exact False.elim hq
   | brk=>exact False.elim hq
   | cont=>exact False.elim hq
structure XCls (K:Fg)(D:Addr):Prop where
 get:PySem.W.findIn K (.ref D) "__getattribute__" = some (some (.builtin "BaseException.__getattribute__"))
 hook:PySem.W.findIn K (.ref D) "__getattr__" = some none
 fnd:PySem.W.findObj K D none "__class__" = some (.bind (.builtin "getset_descriptor.__get__") (.builtin "object.__class__"))
 mro:PySem.W.mroIn K D (.type "object")=some true
 cls:(PySem.W.clsIn K D).isSome=true
 exc:PySem.W.subIn K (.ref D) (.type "BaseException")=some true
theorem J5d {M:Model}{A:Around}{E:Value->Shared->Prop}{s:Shared}{id:String}{args:Args}{Q:Unit->Shared->Prop}(ha:argsOk id args)(h:Q () s):wpAny M A (match Manifest.signature? id with|some sig=>Bind.checkArgs id sig args|x=>pure ()) Q E s:=by
 cases hsig:Manifest.signature? id with
 | none=>exact B1 h
 | some sig =>
   simp only [argsOk,hsig] at ha
   have h2:Bind.checkArgs id sig args=pure ():=ha
   dsimp only
   rw [h2]
   exact B1 h
theorem Q5g {prog:Program}{w:World}{A:Around}{E:Value->Shared->Prop}{s:Shared} {x D:Addr}{ox:Obj}{t:Tok}{Q:Fin->Shared->Prop}(X:K.In s.heap)(I:PySem.W.InstAt s.heap x ox D none)(F:XCls K D)(h:Q (.done (.ret (.ref D))) s) :
 wpAny (model prog w) A (Builtin.«object.__getattribute__» ⟨[.ref x,.str "__class__" t],[]⟩) Q E s:=by
 obtain ⟨h0,g,d,tt,os⟩:=s
 have L0:=I.type (M:=model prog w)
 have L3:=PySem.W.looks_find (M:=model prog w) X I F.fnd
 unfold Builtin.«object.__getattribute__»
 refine B0 (B1 ?_)
 refine B0 (B1 ?_)
 refine B0 (L0.at ?_)
 refine B0 (L3.at ?_)
 dsimp only
 unfold Builtin.ObjectAttr.bindTo
 refine B0 (wpAny_holding (wpAny_call (PySem.W.class_get (s:=⟨h0,g,d,tt,os⟩) (ox:=ox) (od:=none) X I F.mro ?_)))
 exact B1 h
theorem Q8l {prog:Program}{w:World}{A:Around}{E:Value->Shared->Prop}{s:Shared} {x D:Addr}{ox:Obj}{Q:Option Value->Shared->Prop}(X:K.In s.heap)(I:PySem.W.InstAt s.heap x ox D none)(F:XCls K D)(h:Q (some (.ref D)) { s with toks:=s.toks+1 }) :
 wpAny (model prog w) A (getAttr? (.ref x) "__class__") Q E s:=by
 obtain ⟨h0,g,d,tt,os⟩:=s
 have L0:=I.type (M:=model prog w)
 have L1:=PySem.W.looks_findIn (M:=model prog w) X F.get
 have L2:=PySem.W.looks_findIn (M:=model prog w) X F.hook
 have L3:=PySem.W.looks_find (M:=model prog w) X I F.fnd
 have LB:PySem.W.Looks (model prog w) h0 (isInstance (.ref x) (.type "BaseException")) true:=L0.andThen (PySem.W.looks_subIn X F.exc)
 have f3:=PySem.F.attr_ValueError.ga.bind (.ref x)
 have hx2:(Value.builtin "BaseException.__getattribute__"==Value.builtin "object.__getattribute__")=false:=by decide +kernel
 unfold getAttr? getAttrBy? getAttrBy;refine B0 (wpAny_mkText (B0 (wpAny_attempt (wpAny_holding (B0 (L0.at (B0 (L1.at ?_))))))))
 dsimp only;rw [if_neg (by rw [hx2];simp)]
 unfold getAttrByItsOwn hookBefore;refine B0 ?_
 rw [if_pos (by rfl)];refine L2.at ?_
 refine B0 (wpAny_attempt (wpAny_holding ?_))
 unfold callGetattribute;rw [if_neg (by simp)]
 unfold boundAndCalled;rw [f3];refine B0 (B1 ?_)
 refine wpAny_call (codeAny_call_builtin PySem.F.attr_ValueError.ga.plain PySem.F.entry_bexc_ga ?_)
 have hk:builtinKind "BaseException.__getattribute__" = some .slot:=by decide +kernel
 have hsplit:splitId "BaseException.__getattribute__" = some ("BaseException","__getattribute__"):=by decide +kernel
 have ha:=PySem.F.args_bexc_ga (.ref x) (.str "__class__" tt)
 simp only [checkBuiltinCall,hk,hsplit]
 refine B0 (LB.at ?_)
 simp only [if_true,Bool.not_true,Bool.false_eq_true,if_false]
 refine J5d ha (Q5g X I F ?_)
 dsimp only
 exact PySem.W.handed_on rfl (B1 h)
theorem MF {M:Model}{h:Heap}{C:Addr}(X:K.In h)(e1:(PySem.W.clsIn K C).isSome=true):PySem.W.Looks M h (isType (.ref C)) true:=by
 unfold PySem.W.clsIn at e1
 split at e1
 · rename_i c' d' cd' sl' ho
   intro A' Q' E' s' k q
   unfold isType loadHead;exact B0 (wpAny_loadPart (k _ _ (X _ _ ho)) (B1 q))
 · cases e1
section
variable {prog:Program}{w:World}{A:Around}{E:Value->Shared->Prop}{s:Shared}{K:Fg}{x C D:Addr}{ox:Obj}{T:String}{Q:Value->Shared->Prop}
theorem J7x (X:K.In s.heap)(I:PySem.W.InstAt s.heap x ox D none)(F:XCls K D)(e:PySem.W.kin_not K D C=true)(h:Q (.bool false) { s with toks:=s.toks+1 }):wpAny (model prog w) A (call (.builtin "isinstance") [.ref x,.ref C]) Q E s:=by
 unfold PySem.W.kin_not at e
 rw [Bool.and_eq_true,Bool.and_eq_true,Bool.and_eq_true] at e
 obtain ⟨⟨⟨e0,e1⟩,e2⟩,e3⟩:=e
 have hne:(Value.ref D==Value.ref C)=false:=Bool.eq_false_iff.mpr fun q=>of_decide_eq_true e0 (Value.ref.inj (beq_iff_eq.mp q))
 refine call_isinstance_of ?_ (by intro q;cases q)
 obtain ⟨h0,g,d,tt,os⟩:=s
 have L0:=I.type (M:=model prog w)
 have hsub:PySem.W.Looks (model prog w) h0 (isSubtype (.ref D) (.ref C)) false:=PySem.W.looks_subIn X (beq_iff_eq.mp e3)
 have hty:PySem.W.Looks (model prog w) h0 (typeOf (.ref C)) (.type "type"):=PySem.W.looks_typeIn X (beq_iff_eq.mp e2)
 have LI:PySem.W.Looks (model prog w) h0 (isInstance (.ref x) (.ref C)) false:=L0.andThen hsub
 unfold Builtin.«isinstance.nested»;refine B0 (L0.at ?_)
 rw [if_neg (fun q=>by rw [hne] at q;exact Bool.noConfusion q)];refine B0 (hty.at ?_)
 rw [if_pos (by decide)];k_delta "plainIsInstance"
 refine B0 (B0 ((MF X e1).at ?_));simp only [Bool.not_true,Bool.false_eq_true,if_false]
 refine B0 (LI.at ?_);simp only [Bool.false_eq_true,if_false]
 refine B0 (Q8l (s:=⟨h0,g,d,tt,os⟩) X I F ?_)
 refine B0 ((MF X F.cls).at ?_);simp only [Bool.not_true,Bool.false_eq_true,if_false]
 refine B0 (wpAny_rule ?_);refine hsub.at ?_
 first|exact B1 h|exact B1 (B1 h)|exact B0 (B1 (B1 h))
theorem J3n (I:PySem.W.InstAt s.heap x ox D none)(h:Q (.bool true) s):wpAny (model prog w) A (call (.builtin "isinstance") [.ref x,.ref D]) Q E s:=by
 refine call_isinstance_of ?_ (by intro q;cases q)
 obtain ⟨h0,g,d,tt,os⟩:=s
 have L0:=I.type (M:=model prog w)
 unfold Builtin.«isinstance.nested»;refine B0 (L0.at ?_)
 rw [if_pos (by simp)]
 repeat (first|refine B1 ?_|refine wpAny_rule ?_|refine B0 ?_)
 exact h
theorem J3o (X:K.In s.heap)(I:PySem.W.InstAt s.heap x ox D none)(e:PySem.W.subIn K (.ref D) (.type T)=some true)(ht:typeOf (.type T)=pure (.type "type")) (h:Q (.bool true) s):wpAny (model prog w) A (call (.builtin "isinstance") [.ref x,.type T]) Q E s:=by
 refine call_isinstance_of ?_ (by intro q;cases q)
 obtain ⟨h0,g,d,tt,os⟩:=s
 have L0:=I.type (M:=model prog w)
 have LI:PySem.W.Looks (model prog w) h0 (isInstance (.ref x) (.type T)) true:=L0.andThen (PySem.W.looks_subIn X e)
 unfold Builtin.«isinstance.nested»;refine B0 (L0.at ?_)
 rw [if_neg (by intro q;cases eq_of_beq q)];refine B0 (wpAny_of_eq ht ?_)
 rw [if_pos (by decide)];k_delta "plainIsInstance"
 refine B0 (B0 (m:=isType (.type T)) (B1 (a:=true) ?_));simp only [Bool.not_true,Bool.false_eq_true,if_false]
 refine B0 (LI.at ?_);simp only [if_true]
 first|exact B1 h|exact B1 (B1 h)|exact B0 (B1 (B1 h))
end
section
variable {X:Cx}
theorem Inv.instAt {pins:List (Addr×Obj)}{σ:St}{H:Hp}{s:Shared}{x C:Addr}(I:Inv X pins σ H s)(hx:H x=some (ExcO x C)):∃ ox,PySem.W.InstAt s.heap x ox C none:=by
 obtain ⟨ox,vs,e1,e2,e3,e4,e5⟩:=I.exc hx
 exact ⟨ox,e1,e2,by unfold PySem.W.notCls;rw [e4],by rw [e3];trivial⟩
theorem Y9 (K:Fg)(hK:X.K=K):DL X (.builtin "isinstance") (fun xs H Q=>∃ (x D C:Addr) (b:Bool),xs=[.ref x,.ref C]/\H x=some (ExcO x D)/\((b=true/\C=D)\/(b=false/\XCls K D/\PySem.W.kin_not K D C=true))/\Q (.bl b) H):=by
 intro pins s σ H xs us Q I r h
 subst hK
 obtain ⟨x,D,C,b,rfl,hx,hb,q⟩:=h
 obtain ⟨u,w',rfl,r1,r2⟩:=MW r
 cases r1;cases r2
 obtain ⟨ox,hI⟩:=I.instAt hx
 rcases hb with ⟨rfl,rfl⟩|⟨rfl,F,e⟩
 · exact J3n hI ⟨.bl true,H,I,rfl,q⟩
 · exact J7x I.kIn hI F e ⟨.bl false,H,I.tok _,rfl,q⟩
theorem QM (K:Fg)(hK:X.K=K):DL X (.builtin "isinstance") (fun xs H Q=>∃ (x D:Addr) (T:String),xs=[.ref x,.ty T]/\H x=some (ExcO x D)/\PySem.W.subIn K (.ref D) (.type T)=some true/\typeOf (.type T)=pure (.type "type")/\Q (.bl true) H):=by
 intro pins s σ H xs us Q I r h
 subst hK
 obtain ⟨x,D,T,rfl,hx,e,ht,q⟩:=h
 obtain ⟨u,w',rfl,r1,r2⟩:=MW r
 cases r1;cases (show w'=Value.type T from r2)
 obtain ⟨ox,hI⟩:=I.instAt hx
 exact J3o I.kIn hI e ht ⟨.bl true,H,I,rfl,q⟩
theorem BP {x:Str}{C:Addr}{pos:Pos}(hg:Gl X x)(hm:X.mg x=some (.ref C))(hd:(x==("__debug__" : Str))=false:=by decide):PE X (.Name x pos) (tC (.ref C)):=YI hg hm rfl hd
end
theorem J8e {M:Model}{A:Around}{E:Value->Shared->Prop}{s:Shared} {x B C:Addr}{ox:Obj}{Q:Bool->Shared->Prop}(X:K.In s.heap)(I:PySem.W.InstAt s.heap x ox C none)(hB:(PySem.W.clsIn K B).isSome=true)(tB:PySem.W.typeIn K (.ref B)=some (.type "type"))
 (bB:PySem.W.subIn K (.ref B) (.type "BaseException")=some true) (cB:PySem.W.subIn K (.ref C) (.ref B)=some true) (h:Q true s):wpAny M A (excMatches (.ref x) (.ref B)) Q E s:=by
 obtain ⟨h0,g,d,tt,os⟩:=s
 have LT:PySem.W.Looks M h0 (isInstance (.ref B) (.type "tuple")) false:=(PySem.W.looks_typeIn X tB).andThen (PySem.W.Looks.of_pure tc_notTuple)
 have LE:PySem.W.Looks M h0 (isExcClass (.ref B)) true:=by
  unfold isExcClass
  exact (MF X hB).andThen (PySem.W.looks_subIn X bB)
 unfold excMatches
 refine B0 (LT.at ?_)
 simp only [Bool.false_eq_true,if_false]
 refine B0 (B1 ?_)
 simp only [List.forIn_cons,List.forIn_nil]
 refine B0 (B0 (B0 (LE.at ?_)))
 simp only [Bool.not_true,Bool.false_eq_true,if_false]
 refine B1 (B1 ?_)
 refine B0 (I.type.at ?_)
 refine B0 (B0 (B0 ((PySem.W.looks_subIn X cB).at ?_)))
 simp only [if_true]
 exact B1 (B1 (B1 h))
abbrev Cx.re (X:Cx)(E:Value->Shared->Prop)(pn:List (Addr×Obj)):Cx:={ X with xe:=E,pn:=pn }
abbrev Cx.marked (X:Cx)(x:Addr):Cx:={ X with A:=X.A.mark (some (.ref x)),calm:=false,xe:=fun _ _=>False }
section
variable {X:Cx}{pins pl:List (Addr×Obj)}{σ:St}{H:Hp}{s:Shared}{E:Value->Shared->Prop}{x:Addr}
theorem Cx.Ok.re (ok:X.Ok)(E:Value->Shared->Prop)(pn:List (Addr×Obj)):(X.re E pn).Ok:=⟨ok.mod,ok.kind,ok.glob,ok.blt,ok.above,ok.inj,ok.has,ok.cab,ok.hd,ok.frames,ok.stk,ok.exf,ok.bs,ok.bsz,ok.noex,ok.exfs,ok.funs,ok.frf⟩
theorem Cx.Ok.unre {pn:List (Addr×Obj)}(ok:(X.re E pn).Ok):X.Ok:=⟨ok.mod,ok.kind,ok.glob,ok.blt,ok.above,ok.inj,ok.has,ok.cab,ok.hd,ok.frames,ok.stk,ok.exf,ok.bs,ok.bsz,ok.noex,ok.exfs,ok.funs,ok.frf⟩
theorem Cx.Ok.marked (ok:X.Ok)(x:Addr):(X.marked x).Ok:=⟨ok.mod,ok.kind,ok.glob,ok.blt,ok.above,ok.inj,ok.has,ok.cab,fun z=>(by cases z),ok.frames,ok.stk,ok.exf,ok.bs,ok.bsz,ok.noex,ok.exfs,ok.funs,ok.frf⟩
theorem Inv.re (I:Inv X pins σ H s)(E:Value->Shared->Prop):Inv (X.re E (X.pn++pins)) [] σ H s:=⟨I.ok.re E _,I.os,I.bare,I.base,I.loc,I.cell,I.free,I.freeC,fun p hp=>I.pin p (by simpa using hp),I.hok,I.len⟩
theorem Inv.unre (I:Inv (X.re E (X.pn++pins)) pl σ H s):Inv X pins σ H s:=⟨I.ok.unre,I.os,I.bare,I.base,I.loc,I.cell,I.free,I.freeC,fun p hp=>I.pin p (List.mem_append_left _ hp),I.hok,I.len⟩
theorem Inv.marked (I:Inv X pins σ H s)(x:Addr):Inv (X.marked x) pins σ H s:=⟨I.ok.marked x,I.os,I.bare,I.base,I.loc,I.cell,I.free,I.freeC,I.pin,I.hok,I.len⟩
theorem Inv.unmarked (ok:X.Ok)(I:Inv (X.marked x) pins σ H s):Inv X pins σ H s:=⟨ok,I.os,I.bare,I.base,I.loc,I.cell,I.free,I.freeC,I.pin,I.hok,I.len⟩
theorem Inv.forget {i:Nat}{n:Str}{m:Str->Option Value}{u:Option Value}{h':Heap}(I:Inv X pins σ H s)(hN:X.N.Nodup)(hi:X.N[i]?=some n)(hσ:σ[i]?=some none)(hn:s.heap.Ns X.env.locals m)(hn':h'.Ns X.env.locals (fun y=>if y=n then u else m y))(hs:Heap.SameBut X.env.locals s.heap h') :
 Inv X pins σ H { s with heap:=h' }:=by
 obtain ⟨m0,hn0,hl⟩:=id I.loc
 obtain ⟨oL,_,_,hoL,_⟩:=id hn
 have cne:=I.cne
 have mm:m0=m:=by
  obtain ⟨o,es,ep,e1,d1,_,f1⟩:=hn0;obtain ⟨o',es',ep',e2,d2,_,f2⟩:=hn
  rw [e1] at e2;cases e2;rw [d1] at d2;cases d2;funext y;rw [<- f1,<- f2]
 subst mm
 refine ⟨I.ok,I.os,I.bare,⟨fun b o e n hb hx=>?_,fun b o e n hb hx=>?_,I.base.free,fun b o e hx=>?_,I.base.tups,I.base.frzs,I.base.tbls⟩,⟨_,hn',fun j y v' e1 e2 e3=>?_⟩,fun y c e=>?_,I.free,I.freeC,fun p hp=>?_,fun b ob e=>?_,I.len⟩
 · exact (hs.2 b (Nat.ne_of_lt (Nat.lt_of_lt_of_le (B4 e) I.ok.above))).trans (I.base.keep b o e n hb hx)
 · obtain ⟨sl,e1⟩:=I.base.slot b o e n hb hx
   exact ⟨sl,(hs.2 b (Nat.ne_of_lt (Nat.lt_of_lt_of_le (B4 e) I.ok.above))).trans e1⟩
 · obtain ⟨o',e1⟩:=I.base.there b o e hx
   exact ⟨o',(hs.2 b (Nat.ne_of_lt (Nat.lt_of_lt_of_le (B4 e) I.ok.above))).trans e1⟩
 · obtain ⟨u',r',q⟩:=hl j y v' e1 e2 e3
   refine ⟨u',r',?_⟩
   have hj:j≠i:=fun z=>by rw [z,hσ] at e2;cases e2
   rcases q with ⟨k,e⟩|⟨k,c,e,z⟩
   · refine .inl ⟨k,?_⟩
     have:y≠n:=fun e=>hj (OS hN e1 (e▸hi))
     simp [this,e]
   · exact .inr ⟨k,c,e,z.sameBut hs (cne y c e)⟩
 · obtain ⟨w',z⟩:=I.cell y c e
   exact ⟨w',z.sameBut hs (cne y c e)⟩
 · obtain ⟨e,n,ne,nf,d⟩:=I.pin p hp
   exact ⟨(hs.2 p.1 ne).trans e,n,ne,nf,d⟩
 · refine (I.hok b ob e).stay (fun c w' hc q=>(hs.2 c ?_).trans q) (fun _ q=>q) fun _ _ q=>q
   rintro rfl
   rcases hc with rfl|hc
   · rw [I.free] at e;cases e
   · rw [I.free] at hc;cases hc
theorem IX {M:Model}{A:Around}{F:Value->Shared->Prop}{i:Nat}{n:Str}{pos:Pos}{Q:Unit->Shared->Prop}(I:Inv X pins σ H s)(hN:X.N.Nodup)(hi:X.N[i]?=some n)(hx:X.env.scope.names.lookup n=some .local)
 (h:∀ s',Inv X pins (σ.set i none) H s'->Q () s'):wpAny M A (do bindName X.env n .none;unbindBehindTheSuite X.env n pos) Q F s:=by
 have hcls:(X.env.scope.kind==.class||(X.env.scope.kind==.module&&X.env.locals != X.env.globals))=false:=by rw [I.ok.kind];rfl
 have hiσ:i<σ.length:=by rw [I.len];exact (List.getElem?_eq_some_iff.mp hi).1
 refine B0 (wpAny_bindName (GL I hN hi (.inl hx) (v:=V.non) (u:=Value.none) rfl (fun s1 I1=>?_) (.inr hx)))
 unfold unbindBehindTheSuite;refine wpAny_onRaise ?_
 obtain ⟨m,hn,hl⟩:=id I1.loc
 obtain ⟨u,r,q⟩:=hl i n .non hi (by simp [hiσ]) (.inl hx)
 have hv:m n=some u:=by
  rcases q with ⟨_,e⟩|⟨k,_⟩
  · exact e
  · have hx':X.env.kindOf n=some .local:=hx
    rw [hx'] at k
    rcases k with z|z<;>cases z
 refine wpAny_unbindName_local hx hn hv hcls fun h' u' hn' hs=>h _ ?_
 have I2:Inv X pins (σ.set i none) H s1:=I1.weak (by simp) fun j v e=>by
  by_cases hj:j=i
  · subst hj
    rw [List.getElem?_set_self hiσ] at e;cases e
  · rw [List.getElem?_set_ne (Ne.symm hj)] at e ⊢
    exact e
 exact I2.forget hN hi (by rw [List.getElem?_set_self hiσ]) hn hn' hs
end
theorem J0i {M:Model}{A:Around}{F:Value->Shared->Prop}{s:Shared} {env:Env}{outer:List Env}{L x T0:Addr}{ox oT:Obj}{vs ts:Array Value}{Q:Unit->Shared->Prop}(f1:A.frames=some (env::outer))(f2:s.heap.FunFrames base (env::outer))(f3:env.frame=some L)
 (x1:s.heap.get? x=some ox) (x2:ox.data=.fields vs) (x3:vs[1]?=some (.ref T0)) (t1:s.heap.get? T0=some oT) (t2:oT.data=.fields ts) (t3:ts[3]?=some .none) (tx:T0≠x)
 (q:∀ h' T,Gone ((env::outer).filterMap (·.frame)) x ox [T0] s.heap h' T->Q () { s with heap:=h' }):wpAny M A (noteFrame (.ref x) env) (fun _ s'=>wpAny M A (setFlight (.ref x) none) Q F s') F s:=by
 unfold noteFrame;simp only [f3]
 refine B0 (wpAny_field x1 x2 x3 ?_);rw [if_pos (show (Value.ref T0 != Value.none)=true from by simp)]
 refine B0 (wpAny_field t1 t2 t3 ?_);rw [if_neg (show ¬ ((Value.none==rawInt L)=true) from by simp [rawInt])]
 refine B0 (wpAny_setField t1 t2 (Array.getElem?_eq_some_iff.mp t3).1 ?_)
 have oth:∀ b,b≠T0->(s.heap.update T0 (Obj.mapFields (·.setIfInBounds 3 Value.none))).get? b=s.heap.get? b:=fun b hb=>Heap.get?_update_other _ _ (Ne.symm hb)
 have nrec:∀ b o,s.heap.get? b=some o->(∀ vs,o.data≠.fields vs)->b≠T0:=fun b o e n z=>by
  rw [z,t1] at e
  cases e
  exact n ts t2
 have fT:∀ b∈(env::outer).filterMap (·.frame),b≠T0:=fun b hb=>by
  obtain ⟨_,o,e1,e2⟩:=f2.mem hb
  exact nrec b o e1 e2
 refine JX f1 (f2.of_keeps fun b o e n=>⟨o,(oth b (nrec b o e n)).trans e,rfl⟩) f3 ((oth x (Ne.symm tx)).trans x1) x2 (Array.getElem?_eq_some_iff.mp x3).1 fun h' T g=>q h' T ⟨?_,?_,?_,g.exc,g.tr⟩
 · intro b o nf nx no e
   exact g.keep b o nf nx (by simp) ((oth b (by simpa using no)).trans e)
 · intro b o hb e
   exact g.slot b o hb ((oth b (fT b hb)).trans e)
 · have:=g.new
   simpa using this
structure XBase (K:Fg)(B:Addr):Prop where
 cls:(PySem.W.clsIn K B).isSome=true
 typ:PySem.W.typeIn K (.ref B)=some (.type "type")
 exc:PySem.W.subIn K (.ref B) (.type "BaseException")=some true
noncomputable def Q1c (N:List Str)(K:Fg)(Ba:Addr)(i:Nat)(tb:XK->TS)(th:Addr->TS):TS:=fun D σ H=>∃ E:XK,tb E D σ H/\∀ C H' x,E (.ref C) none H'->H' x=none->PySem.W.subIn K (.ref C) (.ref Ba)=some true /\
 th x { nx:=fun σ' H''=>D.nx (σ'.set i none) H'',rt:=D.rt,bk:=fun σ' H''=>D.bk (σ'.set i none) H'',ct:=fun σ' H''=>D.ct (σ'.set i none) H'' } ((List.replicate N.length none).set i (some (.ref x))) (upd H' x (ExcO x C))
theorem Q1t {X:Cx}{body:List Stmt}{B n:Str}{np hpos pos:Pos}{b₀:Stmt}{suite:List Stmt}{i:Nat}{tb:XK->TS}{th:Addr->TS}{Ba:Addr}(K:Fg)(hK:X.K=K)(hst:X.stack=X.env::X.outer)(hfr:X.env.frame=some X.env.locals)(hg:Gl X B)(hm:X.mg B=some (.ref Ba))(F:XBase K Ba)
 (hN:X.N.Nodup) (hi:X.N[i]?=some n) (hn:X.env.scope.names.lookup n=some .local)
 (hb:∀ (xe:Value->Shared->Prop) (pn:List (Addr×Obj)) (E:XK),EU (CX1 X.prog X.w X.base) (X.re xe pn) E->PSs (X.re xe pn) body (tb E)) (hs:∀ x,PSs (X.marked x) (b₀::suite) (th x)) (hd:(B==("__debug__" : Str))=false:=by decide) :
 PS X (.Try body [.ExceptHandler (some (.Name B np)) (some n) (b₀::suite) hpos] [] [] pos) (Q1c X.N K Ba i tb th):=by
 intro pins s σ H D I ⟨E,hbody,hcatch⟩
 subst hK
 refine wpAny_Try_except ?_
 have hp:EU (CX1 X.prog X.w X.base) (X.re (fun e s'=>∃ σ0 H0 s0,Inv X pins σ0 H0 s0/\CX1 X.prog X.w X.base X.stack H0 s0 E e s') (X.pn++pins)) E:=fun pins' σ' H1 s1 e s' I1 h=>⟨σ',H1,s1,I1.unre,h⟩
 refine wpAny_mono (hb _ _ E hp [] s σ H D (I.re _) hbody) (fun f s1 q=>?_) (fun e s1 hx=>?_)
 · cases f with
   | next=>obtain ⟨σ',H',I',q⟩:=q;exact wpAny_execs_nil ⟨σ',H',I'.unre,q⟩
   | brk=>obtain ⟨σ',H',I',q⟩:=q;exact ⟨σ',H',I'.unre,q⟩
   | cont=>obtain ⟨σ',H',I',q⟩:=q;exact ⟨σ',H',I'.unre,q⟩
   | ret u=>obtain ⟨v,σ',H',I',r,q⟩:=q;exact ⟨v,σ',H',I'.unre,r,q⟩
 obtain ⟨σ0,H0,s0,I0,x,C,H2,rfl,os,bare,U,hok,⟨hx0,hb0,hg0,ox,vs,T0,oT,ts',x1,xc,xn,xd,v1,v2,tx,hT0,bT0,gT0,t1,t2,t3⟩,q⟩:=hx
 obtain ⟨cB,hth⟩:=hcatch C H2 x q hx0
 have I2:Inv X pins σ0 H2 s1:=I0.raised os bare U hok
 have hfrm:X.A.frames=some (X.env::X.outer):=by rw [<- hst];exact I2.ok.frames
 have hstk:s1.heap.FunFrames X.base (X.env::X.outer):=by rw [<- hst];exact I2.stack
 refine J0i (base:=X.base) hfrm hstk hfr x1 xd v1 t1 t2 t3 tx fun h2 T g=>?_
 have hfs:(X.env::X.outer).filterMap (·.frame)=frs X.stack:=by rw [hst];rfl
 rw [hfs] at g
 have ne1:∀ b o,s0.heap.get? b=some o->b≠x/\b≠T0:=fun b o eb=>⟨fun z=>(by rw [z,hg0] at eb;cases eb),fun z=>(by rw [z,gT0] at eb;cases eb)⟩
 have nTo:∀ b o,s1.heap.get? b=some o->b≠T:=fun b o eb z=>by
  have h1:=B4 eb
  rw [z] at h1
  exact absurd (Nat.lt_of_lt_of_le h1 g.new) (Nat.lt_irrefl _)
 have tH:H2 T=none:=by
  cases z:H2 T with
  | none=>rfl
  | some o =>
    obtain ⟨ob,eo⟩:=(hok T o z).ex
    exact absurd rfl (nTo T ob eo)
 have hTx:T≠x:=fun z=>nTo x ox x1 z.symm
 have dx:=Obj.data_mapFields xd (·.setIfInBounds 1 (Value.ref T))
 obtain ⟨oT',tv,g1,g2,g3⟩:=g.tr
 have mk:∀ h3:Heap,(∀ b o,b≠T->h2.get? b=some o->h3.get? b=some o)->Inv X pins σ0 (upd H2 x (ExcO x C)) { s1 with heap:=h3 }:=fun h3 k3=>by
  have nT0:∀ b o,s0.heap.get? b=some o->b≠T:=fun b o eb=>by
   obtain ⟨o',e'⟩:=U.there b o eb (by simp)
   exact nTo b o' e'
  have xg:h3.get? x=some (ox.mapFields (·.setIfInBounds 1 (Value.ref T))):=k3 _ _ (Ne.symm hTx) g.exc
  have hok3:HOk X.prog X.w (upd H2 x (ExcO x C)) h3:=fun b o eb=>by
   by_cases hbx:b=x
   · subst hbx
     rw [Y3] at eb
     cases eb
     refine ExcO.ok xg ((Obj.cls_mapFields ..).trans xc) ((QY ..).trans xn) dx ?_
     rw [Array.getElem?_setIfInBounds_ne (by decide)]
     exact v2
   · rw [V8 hbx] at eb
     refine (hok b o eb).stay (fun c v hc ev=>k3 c v (nTo c v ev) (g.keep c v (fun hb=>?_) (fun z=>?_) (fun z=>?_) ev)) (fun c z=>?_) fun c xs z=>?_
     · have:=I2.stkFree c hb
       rcases hc with y|y
       · rw [y,eb] at this;cases this
       · rw [y] at this;cases this
     · rcases hc with y|y
       · exact hbx (y▸z)
       · rw [z,hx0] at y;cases y
     · have z:c=T0:=by simpa using z
       rcases hc with y|y
       · rw [<- y,z,hT0] at eb;cases eb
       · rw [z,hT0] at y;cases y
     · rw [V8 (Y5 z hx0)];exact z
     · rw [V8 (Y5 z hx0)];exact z
  refine I0.raised (s':={ s1 with heap:=h3 }) os bare ⟨fun b o eb n hb hx=>?_,fun b o eb n hb hx=>?_,fun b o eb n hx=>?_,fun b o eb hx=>?_,fun b xs e=>?_,fun b o u e=>?_,fun b ps e=>?_⟩ hok3
  · exact k3 b o (nT0 b o eb) (g.keep b o hb (ne1 b o eb).1 (by simpa using (ne1 b o eb).2) (U.keep b o eb n hb hx))
  · obtain ⟨z,e4⟩:=U.slot b o eb n hb hx
    obtain ⟨z',e5⟩:=g.slot b _ hb e4
    exact ⟨z',k3 b _ (nT0 b o eb) e5⟩
  · rw [V8 (ne1 b o eb).1]
    exact U.free b o eb n hx
  · obtain ⟨o',e4⟩:=U.there b o eb hx
    by_cases hb:b∈frs X.stack
    · obtain ⟨z,e5⟩:=g.slot b o' hb e4
      exact ⟨_,k3 b _ (nT0 b o eb) e5⟩
    · exact ⟨o',k3 b _ (nT0 b o eb) (g.keep b o' hb (ne1 b o eb).1 (by simpa using (ne1 b o eb).2) e4)⟩
  · have:=U.tups b xs e
    rw [V8 (Y5 this hx0)];exact this
  · have:=U.frzs b o u e
    rw [V8 (Y5 this hx0)];exact this
  · obtain ⟨more,this⟩:=U.tbls b ps e
    exact ⟨more,by rw [V8 (Y5 this hx0)];exact this⟩
 have I3:=mk h2 fun _ _ _ e=>e
 obtain ⟨o3,hI3⟩:=I3.instAt (x:=x) (C:=C) Y3
 refine wpAny_handleBy_cons (codeAny_handlers_test (LA (X:=X.marked x) (I3.marked x) hg hm ?_ hd)) (by intro z;cases z)
 refine J8e I3.kIn hI3 F.cls F.typ F.exc cB ?_
 show codeAny _ _ (.handlers (.ref x) [.ExceptHandler none (some n) (b₀::suite) hpos] X.env) _ _
 refine codeAny_handlers_suite_as ?_
 unfold setFlight
 refine B0 (wpAny_field g.exc dx (x:=.ref T) (by have:=(Array.getElem?_eq_some_iff.mp v1).1;simp [this]) ?_);rw [if_pos (show (Value.ref T != Value.none)=true from by simp)]
 refine wpAny_setField g1 g2 (Array.getElem?_eq_some_iff.mp g3).1 ?_
 have I4:=(mk _ fun b o hb e=>(Heap.get?_update_other h2 (Obj.mapFields (·.setIfInBounds 3 Value.none)) (Ne.symm hb)).trans e).marked x
 have hiN:i<X.N.length:=(List.getElem?_eq_some_iff.mp hi).1
 have I5:Inv (X.marked x) pins (List.replicate X.N.length none) _ _:=I4.weak (σ':=List.replicate X.N.length none) (by rw [List.length_replicate];exact I4.len.symm) fun j v e=>by
  rw [List.getElem?_replicate] at e
  split at e<;>cases e
 refine GL (X:=X.marked x) I5 hN hi (.inl hn) (v:=V.ref x) (u:=.ref x) rfl (fun s5 I6=>?_) (.inr hn)
 refine wpAny_mono (hs x pins s5 _ _ _ I6 hth) (fun f s6 q6=>?_) fun _ _ z=>False.elim z
 cases f with
 | next=>obtain ⟨σ',H',I',q⟩:=q6;exact IX (I'.unmarked I.ok) hN hi hn fun s7 I7=>⟨_,_,I7,q⟩
 | brk=>obtain ⟨σ',H',I',q⟩:=q6;exact IX (I'.unmarked I.ok) hN hi hn fun s7 I7=>⟨_,_,I7,q⟩
 | cont=>obtain ⟨σ',H',I',q⟩:=q6;exact IX (I'.unmarked I.ok) hN hi hn fun s7 I7=>⟨_,_,I7,q⟩
 | ret u=>obtain ⟨v,σ',H',I',r,q⟩:=q6;exact IX (I'.unmarked I.ok) hN hi hn fun s7 I7=>⟨v,_,_,I7,r,q⟩
abbrev bmV:List Value:=[.type "ValueError",.type "Exception",.type "BaseException",.type "object"]
theorem J9w {x:Str}{C:Addr}{bmB:List Value}{newId:String}(X:K.In base)(G:base.Ns mainGlobals mg)(e:PySem.W.nsIn K mainGlobals x=some (some (.ref C)))(q:PySem.W.excIn K C bmB newId=true):OwnCls x C bmB newId mg base:=by
 refine ⟨B2 X G e,?_⟩
 unfold PySem.W.excIn at q
 split at q
 · rename_i dd cd sl ho
   split at q
   · rename_i C' bm k0 k1 k2 k3 n k5 hm hs
     simp only [Bool.and_eq_true,beq_iff_eq,Bool.not_eq_true'] at q;obtain ⟨⟨⟨⟨⟨rfl,rfl⟩,hdel⟩,ht⟩,hok⟩,hni⟩:=q
     obtain ⟨nm,bs,mro,ns,qn,hd,sn,sub,ab,col,del⟩:=cd
     dsimp only at hm hdel hok hni;subst hm hdel
     have hsl:sl=#[k0,k1,k2,k3,some (.builtin n),k5]:=by
      obtain ⟨l⟩:=sl
      simp only at hs;rw [hs]
     subst hsl
     refine ⟨bm,ns,nm,qn,bs,hd,sn,sub,ab,col,dd,k0,k1,k2,k3,k5,_,X _ _ ho,.of_isNs (PySem.W.isNs_of_in X hok),PySem.W.nsMap_none_of_in X hok hni,PySem.W.tail_of_in X ht⟩
   · cases q
 · cases q
theorem OD {w:World} {X:Cx}:EU (CX1 P w base) X E0:=fun _ _ _ _ _ _ _ h=>by
 obtain ⟨_,_,_,_,_,_,_,_,_,q⟩:=h
 exact q.elim
theorem PZ:typeOf (.type "ValueError")=pure (.type "type"):=by kernel_rfl
theorem LZ {P:Program}{w:World}{K:Fg} {N:List Str}{qual:Str}{scope:Scope}{f:Addr}{cd:Value}{A:Around}{outer:List Env}{s:Shared}{H:Hp}{E:XK}{x m:Str}{C:Addr}{j}{mp np cpos pos:Pos}(O:OwnCls x C bmV "ValueError.__new__" mg base)
 (hg:Gl (V4 (CX1 P w base) P w K mg base N qual scope f cd A outer s H E) x) (hd:(x==("__debug__" : Str))=false:=by decide) :
 PS (V4 (CX1 P w base) P w K mg base N qual scope f cd A outer s H E) (.Raise (some (.Call (.Name x np) [.Constant (.str m) j mp] [] cpos)) none pos) (fun _ _ H1=>E (.ref C) none H1) :=
 J2i (X:=V4 (CX1 P w base) P w K mg base N qual scope f cd A outer s H E) O PySem.F.excBase_ValueError (by decide) PySem.F.excBase_ValueError rfl hg E (fun pins σ H1 s1 h' e us I hm q=>J1l pins σ H1 s1 h' e us I hm q) (V2 J2n AA) (fun σ H Q q=>⟨Nat.le_trans (Nat.le_of_ble_eq_true rfl) AF,q⟩) rfl rfl hd
section
variable {prog:Program}{w:World}{A:Around}{E:Value->Shared->Prop}{s:Shared}
theorem VB {it l:Addr}{items:Array Value}(hne:l≠it):∀ (n i:Nat) (s:Shared) (Q:List Value->Shared->Prop),s.heap.IsListIter it l i->s.heap.IsList l items->i+n<=items.size ->
 (∀ h',h'.IsListIter it l (i+n)->Heap.SameBut it s.heap h'->Q ((items.toList.drop i).take n) { s with heap:=h' })->wpAny (model prog w) A (draw (.ref it) n) Q E s
 | 0,i,s,Q,hit,_,_,hQ=>by
   show wpAny _ _ (pure []) Q E s;exact B1 (by simpa using hQ s.heap hit (Heap.SameBut.refl ..))
 | n+1,i,s,Q,hit,ht,hle,hQ=>by
   have hlt:i<items.size:=by omega
   show wpAny _ _ (pyNext (.ref it) >>= _) Q E s;refine B0 (wpAny_pyNext_list_item hit ht (x:=items[i]) (by simp [hlt]) fun h₁ hit₁ hs₁=>?_)
   have ht1:h₁.IsList l items:=by
    obtain ⟨o,e,r⟩:=ht
    exact ⟨o,(hs₁.2 l hne).trans e,r⟩
   refine B0 (wpAny_holding (VB hne n (i+1) _ _ hit₁ ht1 (by omega) fun h₂ hit₂ hs₂=>B1 ?_))
   have hd:items.toList.drop i=items[i]::items.toList.drop (i+1):=by simp [List.drop_eq_getElem_cons,hlt]
   have:=hQ h₂ (by rw [show i+(n+1)=i+1+n by omega];exact hit₂) (hs₁.trans hs₂)
   rw [hd,List.take_succ_cons] at this
   exact this
theorem NB {l:Addr}{items:Array Value}{Q:List Value->Shared->Prop}(hh:A.handled=none)(ht:s.heap.IsList l items)
 (hQ:∀ h',Heap.ExtBut s.heap.objs.size s.heap h'->Q items.toList { s with heap:=h' }):wpAny (model prog w) A (unpackItems (.ref l) items.size none) Q E s:=by
 have hlt:l≠s.heap.objs.size:=by obtain ⟨o,ho,_⟩:=ht;exact Nat.ne_of_lt (B4 ho)
 have ty:s.TypeIs (.ref l) "list":=by obtain ⟨o,ho,hc,_⟩:=ht;exact ⟨o,ho,hc⟩
 unfold unpackItems;refine B0 ?_
 unfold notIterableAtAll;refine B0 (wpAny_specialOf ty slot_list_iter.lookup ?_)
 refine B1 ?_;simp only [Bool.false_eq_true,if_false]
 refine B0 (wpAny_holding (wpAny_pyIter_list ht ?_))
 have hp:∀ ob:Obj,(s.heap.push ob).IsList l items:=fun ob=>by
  obtain ⟨o,e,r⟩:=ht
  exact ⟨o,B3 _ e,r⟩
 refine B0 (wpAny_holding (VB hlt items.size 0 _ _ ⟨_,Heap.get?_push_size _ rfl,rfl,rfl⟩ (hp _) (by omega) fun h₁ hit₁ hs₁=>?_))
 have hall:List.take items.size (List.drop 0 items.toList)=items.toList:=by rw [List.drop_zero];exact List.take_of_length_le (by simp)
 rw [hall,if_neg (by simp)]
 have ht₁:h₁.IsList l items:=by
  obtain ⟨o,e,r⟩:=ht
  exact ⟨o,(hs₁.2 l hlt).trans (B3 _ e),r⟩
 refine B0 (wpAny_holding (wpAny_pyNext_list_end hh hit₁ ht₁ (by simp) fun h₂ he₂=>?_))
 simp only [Option.isSome_none,Bool.false_eq_true,if_false]
 refine B1 (hQ h₂ fun b o hb e=>he₂ b o hb (hs₁.extBut b o hb (B3 _ e)))
end
section
variable {X:Cx}
noncomputable def Q6t (K:Fg)(n:Nat)(t:TGs):TG:=fun v σ H Q=>∃ a xs,v=.ref a/\SqL K H a xs/\xs.length=n/\t xs σ H Q
theorem Z9 {es:List Expr}{k:Nat}{t:TGs}{n:Nat}{pos:Pos}(K:Fg)(hK:X.K=K)(hc:X.calm=true)(h:PGs X es t)(hn:(assignEach es X.env).length=n:=by rfl)(hst:(assignEach es X.env).findIdx? (·.1)=none:=by rfl):PG X (.Tuple es k pos) (Q6t K n t):=by
 subst hK
 intro pins s σ H v u Q I r hw
 obtain ⟨a,xs,e1,hq,hl,hw⟩:=hw
 subst e1
 cases r
 obtain ⟨its,rv,p,hz⟩:=I.list hq
 have hl':its.toArray.size=n:=by simp [<- hl,rv.length]
 rw [assign_Tuple];refine B0 (wpAny_standAt ?_)
 unfold unpack;rw [hn,hst,<- hl']
 refine B0 (wpAny_holding (NB (I.ok.hd hc) p.isList fun h' hx=>?_))
 have I1:Inv X pins σ H { s with heap:=h' }:=I.kept (t':=s.toks) fun b o e=>hx b o (Nat.ne_of_lt (B4 e)) e
 exact h pins _ σ H xs _ Q I1 (by simpa using rv) hw
end
structure PEs (X:Cx)(e:Expr)(t:TE):Prop where
 o:PE X e t
structure PAs (X:Cx)(es:List Expr)(t:TA):Prop where
 o:PA X es t
end L2
namespace K
open PySem L2
theorem _root_.L2.Room.m {k n:Nat}{A:Around}(h:Room n A)(e:k<=n:=by decide):Room k A:=h.mono e
theorem Q6u {a b:Int}(hb:b≠0):(a.fmod b).natAbs<b.natAbs:=by
 by_cases h:0<b
 · rw [Int.fmod_eq_emod_of_nonneg a (by omega)]
   have:=Int.emod_nonneg a hb
   have:=Int.emod_lt_of_pos a h
   omega
 · have e:a.fmod b = -((-a).fmod (-b)):=by grind [Int.neg_fmod_neg]
   rw [e,Int.fmod_eq_emod_of_nonneg (-a) (show 0<=-b by omega)]
   have:=Int.emod_nonneg (-a) (show -b≠0 by omega)
   have:=Int.emod_lt_of_pos (-a) (show 0 < -b by omega)
   omega
theorem UY {a b:Int}:Int.gcd b (a.fmod b)=Int.gcd a b:=by
 rw [Int.gcd_comm a b,Int.fmod_def]
 apply Nat.dvd_antisymm
 · apply Int.dvd_gcd
   · exact Int.gcd_dvd_left ..
   · have h1:((Int.gcd b (a - b*a.fdiv b):Nat):Int) ∣ b:=Int.gcd_dvd_left ..
     have h2:((Int.gcd b (a - b*a.fdiv b):Nat):Int) ∣ a - b*a.fdiv b:=Int.gcd_dvd_right ..
     have h3:=Int.dvd_add h2 (Int.dvd_trans h1 (Int.dvd_mul_right b (a.fdiv b)))
     have e3:a - b*a.fdiv b+b*a.fdiv b=a:=by omega
     rw [e3] at h3
     exact h3
 · apply Int.dvd_gcd
   · exact Int.gcd_dvd_left ..
   · have h1:((Int.gcd b a:Nat):Int) ∣ b:=Int.gcd_dvd_left ..
     have h2:((Int.gcd b a:Nat):Int) ∣ a:=Int.gcd_dvd_right ..
     exact Int.dvd_sub h2 (Int.dvd_trans h1 (Int.dvd_mul_right b (a.fdiv b)))
def NJ (ns:List Int):Int:=ns.foldl (fun g n=>((Int.gcd g n:Nat):Int)) 0
theorem MK (ns:List Int)(n:Int):NJ (ns++[n])=((Int.gcd (NJ ns) n:Nat):Int):=by unfold NJ;rw [List.foldl_append];rfl
theorem GP {ns:List Int}{n:Int}(h:n≠0):0<NJ (ns++[n])/\NJ (ns++[n])<=n.natAbs:=by
 rw [MK]
 have h1:0<Int.gcd (NJ ns) n:=Int.gcd_pos_of_ne_zero_right _ h
 have h2:Int.gcd (NJ ns) n ∣ n.natAbs:=Int.gcd_dvd_natAbs_right ..
 have h3:=Nat.le_of_dvd (by omega) h2
 omega
def low (ns:List Int)(last:Int):Int:=if last<0 then -NJ (ns++[last]) else NJ (ns++[last])
theorem J3d {ns:List Int}{n:Int}(h:n≠0):low ns n≠0:=by
 have:=GP (ns:=ns) h
 unfold low
 split<;>omega
theorem Q2h {ns:List Int}{n:Int}(h:n≠0):(low ns n).natAbs<=n.natAbs:=by
 have:=GP (ns:=ns) h
 unfold low
 split<;>omega
theorem J3c {top bottom:Int}(h:bottom≠0):∃ x y,top.fdiv (low [top] bottom)=x/\bottom.fdiv (low [top] bottom)=y/\0<y/\Int.gcd x y=1/\x*bottom=top*y/\x.natAbs<=top.natAbs/\y.natAbs<=bottom.natAbs:=by
 have eg:NJ ([top]++[bottom])=((Int.gcd top bottom:Nat):Int):=by
  rw [MK]
  unfold NJ
  show ((Int.gcd ((Int.gcd 0 top:Nat):Int) bottom:Nat):Int)=_
  rw [Int.gcd_zero_left]
  congr 1
 have hne:=J3d (ns:=[top]) h
 have habs:(low [top] bottom).natAbs=Int.gcd top bottom:=by unfold low;split<;>rw [eg]<;>omega
 have d1:low [top] bottom ∣ top:=by rw [<- Int.natAbs_dvd,habs];exact Int.gcd_dvd_left ..
 have d2:low [top] bottom ∣ bottom:=by rw [<- Int.natAbs_dvd,habs];exact Int.gcd_dvd_right ..
 have e1:=Int.fdiv_mul_cancel d1
 have e2:=Int.fdiv_mul_cancel d2
 refine ⟨_,_,rfl,rfl,?_,?_,?_,?_,?_⟩
 · by_cases hb:bottom<0
   · have hl:low [top] bottom<0:=by
      have:=GP (ns:=[top]) h
      unfold low;rw [if_pos hb];omega
     by_cases hy:0<bottom.fdiv (low [top] bottom)
     · exact hy
     · have:=Int.mul_nonneg_of_nonpos_of_nonpos (show bottom.fdiv (low [top] bottom)<=0 by omega) (Int.le_of_lt hl)
       omega
   · have hl:0<low [top] bottom:=by
      have:=GP (ns:=[top]) h
      unfold low;rw [if_neg hb];omega
     by_cases hy:0<bottom.fdiv (low [top] bottom)
     · exact hy
     · have:=Int.mul_nonpos_of_nonpos_of_nonneg (show bottom.fdiv (low [top] bottom)<=0 by omega) (Int.le_of_lt hl)
       omega
 · have q:Int.gcd (top.fdiv (low [top] bottom)*low [top] bottom) (bottom.fdiv (low [top] bottom)*low [top] bottom)=Int.gcd (top.fdiv (low [top] bottom)) (bottom.fdiv (low [top] bottom))*(low [top] bottom).natAbs:=Int.gcd_mul_right ..
   rw [e1,e2,habs] at q
   have hp:0<Int.gcd top bottom:=Int.gcd_pos_of_ne_zero_right _ h
   exact Nat.eq_of_mul_eq_mul_right hp (by omega)
 · have:=e1
   have:=e2
   grind
 · have q:=congrArg Int.natAbs e1
   rw [Int.natAbs_mul] at q
   have hp:1<=(low [top] bottom).natAbs:=by omega
   have:=Nat.mul_le_mul_left (top.fdiv (low [top] bottom)).natAbs hp
   omega
 · have q:=congrArg Int.natAbs e2
   rw [Int.natAbs_mul] at q
   have hp:1<=(low [top] bottom).natAbs:=by omega
   have:=Nat.mul_le_mul_left (bottom.fdiv (low [top] bottom)).natAbs hp
   omega
def dot (r s:List Int):Int:=(List.zipWith (· * ·) r s).sum
def Mv (n:Nat)(H:Hp)(m:Addr)(M:List (List Int)):Prop:=∃ ps:List Addr,H m=some (.tup (ps.map V.ref))/\ps.length=4/\M.length=4/\∀ (i:Nat) p r,ps[i]?=some p->M[i]?=some r->H p=some (.tup (r.map V.int))/\r.length=4/\∀ x∈r,Bd n x
end K
namespace L2
open PySem PySem.Spec PyProof.Rows
structure Frg where
 ads:List Addr
 R:(Addr->Prop)->Hp->V->Prop
 keep:∀ M H H' v,(∀ c o,(¬ M c\/c∈ads)->H c=some o->H' c=some o)->R M H v->R M H' v
 avoid:∀ M M' H v,(∀ c,M' c->M c\/H c=none)->R M H v->R M' H v
 ref:∀ M H v,R M H v->∃ a,v=.ref a
 nt:∀ M H v,R M H v->∀ c∈ads,∃ o,H c=some o/\∀ vs,o≠.tup vs
inductive D where
 | non|bl (b:Bool)|int (i:Int)|str (x:Str)|ty (n:String)|adr (a:Addr)
 | tup (xs:List D)|lst (xs:List D)|own (xs:List D)|bag|scr (ns:List Int)|dct (ks:List (List Int)) (xs:List D)|frg (f:Frg) (d:D)
structure BagT where
 ok:Addr->Hp->Prop
 st:∀ p H H',ok p H->(∀ o,H p=some o->H' p=some o)->ok p H'
 dm:∀ p H,ok p H->∃ o,H p=some o
def KTp (K:Fg)(a:Addr)(xs:List V):Prop:=∃ (o:Obj) (its:Array Value) (n:Nat),K.lookup a=some o/\o.cls=.type "tuple"/\o.data=.seq its n/\its.size<=sizeLine/\Vals xs its.toList
def TpA (K:Fg)(M:Addr->Prop)(H:Hp)(a:Addr)(vs:List V):Prop:=(¬ M a/\H a=some (.tup vs))\/KTp K a vs
theorem TpA.sq {H:Hp}{a:Addr}{vs:List V}(h:TpA K M H a vs):SqT K H a vs:=h.elim (fun z=>.inl (.inl z.2)) .inr
theorem TpA.keep {H H':Hp}{a:Addr}{vs:List V}(k:∀ b o,¬ M b->H b=some o->H' b=some o)(h:TpA K M H a vs):TpA K M H' a vs:=h.imp (fun z=>⟨z.1,k _ _ z.1 z.2⟩) id
theorem TpA.avoid {M M':Addr->Prop}{H:Hp}{a:Addr}{vs:List V}(k:∀ b,M' b->M b\/H b=none)(h:TpA K M H a vs):TpA K M' H a vs:=by
 refine h.imp (fun z=>⟨fun m=>?_,z.2⟩) id
 rcases k a m with n|n
 · exact z.1 n
 · rw [n] at z;cases z.2
def KL (K:Fg)(a:Addr)(xs:List V):Prop:=∃ (o:Obj) (its:Array Value) (n:Nat),K.lookup a=some o/\o.cls=.type "list"/\o.dict=none/\o.data=.seq its n/\its.size<=sizeLine/\Vals xs its.toList
mutual
def Rep (K:Fg)(M:Addr->Prop)(H:Hp):D->V->Prop
 | .non,v=>v=.non
 | .bl b,v=>v=.bl b
 | .int i,v=>v=.int i
 | .str x,v=>v=.str x
 | .ty n,v=>v=.ty n
 | .adr a,v=>v=.ref a
 | .tup xs,v=>∃ a vs,v=.ref a/\TpA K M H a vs/\Reps K M H xs vs
 | .lst xs,v=>∃ a vs,v=.ref a/\(¬ M a/\H a=some (.lst vs))/\Reps K M H xs vs
 | .own _,_=>False
 | .bag,_=>False
 | .frg _ _,_=>False
 | .scr ns,v=>∃ a,v=.ref a/\((¬ M a/\Rd H a (.lst (ns.map V.int)))\/KL K a (ns.map V.int))
 | .dct ks xs,v=>∃ a kvs,v=.ref a/\(¬ M a/\H a=some (.dT kvs)/\kvs.map (·.1)=ks.map fun k=>k.map Sum.inl)/\Reps K M H xs (kvs.map (·.2))
def Reps (K:Fg)(M:Addr->Prop)(H:Hp):List D->List V->Prop
 | [],vs=>vs=[]
 | d::ds,vs=>∃ v r,vs=v::r/\Rep K M H d v/\Reps K M H ds r
end
theorem Rd.keep {H H':Hp}{a:Addr}{u:HO}(k:∀ o,H a=some o->H' a=some o)(h:Rd H a u):Rd H' a u:=by
 rcases h with h|⟨o,h⟩
 · exact .inl (k _ h)
 · exact .inr ⟨o,k _ h⟩
theorem Rd.some {H:Hp}{a:Addr}{u:HO}(h:Rd H a u):H a≠none:=by
 rcases h with h|⟨o,h⟩<;>rw [h]<;>simp
section
variable {K:Fg}{M M':Addr->Prop}{H H':Hp}
mutual
theorem Rep.keep (k:∀ b o,¬ M b->H b=some o->H' b=some o):∀ (d:D) (v:V),Rep K M H d v->Rep K M H' d v
 | .non,_,h=>h
 | .bl _,_,h=>h
 | .int _,_,h=>h
 | .str _,_,h=>h
 | .ty _,_,h=>h
 | .adr _,_,h=>h
 | .tup xs,v,h=>by
   obtain ⟨a,vs,e,z,r⟩:=h
   exact ⟨a,vs,e,z.keep k,Reps.keep k xs vs r⟩
 | .lst xs,v,h=>by
   obtain ⟨a,vs,e,z,r⟩:=h
   exact ⟨a,vs,e,⟨z.1,k _ _ z.1 z.2⟩,Reps.keep k xs vs r⟩
 | .own _,_,h=>h
 | .bag,_,h=>h
 | .frg _ _,_,h=>h
 | .scr ns,v,h=>by
   obtain ⟨a,e,z⟩:=h
   exact ⟨a,e,z.imp (fun q=>⟨q.1,q.2.keep fun o=>k a o q.1⟩) id⟩
 | .dct ks xs,v,h=>by
   obtain ⟨a,kvs,e,z,r⟩:=h
   exact ⟨a,kvs,e,⟨z.1,k _ _ z.1 z.2.1,z.2.2⟩,Reps.keep k xs _ r⟩
theorem Reps.keep (k:∀ b o,¬ M b->H b=some o->H' b=some o):∀ (ds:List D) (vs:List V),Reps K M H ds vs->Reps K M H' ds vs
 | [],_,h=>h
 | d::ds,vs,h=>by
   obtain ⟨v,r,e,h1,h2⟩:=h
   exact ⟨v,r,e,Rep.keep k d v h1,Reps.keep k ds r h2⟩
end
mutual
theorem Rep.avoid (k:∀ b,M' b->M b\/H b=none):∀ (d:D) (v:V),Rep K M H d v->Rep K M' H d v
 | .non,_,h=>h
 | .bl _,_,h=>h
 | .int _,_,h=>h
 | .str _,_,h=>h
 | .ty _,_,h=>h
 | .adr _,_,h=>h
 | .tup xs,v,h=>by
   obtain ⟨a,vs,e,z,r⟩:=h
   exact ⟨a,vs,e,z.avoid k,Reps.avoid k xs vs r⟩
 | .lst xs,v,h=>by
   obtain ⟨a,vs,e,z,r⟩:=h
   refine ⟨a,vs,e,⟨fun m=>?_,z.2⟩,Reps.avoid k xs vs r⟩
   rcases k a m with n|n
   · exact z.1 n
   · rw [n] at z;cases z.2
 | .own _,_,h=>h
 | .bag,_,h=>h
 | .frg _ _,_,h=>h
 | .scr ns,v,h=>by
   obtain ⟨a,e,z⟩:=h
   refine ⟨a,e,z.imp (fun q=>⟨fun m=>?_,q.2⟩) id⟩
   rcases k a m with n|n
   · exact q.1 n
   · exact q.2.some n
 | .dct ks xs,v,h=>by
   obtain ⟨a,kvs,e,z,r⟩:=h
   refine ⟨a,kvs,e,⟨fun m=>?_,z.2⟩,Reps.avoid k xs _ r⟩
   rcases k a m with n|n
   · exact z.1 n
   · rw [n] at z;cases z.2.1
theorem Reps.avoid (k:∀ b,M' b->M b\/H b=none):∀ (ds:List D) (vs:List V),Reps K M H ds vs->Reps K M' H ds vs
 | [],_,h=>h
 | d::ds,vs,h=>by
   obtain ⟨v,r,e,h1,h2⟩:=h
   exact ⟨v,r,e,Rep.avoid k d v h1,Reps.avoid k ds r h2⟩
end
end
abbrev Ev:=List (Option D)
structure Wd where
 K:Fg
 B:BagT
 H0:Hp
 M0:Addr->Prop
 b0:Option Addr
def okB (B:BagT)(b:Option Addr)(H:Hp):Prop:=∀ p,b=some p->B.ok p H
def Kp (b:Option Addr)(H H':Hp):Prop:=∀ c o,b≠some c->H c=some o->H' c=some o
theorem Kp.refl (b:Option Addr)(H:Hp):Kp b H H:=fun _ _ _ h=>h
theorem Kp.trans {H H1 H2:Hp}(x:Kp b H H1)(y:Kp b H1 H2):Kp b H H2:=fun c o n h=>y c o n (x c o n h)
theorem Kp.upd {H:Hp}{p:Addr}{o:HO}(h:H p=none):Kp b H (upd H p o):=fun c u _ e=>Same.upd h c u e
theorem Kp.same {H H':Hp}(h:Same H H'):Kp b H H':=fun c o _ e=>h c o e
def RepX (W:Wd)(M:Addr->Prop)(b:Option Addr)(H:Hp):D->V->Prop
 | .own xs,v=>∃ a vs,v=.ref a/\M a/\b≠some a/\W.H0 a=none/\¬ W.M0 a/\H a=some (.lst vs)/\Reps W.K M H xs vs
 | .bag,v=>∃ p,b=some p/\v=.ref p
 | .frg f d,v=>(∀ c∈f.ads,M c/\b≠some c/\W.H0 c=none/\¬ W.M0 c)/\f.R M H v/\Rep W.K (fun c=>M c/\c∉f.ads) H d v
 | d,v=>Rep W.K M H d v
def plain:D->Bool
 | .own _=>false
 | .bag=>false
 | .frg _ _=>false
 | _=>true
def CD:D->Bool
 | .own _=>false
 | .frg _ _=>false
 | _=>true
theorem RepX.rep {W:Wd} {H:Hp}{d:D}{v:V}(h:RepX W M b H d v)(p:plain d=true):Rep W.K M H d v:=by
 cases d<;>first|exact h|cases p
theorem Rep.x {W:Wd} {H:Hp}{d:D}{v:V}(h:Rep W.K M H d v):RepX W M b H d v:=by
 cases d<;>first|exact h|exact h.elim
def RepXs (W:Wd)(M:Addr->Prop)(b:Option Addr)(H:Hp):List D->List V->Prop
 | [],vs=>vs=[]
 | d::ds,vs=>∃ v r,vs=v::r/\RepX W M b H d v/\RepXs W M b H ds r
structure Hs (W:Wd)(M:Addr->Prop)(b:Option Addr)(H:Hp):Prop where
 ok:okB W.B b H
 bagM:∀ p,b=some p->M p
 dom:∀ c,M c->∃ o,H c=some o
 m0:∀ c,W.M0 c->M c
theorem RepX.move {W:Wd}{M M':Addr->Prop}{b b':Option Addr}{H H':Hp}{f:Frg}{d:D}{v:V}(h:RepX W M b H (.frg f d) v)(ow:∀ c∈f.ads,M c->b≠some c->M' c/\b'≠some c)(k:∀ c o,(¬ M' c\/c∈f.ads)->H c=some o->H' c=some o)(a:∀ c,M' c->M c\/H c=none):RepX W M' b' H' (.frg f d) v:=by
 refine ⟨fun c m=>?_,f.keep M' H H' v k (f.avoid M M' H v a h.2.1),Rep.keep (fun c o n e=>k c o ?_ e) _ _ (Rep.avoid (fun c m=>(a c m.1).imp (fun z=>⟨z,m.2⟩) id) _ _ h.2.2)⟩
 · obtain ⟨q1,q2,q3,q4⟩:=h.1 c m
   obtain ⟨z1,z2⟩:=ow c m q1 q2
   exact ⟨z1,z2,q3,q4⟩
 · by_cases z:c∈f.ads
   · exact .inr z
   · exact .inl fun m=>n ⟨m,z⟩
theorem RepX.step {W:Wd} {H H':Hp}{d:D}{v:V}(hb:∀ p,b=some p->M p)(k:Kp b H H')(h:RepX W M b H d v):RepX W M b H' d v:=by
 have k':∀ c o,¬ M c->H c=some o->H' c=some o:=fun c o n e=>k c o (fun z=>n (hb c z)) e
 cases d
 case own xs =>
  obtain ⟨a,vs,e,m,n,n0,m0,h1,h2⟩:=h
  exact ⟨a,vs,e,m,n,n0,m0,k _ _ n h1,Reps.keep k' _ _ h2⟩
 case bag=>exact h
 case frg f d=>exact RepX.move h (fun c m m1 n=>⟨m1,n⟩) (fun c o q e=>q.elim (fun n=>k' c o n e) fun m=>k c o (h.1 c m).2.1 e) fun c m=>.inl m
 all_goals exact Rep.keep k' _ _ h
theorem RepXs.reps {W:Wd} {H:Hp}:∀ (ds:List D) (vs:List V),RepXs W M b H ds vs->ds.all plain=true->Reps W.K M H ds vs
 | [],_,h,_=>h
 | d::ds,vs,h,p=>by
   obtain ⟨v,r,e,h1,h2⟩:=h
   simp only [List.all_cons,Bool.and_eq_true] at p
   exact ⟨v,r,e,h1.rep p.1,RepXs.reps ds r h2 p.2⟩
theorem Reps.length {H:Hp}:∀ (ds:List D) (vs:List V),Reps K M H ds vs->vs.length=ds.length
 | [],_,h=>by cases (show _=_ from h);rfl
 | d::ds,vs,h=>by
   obtain ⟨v,r,rfl,h1,h2⟩:=h
   simp [Reps.length ds r h2]
theorem Reps.get {H:Hp}:∀ {ds:List D} {vs:List V} {i:Nat} {d:D},Reps K M H ds vs->ds[i]?=some d->∃ v,vs[i]?=some v/\Rep K M H d v
 | [],_,_,_,h,e=>by simp at e
 | d::ds,vs,0,_,h,e=>by
   obtain ⟨v,r,rfl,h1,h2⟩:=h
   simp at e;subst e
   exact ⟨v,rfl,h1⟩
 | d::ds,vs,i+1,d',h,e=>by
   obtain ⟨v,r,rfl,h1,h2⟩:=h
   obtain ⟨u,e1,e2⟩:=Reps.get (i:=i) h2 (by simpa using e)
   exact ⟨u,by simpa using e1,e2⟩
theorem Reps.at {H:Hp}{ds:List D}{vs:List V}{i:Int}{d:D}(h:Reps K M H ds vs)(e:atI ds i=some d):∃ v,atI vs i=some v/\Rep K M H d v:=by
 unfold atI at *
 rw [h.length]
 cases q:ixN ds.length i with
 | none=>rw [q] at e;cases e
 | some j =>
   rw [q] at e
   exact Reps.get h e
theorem Reps.append {H:Hp}:∀ {ds es:List D} {vs us:List V},Reps K M H ds vs->Reps K M H es us->Reps K M H (ds++es) (vs++us)
 | [],_,_,_,h,h'=>by cases (show _=_ from h);exact h'
 | d::ds,_,_,_,h,h'=>by
   obtain ⟨v,r,rfl,h1,h2⟩:=h
   exact ⟨v,_,rfl,h1,Reps.append h2 h'⟩
theorem Reps.drop {H:Hp}:∀ {ds:List D} {vs:List V} (j:Nat),Reps K M H ds vs->Reps K M H (ds.drop j) (vs.drop j)
 | _,_,0,h=>h
 | [],_,_+1,h=>by cases (show _=_ from h);exact rfl
 | e::ds,_,j+1,h=>by
   obtain ⟨v',r,rfl,h1,h2⟩:=h
   exact Reps.drop j h2
theorem Reps.take {H:Hp}:∀ {ds:List D} {vs:List V} (j:Nat),Reps K M H ds vs->Reps K M H (ds.take j) (vs.take j)
 | _,_,0,h=>rfl
 | [],_,_+1,h=>by cases (show _=_ from h);exact rfl
 | e::ds,_,j+1,h=>by
   obtain ⟨v',r,rfl,h1,h2⟩:=h
   exact ⟨v',_,rfl,h1,Reps.take j h2⟩
def PinR (W:Wd)(M:Addr->Prop)(b:Option Addr)(H:Hp):D->V->Prop
 | .own xs,v=>RepX W M b H (.own xs) v
 | d,v=>Rep W.K M H d v
theorem PinR.x {W:Wd} {H:Hp}{d:D}{v:V}(h:PinR W M b H d v):RepX W M b H d v:=by
 cases d<;>first|exact h|exact h.elim
theorem RepX.pin {W:Wd} {H:Hp}{d:D}{v:V}(h:RepX W M b H d v)(p:plain d=true):PinR W M b H d v:=by
 cases d<;>first|exact h|cases p
theorem PinR.to {W:Wd}{M M':Addr->Prop}{b b':Option Addr}{H H':Hp}{d:D}{v:V}(h:PinR W M b H d v)(rep:∀ d v,Rep W.K M H d v->Rep W.K M' H' d v)(reps:∀ ds vs,Reps W.K M H ds vs->Reps W.K M' H' ds vs)(own:∀ xs a vs,d=.own xs->v=.ref a->M a->b≠some a->H a=some (.lst vs)->M' a/\b'≠some a/\H' a=some (.lst vs)):PinR W M' b' H' d v:=by
 cases d
 case own xs =>
  obtain ⟨a,vs,rfl,m1,m2,m3,m4,hh,r⟩:=h
  obtain ⟨q1,q2,q3⟩:=own xs a vs rfl rfl m1 m2 hh
  exact ⟨a,vs,rfl,q1,q2,m3,m4,q3,reps _ _ r⟩
 case bag=>exact h.elim
 all_goals exact rep _ _ h
def GO:D->V->Addr->Prop
 | .own _,v,c=>v=.ref c
 | .frg f _,_,c=>c∈f.ads
 | _,_,_=>False
def mine:D->Bool
 | .own _=>true
 | .frg _ _=>true
 | _=>false
theorem GO.m {d:D}{v:V}{c:Addr}(h:GO d v c):mine d=true:=by cases d<;>first|rfl|exact h.elim
theorem RepX.mine {W:Wd} {H:Hp}{d:D}{v:V}{c:Addr}(h:RepX W M b H d v)(m:GO d v c):M c/\b≠some c/\W.H0 c=none/\¬ W.M0 c:=by
 cases d
 case own xs =>
  obtain ⟨a,vs,e,m1,n,n0,m0,h1,h2⟩:=h
  cases (e.symm.trans (show v=.ref c from m))
  exact ⟨m1,n,n0,m0⟩
 case frg f d=>exact h.1 c m
 all_goals exact m.elim
structure Sta (W:Wd)(pn:List (D×V))(M:Addr->Prop)(b:Option Addr)(H:Hp)(σ:St)(ρ:Ev):Prop extends Hs W M b H where
 kp:Kp W.b0 W.H0 H
 new:b=W.b0\/(W.b0=none/\∀ p,b=some p->W.H0 p=none)
 env:∀ (i:Nat) d,ρ[i]?=some (some d)->∃ v,σ[i]?=some (some v)/\RepX W M b H d v
 len:ρ.length=σ.length
 pin:∀ q∈pn,PinR W M b H q.1 q.2
theorem Sta.step {W:Wd}{pn:List (D×V)} {H H':Hp}{σ:St}{ρ:Ev}(s:Sta W pn M b H σ ρ)(k:Kp b H H')(o:okB W.B b H'):Sta W pn M b H' σ ρ where
 ok:=o
 bagM:=s.bagM
 dom:=fun c m=>by
  by_cases z:b=some c
  · exact W.B.dm c H' (o c z)
  · obtain ⟨u,e⟩:=s.dom c m
    exact ⟨u,k c u z e⟩
 m0:=s.m0
 kp:=fun c u n e=>by
  refine k c u (fun z=>?_) (s.kp c u n e)
  rcases s.new with q|⟨_,q⟩
  · exact n (q▸z)
  · rw [q c z] at e;cases e
 new:=s.new
 env:=fun i d e=>by
  obtain ⟨v,e1,r⟩:=s.env i d e
  exact ⟨v,e1,r.step s.bagM k⟩
 len:=s.len
 pin:=fun q hq=>(s.pin q hq).to (fun _ _ r=>Rep.keep (fun c o n e=>k c o (fun z=>n (s.bagM c z)) e) _ _ r) (fun _ _ r=>Reps.keep (fun c o n e=>k c o (fun z=>n (s.bagM c z)) e) _ _ r) fun xs a vs _ _ m n hh=>⟨m,n,k _ _ n hh⟩
theorem Hs.new {W:Wd} {H:Hp}(s:Hs W M b H){p:Addr}(h:H p=none):¬ M p:=fun m=>by
 obtain ⟨o,e⟩:=s.dom p m
 rw [h] at e;cases e
theorem Hs.okU {W:Wd} {H:Hp}(s:Hs W M b H){p:Addr}{o:HO}(h:H p=none):okB W.B b (upd H p o):=fun q e=>W.B.st q H _ (s.ok q e) fun u e'=>Same.upd h q u e'
abbrev DE:=Ev->(D->Prop)->Prop
abbrev DT:=Ev->(Bool->Prop)->Prop
abbrev DA:=Ev->(List D->Prop)->Prop
def dn (W:Wd)(d:DE):TE:=fun σ H Q=>∃ pn M b ρ P,Sta W pn M b H σ ρ/\d ρ P/\∀ x v H',P x->RepX W M b H' x v->Kp b H H'->okB W.B b H'->Q v H'
def dnT (W:Wd)(d:DT):TT:=fun σ H Q=>∃ pn M b ρ P,Sta W pn M b H σ ρ/\d ρ P/\∀ x H',P x->Kp b H H'->okB W.B b H'->Q x H'
def dnA (W:Wd)(d:DA):TA:=fun σ H Q=>∃ pn M b ρ P,Sta W pn M b H σ ρ/\d ρ P/\∀ xs vs H',P xs->RepXs W M b H' xs vs->Kp b H H'->okB W.B b H'->Q vs H'
theorem dn.elim {W:Wd}{d:DE}{σ:St}{H:Hp}{Q:VK}{R:Prop}(h:dn W d σ H Q)(f:∀ pn M b ρ P,Sta W pn M b H σ ρ->d ρ P->(∀ x v H',P x->RepX W M b H' x v->Kp b H H'->okB W.B b H'->Q v H')->R):R:=by
 obtain ⟨pn,M,b,ρ,P,st,h,k⟩:=h
 exact f pn M b ρ P st h k
theorem dnT.elim {W:Wd}{d:DT}{σ:St}{H:Hp}{Q:Bool->Hp->Prop}{R:Prop}(h:dnT W d σ H Q)(f:∀ pn M b ρ P,Sta W pn M b H σ ρ->d ρ P->(∀ x H',P x->Kp b H H'->okB W.B b H'->Q x H')->R):R:=by
 obtain ⟨pn,M,b,ρ,P,st,h,k⟩:=h
 exact f pn M b ρ P st h k
theorem dnA.elim {W:Wd}{d:DA}{σ:St}{H:Hp}{Q:List V->Hp->Prop}{R:Prop}(h:dnA W d σ H Q)(f:∀ pn M b ρ P,Sta W pn M b H σ ρ->d ρ P->(∀ xs vs H',P xs->RepXs W M b H' xs vs->Kp b H H'->okB W.B b H'->Q vs H')->R):R:=by
 obtain ⟨pn,M,b,ρ,P,st,h,k⟩:=h
 exact f pn M b ρ P st h k
section
variable {X:Cx}{W:Wd}{e a b c:Expr}{es:List Expr}{pos:Pos}{d da db dc:DE}{dA:DA}{t:TE}
theorem PE.mono {t':TE}(h:PE X e t)(m:∀ σ H Q,t' σ H Q->t σ H Q):PE X e t':=fun pins s σ H Q I q=>h pins s σ H Q I (m σ H Q q)
theorem PT.mono {t t':TT}(h:PT X e t)(m:∀ σ H Q,t' σ H Q->t σ H Q):PT X e t':=fun pins s σ H Q I q=>h pins s σ H Q I (m σ H Q q)
theorem PA.mono {t t':TA}(h:PA X es t)(m:∀ σ H Q,t' σ H Q->t σ H Q):PA X es t':=fun pos pins s σ H Q I q=>h pos pins s σ H Q I (m σ H Q q)
noncomputable def J0z (i:Nat):DE:=fun ρ P=>match ρ[i]? with|some (some d)=>P d|_=>False
theorem dv (i:Nat) {x:Str} {pos:Pos} (hN:X.N[i]?=some x:=by rfl) (hv:Vis X.env.scope x:=by first|exact Or.inl rfl|exact Or.inr (Or.inl rfl)|exact Or.inr (Or.inr rfl)) (hd:(x==("__debug__" : Str))=false:=by decide)
 (hcd:(x==("__classdict__" : Str))=false:=by decide):PE X (.Name x pos) (dn W (J0z i)):=(WK hN hv hd hcd).mono fun σ H Q hh=>hh.elim fun pn M b ρ P st h k=>by
 unfold J0z at h
 split at h
 case h_1 d e =>
  obtain ⟨v,e1,r⟩:=st.env i d e
  exact ⟨v,e1,k d v H h r (Kp.refl _ _) st.ok⟩
 case h_2=>exact h.elim
noncomputable def dC (d:D):DE:=fun _ P=>P d
theorem J0y {d:D}{v:V}(h:PE X e (tC v))(hr:∀ M H,Rep W.K M H d v):PE X e (dn W (dC d)):=h.mono fun σ H Q hh=>hh.elim fun pn M b ρ P st h k=>k d v H h (Rep.x (hr M H)) (Kp.refl _ _) st.ok
theorem Q3u {i j pos}:PE X (.Constant (.int i) j pos) (dn W (dC (.int i))):=J0y AC fun _ _=>rfl
theorem Q7b {i j pos}:PE X (.Constant (.bool i) j pos) (dn W (dC (.bl i))):=J0y J9v fun _ _=>rfl
theorem Q3r {j pos}:PE X (.Constant .none j pos) (dn W (dC .non)):=J0y Q1y fun _ _=>rfl
theorem Q3n {i j pos}:PE X (.Constant (.str i) j pos) (dn W (dC (.str i))):=J0y J2n fun _ _=>rfl
theorem J4g {x:Str}{n:Int}{pos:Pos}(hg:Gl X x)(hm:∃ t,X.mg x=some (.int n t))(hd:(x==("__debug__" : Str))=false:=by decide):PE X (.Name x pos) (dn W (dC (.int n))):=J0y (J2q hg hm hd) fun _ _=>rfl
theorem J8s {x:Str}{T:String}{pos:Pos}(hg:Gl X x)(hm:X.mg x=none)(hv:bootBuiltins x=some (.type T))(hn:x≠"__name__":=by decide) (hd:(x==("__debug__" : Str))=false:=by decide):PE X (.Name x pos) (dn W (dC (.ty T))):=J0y (YK (v:=.ty T) hg hm hv rfl hn hd) fun _ _=>rfl
def OpD (W:Wd)(r:R2)(o:D->D->(D->Prop)->Prop):Prop:=∀ M b H x y v u P Q,Hs W M b H->RepX W M b H x v->RepX W M b H y u->o x y P->(∀ z w H',P z->RepX W M b H' z w->Kp b H H'->okB W.B b H'->Q w H')->r v u H Q
noncomputable def dOp (o:D->D->(D->Prop)->Prop)(da db:DE):DE:=fun ρ P=>da ρ fun x=>db ρ fun y=>o x y P
theorem XX {r:R2}{o:D->D->(D->Prop)->Prop}(hd:OpD W r o):∀ σ H Q,dn W (dOp o da db) σ H Q->tOp r (dn W da) (dn W db) σ H Q:=by
 intro σ H Q hh
 refine hh.elim fun pn M b ρ P st h k=>?_
 refine ⟨pn,M,b,ρ,_,st,h,fun x v H1 hx rx k1 o1=>?_⟩
 refine ⟨pn,M,b,ρ,_,st.step k1 o1,hx,fun y u H2 hy ry k2 o2=>?_⟩
 exact hd M b H2 x y v u P Q ((st.step k1 o1).step k2 o2).toHs (rx.step st.bagM k2) ry hy fun z w H' hz rz k3 o3=>k z w H' hz rz ((k1.trans k2).trans k3) o3
theorem Q6y {op:Operator}{r:R2}{o:D->D->(D->Prop)->Prop}(ho:OpR X (binaryOp op) r)(hd:OpD W r o)(ha:PE X a (dn W da))(hb:PE X b (dn W db)):PE X (.BinOp a op b pos) (dn W (dOp o da db)):=(BE ho ha hb).mono (XX hd)
theorem Q3v {op:CmpOp}{r:R2}{o:D->D->(D->Prop)->Prop}(ho:OpR X (compareOp op) r)(hd:OpD W r o)(ha:PE X a (dn W da))(hb:PE X b (dn W db))(hm:behindInMarks op b=false):PE X (.Compare a [op] [b] pos) (dn W (dOp o da db)):=(RY ho ha hb hm).mono (XX hd)
theorem Q6z {r:R2}{o:D->D->(D->Prop)->Prop}(hr:IxR X r)(hd:OpD W r o)(ha:PE X a (dn W da))(hb:PE X b (dn W db))(hs:NQ b):PE X (.Subscript a b pos) (dn W (dOp o da db)):=(HS hr ha hb hs).mono (XX hd)
noncomputable def oI (C:Int->Int->Prop)(g:Int->Int->Int):D->D->(D->Prop)->Prop
 | .int i,.int j,P=>C i j/\P (.int (g i j))
 | _,_,_=>False
noncomputable def oI0 (g:Int->Int->Int):D->D->(D->Prop)->Prop
 | .int i,.int j,P=>P (.int (g i j))
 | _,_,_=>False
noncomputable def oB0 (g:Int->Int->Bool):D->D->(D->Prop)->Prop
 | .int i,.int j,P=>P (.bl (g i j))
 | _,_,_=>False
theorem Y6 {C:Int->Int->Prop}{g:Int->Int->Int}:OpD W (rI C fun i j=>.int (g i j)) (oI C g):=by
 intro M b H x y v u P Q hs rx ry ho k
 cases x<;>first|exact ho.elim|skip
 cases y<;>first|exact ho.elim|skip
 cases (show _=_ from rx)
 cases (show _=_ from ry)
 exact ⟨_,_,rfl,rfl,ho.1,k _ _ H ho.2 (show _=_ from rfl) (Kp.refl _ _) hs.ok⟩
theorem Z4 {g:Int->Int->Int}:OpD W (rI0 fun i j=>.int (g i j)) (oI0 g):=by
 intro M b H x y v u P Q hs rx ry ho k
 cases x<;>first|exact ho.elim|skip
 cases y<;>first|exact ho.elim|skip
 cases (show _=_ from rx)
 cases (show _=_ from ry)
 exact ⟨_,_,rfl,rfl,k _ _ H ho (show _=_ from rfl) (Kp.refl _ _) hs.ok⟩
theorem HV {g:Int->Int->Bool}:OpD W (rI0 fun i j=>.bl (g i j)) (oB0 g):=by
 intro M b H x y v u P Q hs rx ry ho k
 cases x<;>first|exact ho.elim|skip
 cases y<;>first|exact ho.elim|skip
 cases (show _=_ from rx)
 cases (show _=_ from ry)
 exact ⟨_,_,rfl,rfl,k _ _ H ho (show _=_ from rfl) (Kp.refl _ _) hs.ok⟩
noncomputable def Q2d (neg:Bool):D->D->(D->Prop)->Prop
 | .int i,.int j,P=>P (.bl (decide (i=j)!=neg))
 | .bl i,.bl j,P=>P (.bl (decide (i=j)!=neg))
 | .str i,.str j,P=>P (.bl (decide (i=j)!=neg))
 | .non,.non,P=>P (.bl (true != neg))
 | .non,.int _,P=>P (.bl (false != neg))
 | .int _,.non,P=>P (.bl (false != neg))
 | .str _,.int _,P=>P (.bl (false != neg))
 | .int _,.str _,P=>P (.bl (false != neg))
 | _,_,_=>False
theorem CB:OpD W rEq (Q2d false):=by
 intro M b H x y v u P Q hs rx ry ho k
 cases x<;>cases y<;>first|exact ho.elim|skip
 all_goals (cases (show _=_ from rx);cases (show _=_ from ry);refine ⟨rfl,?_⟩;refine k _ _ H ho ?_ (Kp.refl _ _) hs.ok)
 all_goals (show V.bl _=V.bl _;simp)
theorem J2v:OpD W rNe (Q2d true):=by
 intro M b H x y v u P Q hs rx ry ho k
 cases x<;>cases y<;>first|exact ho.elim|skip
 all_goals (cases (show _=_ from rx);cases (show _=_ from ry);refine ⟨rfl,?_⟩;refine k _ _ H ho ?_ (Kp.refl _ _) hs.ok)
 all_goals (show V.bl _=V.bl _;simp)
def Q6o:D->Bool
 | .non=>true
 | _=>false
noncomputable def V3e (neg:Bool):D->D->(D->Prop)->Prop
 | x,.non,P=>P (.bl (Q6o x != neg))
 | _,_,_=>False
noncomputable def oIx:D->D->(D->Prop)->Prop
 | .tup xs,.int i,P=>(atI xs i).elim False P
 | .lst xs,.int i,P=>(atI xs i).elim False P
 | .own xs,.int i,P=>(atI xs i).elim False P
 | _,_,_=>False
theorem Q0 (K:Fg)(h:X.K=K):IxR X (fun x y H Q=>J2e K x y H Q\/J0a K x y H Q):=(SQ K h).or (EO K h)
theorem V1:OpD W (fun x y H Q=>J2e W.K x y H Q\/J0a W.K x y H Q) oIx:=by
 intro M b H x y v u P Q hs rx ry ho k
 cases x<;>first|exact ho.elim|skip
 all_goals (cases y<;>first|exact ho.elim|skip)
 all_goals cases (show _=_ from ry)
 case tup.int xs i =>
  obtain ⟨a,vs,rfl,hh,r⟩:=rx
  simp only [oIx] at ho
  cases e:atI xs i with
  | none=>rw [e] at ho;exact ho.elim
  | some d =>
    rw [e] at ho
    obtain ⟨w,e1,r1⟩:=r.at e
    exact .inl ⟨a,vs,i,w,rfl,rfl,hh.sq,e1,k d w H ho r1.x (Kp.refl _ _) hs.ok⟩
 case lst.int xs i =>
  obtain ⟨a,vs,rfl,hh,r⟩:=rx
  simp only [oIx] at ho
  cases e:atI xs i with
  | none=>rw [e] at ho;exact ho.elim
  | some d =>
    rw [e] at ho
    obtain ⟨w,e1,r1⟩:=r.at e
    exact .inr ⟨a,vs,i,w,rfl,rfl,SqL.of hh.2,e1,k d w H ho r1.x (Kp.refl _ _) hs.ok⟩
 case own.int xs i =>
  obtain ⟨a,vs,rfl,_,_,_,_,hh,r⟩:=rx
  simp only [oIx] at ho
  cases e:atI xs i with
  | none=>rw [e] at ho;exact ho.elim
  | some d =>
    rw [e] at ho
    obtain ⟨w,e1,r1⟩:=r.at e
    exact .inr ⟨a,vs,i,w,rfl,rfl,SqL.of hh,e1,k d w H ho r1.x (Kp.refl _ _) hs.ok⟩
noncomputable def dUn (o:D->(D->Prop)->Prop)(da:DE):DE:=fun ρ P=>da ρ fun x=>o x P
noncomputable def Q2b:D->(D->Prop)->Prop
 | .int i,P=>P (.int (-i))
 | _,_=>False
theorem Q3s (ha:PE X a (dn W da)):PE X (.UnaryOp .USub a pos) (dn W (dUn Q2b da)):=(Q6a Q0y ha).mono fun σ H Q hh=>hh.elim fun pn M b ρ P st h k=>by
 refine ⟨pn,M,b,ρ,_,st,h,fun x v H1 hx rx k1 o1=>?_⟩
 cases x<;>first|exact hx.elim|skip
 cases (show _=_ from rx)
 exact ⟨_,rfl,k _ _ H1 hx (show _=_ from rfl) k1 o1⟩
inductive IfP (c:Bool)(A B:Prop):Prop
 | t (e:c=true) (h:A):IfP c A B
 | f (e:c=false) (h:B):IfP c A B
theorem IfP.of {c:Bool}{A B:Prop}(h1:c=true->A)(h2:c=false->B):IfP c A B:=by
 cases c
 · exact .f rfl (h2 rfl)
 · exact .t rfl (h1 rfl)
theorem IfP.true_of {A B:Prop}(h:IfP true A B):A:=by
 cases h with
 | t _ h=>exact h
 | f e _=>cases e
theorem IfP.false_of {A B:Prop}(h:IfP false A B):B:=by
 cases h with
 | f _ h=>exact h
 | t e _=>cases e
theorem VS {A B:Prop}:IfP true A B=A:=propext ⟨IfP.true_of,fun h=>.t rfl h⟩
theorem J1i {A B:Prop}:IfP false A B=B:=propext ⟨IfP.false_of,fun h=>.f rfl h⟩
noncomputable def Q7j (da db:DE):DE:=fun ρ P=>da ρ fun x=>match x with|.bl k=>IfP k (db ρ P) (P (.bl false))|_=>False
noncomputable def dOr (da db:DE):DE:=fun ρ P=>da ρ fun x=>match x with|.bl k=>IfP k (P (.bl true)) (db ρ P)|_=>False
noncomputable def Q7h (da:DE):DE:=fun ρ P=>da ρ fun x=>match x with|.bl k=>P (.bl (!k))|_=>False
variable {rest:List Expr}
theorem Q3p {op}(h:PE X a (dn W da)):PE X (.BoolOp op [a] pos) (dn W da):=WN h
theorem Q3w (ha:PE X a (dn W da))(hb:PE X (.BoolOp .And (b::rest) pos) (dn W db)):PE X (.BoolOp .And (a::b::rest) pos) (dn W (Q7j da db)):=(RZ ha hb).mono fun σ H Q hh=>hh.elim fun pn M b ρ P st h k=>by
 refine ⟨pn,M,b,ρ,_,st,h,fun x v H1 hx rx k1 o1=>?_⟩
 cases x<;>first|exact hx.elim|skip
 case bl c =>
  cases (show _=_ from rx)
  refine ⟨c,rfl,?_⟩
  cases hx with
  | f e hx=>subst e;rw [if_neg Bool.false_ne_true];exact k _ _ H1 hx (show _=_ from rfl) k1 o1
  | t e hx=>subst e;rw [if_pos rfl];exact ⟨pn,M,b,ρ,P,st.step k1 o1,hx,fun x v H' hp r k2 o2=>k x v H' hp r (k1.trans k2) o2⟩
theorem Q6x (ha:PE X a (dn W da))(hb:PE X (.BoolOp .Or (b::rest) pos) (dn W db)):PE X (.BoolOp .Or (a::b::rest) pos) (dn W (dOr da db)):=(Q6b ha hb).mono fun σ H Q hh=>hh.elim fun pn M b ρ P st h k=>by
 refine ⟨pn,M,b,ρ,_,st,h,fun x v H1 hx rx k1 o1=>?_⟩
 cases x<;>first|exact hx.elim|skip
 case bl c =>
  cases (show _=_ from rx)
  refine ⟨c,rfl,?_⟩
  cases hx with
  | f e hx=>subst e;rw [if_neg Bool.false_ne_true];exact ⟨pn,M,b,ρ,P,st.step k1 o1,hx,fun x v H' hp r k2 o2=>k x v H' hp r (k1.trans k2) o2⟩
  | t e hx=>subst e;rw [if_pos rfl];exact k _ _ H1 hx (show _=_ from rfl) k1 o1
theorem Q3q (ha:PE X a (dn W da)):PE X (.UnaryOp .Not a pos) (dn W (Q7h da)):=(Q1x ha).mono fun σ H Q hh=>hh.elim fun pn M b ρ P st h k=>by
 refine ⟨pn,M,b,ρ,_,st,h,fun x v H1 hx rx k1 o1=>?_⟩
 cases x<;>first|exact hx.elim|skip
 case bl c =>
  cases (show _=_ from rx)
  exact ⟨c,rfl,k _ _ H1 hx (show _=_ from rfl) k1 o1⟩
noncomputable def J4k (da:DE):DT:=fun ρ P=>da ρ fun x=>match x with|.bl k=>P k|_=>False
theorem Q3e {op:CmpOp}{r:R2}{o:D->D->(D->Prop)->Prop}(ho:OpR X (compareOp op) r)(hd:OpD W r o)(ha:PE X a (dn W da))(hb:PE X b (dn W db))(hm:behindInMarks op b=false):PT X (.Compare a [op] [b] pos) (dnT W (J4k (dOp o da db))):=(KQ ho ha hb hm).mono fun σ H Q hh=>hh.elim fun pn M b ρ P st h k=>by
 refine XX hd σ H _ ⟨pn,M,b,ρ,_,st,h,fun x v H1 hx rx k1 o1=>?_⟩
 cases x<;>first|exact hx.elim|skip
 case bl c =>
  cases (show _=_ from rx)
  exact ⟨c,rfl,k _ H1 hx k1 o1⟩
noncomputable def Q7e (da:DE):DT:=fun ρ P=>da ρ fun x=>match x with
 | .bl k=>P k
 | .int i=>P (i != 0)
 | .non=>P false
 | .tup xs=>P (!xs.isEmpty)
 | .lst xs=>P (!xs.isEmpty)
 | .own xs=>P (!xs.isEmpty)
 | _=>False
theorem Reps.empty {H:Hp}{ds:List D}{vs:List V}(h:Reps K M H ds vs):(!ds.isEmpty) = !vs.isEmpty:=by
 cases ds with
 | nil=>cases (show _=_ from h);rfl
 | cons d ds=>obtain ⟨v,r,rfl,_⟩:=h;rfl
theorem J3z (hK:X.K=W.K)(ha:PE X a (dn W da))(he:∀ whole,isTrue a X.env whole=(do let v <- whole;standAt a.pos;holding [v] (truthy v))):PT X a (dnT W (Q7e da)):=(J0c W.K hK ha he).mono fun σ H Q hh=>hh.elim fun pn M b ρ P st h k=>by
 refine ⟨pn,M,b,ρ,_,st,h,fun x v H1 hx rx k1 o1=>?_⟩
 cases x<;>first|exact hx.elim|skip
 case bl c=>cases (show _=_ from rx);exact ⟨_,rfl,k _ H1 hx k1 o1⟩
 case int c=>cases (show _=_ from rx);exact ⟨_,rfl,k _ H1 hx k1 o1⟩
 case non=>cases (show _=_ from rx);exact ⟨_,rfl,k _ H1 hx k1 o1⟩
 case tup xs=>obtain ⟨a,vs,rfl,hh,r⟩:=rx;exact ⟨_,.inr (.inl ⟨vs,hh.sq,r.empty⟩),k _ H1 hx k1 o1⟩
 case lst xs=>obtain ⟨a,vs,rfl,hh,r⟩:=rx;exact ⟨_,.inl ⟨vs,SqL.of hh.2,r.empty⟩,k _ H1 hx k1 o1⟩
 case own xs=>obtain ⟨a,vs,rfl,_,_,_,_,hh,r⟩:=rx;exact ⟨_,.inl ⟨vs,SqL.of hh,r.empty⟩,k _ H1 hx k1 o1⟩
noncomputable def J4l (t u:DT):DT:=fun ρ P=>t ρ fun c=>IfP c (u ρ P) (P false)
noncomputable def J8u (t u:DT):DT:=fun ρ P=>t ρ fun c=>IfP c (P true) (u ρ P)
noncomputable def Q0h (t:DT):DT:=fun ρ P=>t ρ fun c=>P (!c)
variable {ta tb:DT}
theorem Q0x:∀ σ H Q,dnT W (J4l ta tb) σ H Q->Q5r (dnT W ta) (dnT W tb) σ H Q:=by
 intro σ H Q hh
 refine hh.elim fun pn M b ρ P st h k=>?_
 refine ⟨pn,M,b,ρ,_,st,h,fun x H1 hx k1 o1=>?_⟩
 cases hx with
 | t e hx=>rw [if_pos e];exact ⟨pn,M,b,ρ,P,st.step k1 o1,hx,fun x H' hp k2 o2=>k x H' hp (k1.trans k2) o2⟩
 | f e hx=>rw [if_neg (by rw [e];exact Bool.false_ne_true)];exact k _ H1 hx k1 o1
theorem Q5h:∀ σ H Q,dnT W (J8u ta tb) σ H Q->tOr (dnT W ta) (dnT W tb) σ H Q:=by
 intro σ H Q hh
 refine hh.elim fun pn M b ρ P st h k=>?_
 refine ⟨pn,M,b,ρ,_,st,h,fun x H1 hx k1 o1=>?_⟩
 cases hx with
 | t e hx=>rw [if_pos e];exact k _ H1 hx k1 o1
 | f e hx=>rw [if_neg (by rw [e];exact Bool.false_ne_true)];exact ⟨pn,M,b,ρ,P,st.step k1 o1,hx,fun x H' hp k2 o2=>k x H' hp (k1.trans k2) o2⟩
theorem PW.mono {t t':TT}(h:PW X e t)(m:∀ σ H Q,t' σ H Q->t σ H Q):PW X e t':=fun wh pins s σ H Q I q=>h wh pins s σ H Q I (m σ H Q q)
theorem J8g (ha:PT X a (dnT W ta)):PW X (.BoolOp .And [a] pos) (dnT W ta):=J6v ha
theorem Q3b (ha:PT X a (dnT W ta)):PW X (.BoolOp .Or [a] pos) (dnT W ta):=Q1p ha
theorem Q3c (ha:PT X a (dnT W ta))(hb:PW X (.BoolOp .And (b::rest) pos) (dnT W tb)):PW X (.BoolOp .And (a::b::rest) pos) (dnT W (J4l ta tb)):=(Q1q ha hb).mono Q0x
theorem Q0f (ha:PT X a (dnT W ta))(hb:PW X (.BoolOp .Or (b::rest) pos) (dnT W tb)):PW X (.BoolOp .Or (a::b::rest) pos) (dnT W (J8u ta tb)):=(Q5z ha hb).mono Q5h
theorem Q3d (ha:PT X a (dnT W ta)):PT X (.UnaryOp .Not a pos) (dnT W (Q0h ta)):=(Q1s ha).mono fun σ H Q hh=>hh.elim fun pn M b ρ P st h k=>⟨pn,M,b,ρ,_,st,h,fun x H1 hx k1 o1=>k _ H1 hx k1 o1⟩
noncomputable def dIf (t:DT)(da db:DE):DE:=fun ρ P=>t ρ fun c=>IfP c (da ρ P) (db ρ P)
theorem Q7a (hc:PT X c (dnT W ta))(ha:PE X a (dn W da))(hb:PE X b (dn W db)):PE X (.IfExp c a b pos) (dn W (dIf ta da db)):=(J2p hc ha hb).mono fun σ H Q hh=>hh.elim fun pn M b ρ P st h k=>by
 refine ⟨pn,M,b,ρ,_,st,h,fun x H1 hx k1 o1=>?_⟩
 cases hx with
 | t e hx=>rw [if_pos e];exact ⟨pn,M,b,ρ,P,st.step k1 o1,hx,fun x v H' hp r k2 o2=>k x v H' hp r (k1.trans k2) o2⟩
 | f e hx=>rw [if_neg (by rw [e];exact Bool.false_ne_true)];exact ⟨pn,M,b,ρ,P,st.step k1 o1,hx,fun x v H' hp r k2 o2=>k x v H' hp r (k1.trans k2) o2⟩
noncomputable def J4r (o o':D->D->(D->Prop)->Prop)(da db dc:DE):DE:=fun ρ P=>da ρ fun x=>db ρ fun y=>o x y fun z=>match z with|.bl k=>IfP k (dc ρ fun w=>o' y w P) (P (.bl false))|_=>False
theorem J4h {op op':CmpOp}{r r':R2}{o o':D->D->(D->Prop)->Prop}(ho:OpR X (compareOp op) r)(ho':OpR X (compareOp op') r')(hd:OpD W r o)(hd':OpD W r' o')(ha:PE X a (dn W da))(hb:PE X b (dn W db))(hc:PE X c (dn W dc))
 (hm:lastMarks [op,op'] [b,c]=false:=by with_unfolding_all rfl):PE X (.Compare a [op,op'] [b,c] pos) (dn W (J4r o o' da db dc)):=(J2r ho ho' ha hb hc hm).mono fun σ H Q hh=>hh.elim fun pn M b ρ P st h k=>by
 refine ⟨pn,M,b,ρ,_,st,h,fun x v H1 hx rx k1 o1=>?_⟩
 refine ⟨pn,M,b,ρ,_,st.step k1 o1,hx,fun y u H2 hy ry k2 o2=>?_⟩
 refine hd M b H2 x y v u _ _ ((st.step k1 o1).step k2 o2).toHs (rx.step st.bagM k2) ry hy fun z w H' hz rz k3 o3=>?_
 cases z<;>first|exact hz.elim|skip
 case bl q =>
  cases (show _=_ from rz)
  refine ⟨q,rfl,?_⟩
  cases hz with
  | f e hz=>subst e;rw [if_neg Bool.false_ne_true];exact k _ _ H' hz (show _=_ from rfl) ((k1.trans k2).trans k3) o3
  | t e hz =>
    subst e
    rw [if_pos rfl]
    refine ⟨pn,M,b,ρ,_,((st.step k1 o1).step k2 o2).step k3 o3,hz,fun w u' H4 hw rw' k4 o4=>?_⟩
    exact hd' M b H4 y w u u' P Q ((((st.step k1 o1).step k2 o2).step k3 o3).step k4 o4).toHs ((ry.step st.bagM k3).step st.bagM k4) rw' hw fun z w H' hz rz k5 o5=>k z w H' hz rz ((((k1.trans k2).trans k3).trans k4).trans k5) o5
noncomputable def Q4t:DA:=fun _ P=>P []
noncomputable def J5t (da:DE)(dr:DA):DA:=fun ρ P=>da ρ fun x=>dr ρ fun xs=>P (x::xs)
theorem Q3x:PA X [] (dnA W Q4t):=AA.mono fun σ H Q hh=>hh.elim fun pn M b ρ P st h k=>k [] [] H h rfl (Kp.refl _ _) st.ok
theorem J8t {dr:DA}(ha:PE X e (dn W da))(hr:PA X es (dnA W dr))(hs:starEach (e::es) X.env=(false,eval e X.env)::starEach es X.env:=by rfl):PA X (e::es) (dnA W (J5t da dr)):=(V2 ha hr hs).mono fun σ H Q hh=>hh.elim fun pn M b ρ P st h k=>by
 refine ⟨pn,M,b,ρ,_,st,h,fun x v H1 hx rx k1 o1=>?_⟩
 refine ⟨pn,M,b,ρ,_,st.step k1 o1,hx,fun xs vs H2 hy ry k2 o2=>?_⟩
 exact k _ _ H2 hy ⟨v,vs,rfl,rx.step st.bagM k2,ry⟩ (k1.trans k2) o2
def EI (xs:List D):Bool:=xs.all plain&&decide (xs.length<=1000)
noncomputable def Q7c (dA:DA):DE:=fun ρ P=>dA ρ fun xs=>EI xs=true/\P (.tup xs)
noncomputable def Q7i (dA:DA):DE:=fun ρ P=>dA ρ fun xs=>EI xs=true/\P (.lst xs)
theorem EI.len {xs:List D}(h:EI xs=true):xs.length<=sizeLine:=by
 unfold EI at h
 simp only [Bool.and_eq_true,decide_eq_true_eq] at h
 exact Nat.le_trans h.2 AF
theorem EI.pl {xs:List D}(h:EI xs=true):xs.all plain=true:=by
 unfold EI at h
 simp only [Bool.and_eq_true,decide_eq_true_eq] at h
 exact h.1
theorem EZ {bg:Option Addr}{H:Hp}{xs:List D}{vs:List V}{p:Addr}(hs:Hs W M bg H)(r:Reps W.K M H xs vs)(h:H p=none):RepX W M bg (upd H p (.tup vs)) (.tup xs) (.ref p) :=
 ⟨p,vs,rfl,.inl ⟨hs.new h,Y3⟩,Reps.keep (fun c o _ e=>Same.upd h c o e) _ _ r⟩
theorem DH {bg:Option Addr}{H:Hp}{xs:List D}{vs:List V}{p:Addr}(hs:Hs W M bg H)(r:Reps W.K M H xs vs)(h:H p=none):RepX W M bg (upd H p (.lst vs)) (.lst xs) (.ref p) :=
 ⟨p,vs,rfl,⟨hs.new h,Y3⟩,Reps.keep (fun c o _ e=>Same.upd h c o e) _ _ r⟩
theorem Q3m {x1}(h:PA X es (dnA W dA)):PE X (.Tuple es x1 pos) (dn W (Q7c dA)):=(WM h).mono fun σ H Q hh=>hh.elim fun pn M b ρ P st h k=>by
 refine ⟨pn,M,b,ρ,_,st,h,fun xs vs H1 hx rx k1 o1=>?_⟩
 have rr:=rx.reps _ _ (EI.pl hx.1)
 refine ⟨by rw [rr.length];exact EI.len hx.1,fun p hp=>k _ _ _ hx.2 (EZ (st.step k1 o1).toHs rr hp) (k1.trans (Kp.upd hp)) ((st.step k1 o1).okU hp)⟩
theorem Q3t (h:PA X es (dnA W dA)):PE X (.List es pos) (dn W (Q7i dA)):=(HK h).mono fun σ H Q hh=>hh.elim fun pn M b ρ P st h k=>by
 refine ⟨pn,M,b,ρ,_,st,h,fun xs vs H1 hx rx k1 o1=>?_⟩
 have rr:=rx.reps _ _ (EI.pl hx.1)
 refine ⟨by rw [rr.length];exact EI.len hx.1,fun p hp=>k _ _ _ hx.2 (DH (st.step k1 o1).toHs rr hp) (k1.trans (Kp.upd hp)) ((st.step k1 o1).okU hp)⟩
end
abbrev DSp:=List D->(D->Prop)->(Addr->Prop)->Prop
def Q4v (K:Fg)(M:Addr->Prop)(b:Option Addr)(H:Hp):D->V->Prop
 | .own _,_=>False
 | .bag,v=>∃ p,b=some p/\v=.ref p
 | d,v=>Rep K M H d v
def RepAs (K:Fg)(M:Addr->Prop)(b:Option Addr)(H:Hp):List D->List V->Prop
 | [],vs=>vs=[]
 | d::ds,vs=>∃ v r,vs=v::r/\Q4v K M b H d v/\RepAs K M b H ds r
def Q3 (K:Fg)(B:BagT)(S:DSp):Sp:=fun vs H Q E=>∃ (M:Addr->Prop) (b:Option Addr) (ds:List D) (P:D->Prop) (Ed:Addr->Prop),S ds P Ed/\RepAs K M b H ds vs/\okB B b H/\(∀ p,b=some p->M p)/\(∀ c,M c->∃ o,H c=some o) /\
 (∀ d v H',P d->Rep K M H' d v->Kp b H H'->okB B b H'->Q v H')/\∀ C H',Ed C->Kp b H H'->okB B b H'->E (.ref C) none H'
theorem RepXs.args {W:Wd} {H:Hp}:∀ (ds:List D) (vs:List V),RepXs W M b H ds vs->ds.all CD=true->RepAs W.K M b H ds vs
 | [],_,h,_=>h
 | d::ds,vs,h,p=>by
   obtain ⟨v,r,e,h1,h2⟩:=h
   simp only [List.all_cons,Bool.and_eq_true] at p
   refine ⟨v,r,e,?_,RepXs.args ds r h2 p.2⟩
   cases d<;>first|exact h1|cases p.1
theorem RepAs.length {H:Hp}:∀ {ds:List D} {vs:List V},RepAs K M b H ds vs->vs.length=ds.length
 | [],_,h=>by cases (show _=_ from h);rfl
 | d::ds,vs,h=>by
   obtain ⟨v,r,rfl,h1,h2⟩:=h
   simp [RepAs.length h2]
def GU (W:Wd)(E:XK)(Ed:Addr->Prop):Prop:=∀ C H',Ed C->Kp W.b0 W.H0 H'->okB W.B W.b0 H'->E (.ref C) none H'
theorem Sta.ok0 {W:Wd}{pn:List (D×V)} {H:Hp}{σ:St}{ρ:Ev}(s:Sta W pn M b H σ ρ):okB W.B W.b0 H:=by
 rcases s.new with q|⟨q,_⟩
 · rw [<- q];exact s.ok
 · intro p e;rw [q] at e;cases e
section
variable {X:Cx}{W:Wd}{e a b c:Expr}{es:List Expr}{pos p:Pos}{d:DE}{dA:DA}{x:Str}{k:Nat}{ps:List Str}{S:DSp}
noncomputable def RA (S:DSp)(Ed:Addr->Prop)(dA:DA):DE:=fun ρ P=>dA ρ fun ds=>ds.all CD=true/\S ds P Ed
theorem XY {E:XK}{Ed:Addr->Prop}(hE:GU W E Ed):∀ σ H Q,dn W (RA S Ed dA) σ H Q->TX (Q3 W.K W.B S) [] E (dnA W dA) σ H Q:=by
 intro σ H Q hh
 refine hh.elim fun pn M b ρ P st h k=>?_
 refine ⟨pn,M,b,ρ,_,st,h,fun xs vs H1 hx rx k1 o1=>?_⟩
 have st1:=st.step k1 o1
 refine ⟨M,b,xs,P,Ed,hx.2,?_,o1,st.bagM,st1.dom,fun d v H' hd rd k2 o2=>k d v H' hd rd.x (k1.trans k2) o2,fun C H' hC k2 o2=>?_⟩
 · rw [List.append_nil];exact rx.args _ _ hx.1
 · have st2:=st1.step k2 o2
   exact hE C H' hC st2.kp st2.ok0
theorem ML:GU W E0 (fun _=>False):=fun _ _ h=>h.elim
theorem Q3o (G:Callee X.prog X.w X.K X.mg X.base CX0 x k ps (Q3 W.K W.B S))(hr:Room k X.A)(hg:Gl X x)(ha:PA X (e::es) (dnA W dA))(hdb:(x==("__debug__" : Str))=false:=by decide) (he:starEach (e::es) X.env=(false,eval e X.env)::starEach es X.env:=by rfl) (hpl:(backTo pos (starEach es X.env)).any (·.1)=false:=by rfl) :
 PE X (.Call (.Name x p) (e::es) [] pos) (dn W (RA S (fun _=>False) dA)):=(MA G hr hg ha hdb he hpl).mono (XY ML)
theorem J8q {CX:CXT}{E:XK}{Ed:Addr->Prop}(hE:GU W E Ed)(hp:EU CX X E)(G:Callee X.prog X.w X.K X.mg X.base CX x k ps (Q3 W.K W.B S))(hr:Room k X.A)(hg:Gl X x)(ha:PA X (e::es) (dnA W dA))(hdb:(x==("__debug__" : Str))=false:=by decide) (he:starEach (e::es) X.env=(false,eval e X.env)::starEach es X.env:=by rfl) (hpl:(backTo pos (starEach es X.env)).any (·.1)=false:=by rfl) :
 PE X (.Call (.Name x p) (e::es) [] pos) (dn W (RA S Ed dA)):=(RX hp G hr hg ha hdb he hpl).mono (XY hE)
def FT (W:Wd)(r:List V->Hp->VK->Prop)(o:List D->(D->Prop)->Prop):Prop:=∀ M b H xs vs P Q,Hs W M b H->RepXs W M b H xs vs->o xs P->(∀ z w H',P z->RepX W M b H' z w->Kp b H H'->okB W.B b H'->Q w H')->r vs H Q
noncomputable def dCB (o:List D->(D->Prop)->Prop)(dA:DA):DE:=fun ρ P=>dA ρ fun xs=>o xs P
variable {r:List V->Hp->VK->Prop}{o:List D->(D->Prop)->Prop}{id T:String}
theorem J9o (hd:FT W r o):∀ σ H Q,dn W (dCB o dA) σ H Q->tCB r (dnA W dA) σ H Q:=by
 intro σ H Q hh
 refine hh.elim fun pn M b ρ P st h k=>?_
 refine ⟨pn,M,b,ρ,_,st,h,fun xs vs H1 hx rx k1 o1=>?_⟩
 exact hd M b H1 xs vs P Q (st.step k1 o1).toHs rx hx fun z w H' hz rz k2 o2=>k z w H' hz rz (k1.trans k2) o2
theorem J4i (hc:DL X (.builtin id) r)(hd:FT W r o)(hg:Gl X x)(hm:X.mg x=none)(hv:bootBuiltins x=some (.builtin id))(ha:PA X (e::es) (dnA W dA))(hn:x≠"__name__":=by decide) (hdb:(x==("__debug__" : Str))=false:=by decide)
 (he:starEach (e::es) X.env=(false,eval e X.env)::starEach es X.env:=by rfl) (hpl:(backTo pos (starEach es X.env)).any (·.1)=false:=by rfl):PE X (.Call (.Name x p) (e::es) [] pos) (dn W (dCB o dA)):=(AE hc hg hm hv ha hn hdb he hpl).mono (J9o hd)
theorem J0x (hc:DL X (.type T) r)(hd:FT W r o)(hg:Gl X x)(hm:X.mg x=none)(hv:bootBuiltins x=some (.type T))(ha:PA X (e::es) (dnA W dA))(hn:x≠"__name__":=by decide) (hdb:(x==("__debug__" : Str))=false:=by decide)
 (he:starEach (e::es) X.env=(false,eval e X.env)::starEach es X.env:=by rfl) (hpl:(backTo pos (starEach es X.env)).any (·.1)=false:=by rfl):PE X (.Call (.Name x p) (e::es) [] pos) (dn W (dCB o dA)):=(QU hc hg hm hv ha hn hdb he hpl).mono (J9o hd)
theorem rx1 {b:Option Addr}{H:Hp}{x:D}{vs:List V}(h:RepXs W M b H [x] vs):∃ v,vs=[v]/\RepX W M b H x v:=by
 obtain ⟨v,r,rfl,h1,h2⟩:=h
 cases (show _=_ from h2)
 exact ⟨v,rfl,h1⟩
theorem rx2 {b:Option Addr}{H:Hp}{x y:D}{vs:List V}(h:RepXs W M b H [x,y] vs):∃ v u,vs=[v,u]/\RepX W M b H x v/\RepX W M b H y u:=by
 obtain ⟨v,r,rfl,h1,h2⟩:=h
 obtain ⟨u,rfl,h3⟩:=rx1 h2
 exact ⟨v,u,rfl,h1,h3⟩
def EF:List D->Option (List Int)
 | []=>some []
 | .int i::r=>(EF r).map (i::·)
 | _=>none
def HW:List D->Option (List Bool)
 | []=>some []
 | .bl i::r=>(HW r).map (i::·)
 | _=>none
theorem EF.eq:∀ {ds:List D} {ns:List Int},EF ds=some ns->ds=ns.map D.int
 | [],ns,h=>by cases h;rfl
 | d::r,ns,h=>by
   cases d<;>first|cases h|skip
   case int i =>
    simp only [EF,Option.map_eq_some_iff] at h
    obtain ⟨m,e,rfl⟩:=h
    rw [EF.eq e];rfl
theorem HW.eq:∀ {ds:List D} {ns:List Bool},HW ds=some ns->ds=ns.map D.bl
 | [],ns,h=>by cases h;rfl
 | d::r,ns,h=>by
   cases d<;>first|cases h|skip
   case bl i =>
    simp only [HW,Option.map_eq_some_iff] at h
    obtain ⟨m,e,rfl⟩:=h
    rw [HW.eq e];rfl
theorem J1g (ns:List Bool):HW (ns.map D.bl)=some ns:=by
 induction ns with
 | nil=>rfl
 | cons n ns ih=>simp [HW,ih]
theorem Reps.ints {H:Hp}:∀ {ns:List Int} {vs:List V},Reps K M H (ns.map D.int) vs->vs=ns.map V.int
 | [],_,h=>by cases (show _=_ from h);rfl
 | n::ns,_,h=>by
   obtain ⟨v,r,rfl,h1,h2⟩:=h
   cases (show _=_ from h1)
   rw [Reps.ints h2];rfl
theorem Reps.bls {H:Hp}:∀ {ns:List Bool} {vs:List V},Reps K M H (ns.map D.bl) vs->vs=ns.map V.bl
 | [],_,h=>by cases (show _=_ from h);rfl
 | n::ns,_,h=>by
   obtain ⟨v,r,rfl,h1,h2⟩:=h
   cases (show _=_ from h1)
   rw [Reps.bls h2];rfl
def asL:D->Option (List D)
 | .lst xs=>some xs
 | .own xs=>some xs
 | _=>none
def asS:D->Option (List D)
 | .lst xs=>some xs
 | .own xs=>some xs
 | .tup xs=>some xs
 | _=>none
theorem asL.rep {b:Option Addr}{H:Hp}{x:D}{v:V}{xs:List D}(h:RepX W M b H x v)(e:asL x=some xs):∃ a vs,v=.ref a/\H a=some (.lst vs)/\Reps W.K M H xs vs:=by
 cases x<;>first|cases e|skip
 case lst=>obtain ⟨a,vs,rfl,hh,r⟩:=h;exact ⟨a,vs,rfl,hh.2,r⟩
 case own=>obtain ⟨a,vs,rfl,_,_,_,_,hh,r⟩:=h;exact ⟨a,vs,rfl,hh,r⟩
noncomputable def Q9i:List D->(D->Prop)->Prop
 | [.lst xs],P=>P (.int xs.length)
 | [.own xs],P=>P (.int xs.length)
 | [.tup xs],P=>P (.int xs.length)
 | [.scr ns],P=>P (.int ns.length)
 | _,_=>False
theorem HP:FT W (fun xs H Q=>∃ p ys,xs=[.ref p]/\(SqL W.K H p ys\/SqT W.K H p ys)/\Q (.int ys.length) H) Q9i:=by
 intro M b H xs vs P Q hs rx ho k
 match xs,ho with
 | [.lst xs],ho =>
   obtain ⟨v,rfl,r⟩:=rx1 rx
   obtain ⟨a,us,rfl,hh,r'⟩:=r
   exact ⟨a,us,rfl,.inl (SqL.of hh.2),k _ _ H ho (by show _=_;rw [r'.length]) (Kp.refl _ _) hs.ok⟩
 | [.own xs],ho =>
   obtain ⟨v,rfl,r⟩:=rx1 rx
   obtain ⟨a,us,rfl,_,_,_,_,hh,r'⟩:=r
   exact ⟨a,us,rfl,.inl (SqL.of hh),k _ _ H ho (by show _=_;rw [r'.length]) (Kp.refl _ _) hs.ok⟩
 | [.tup xs],ho =>
   obtain ⟨v,rfl,r⟩:=rx1 rx
   obtain ⟨a,us,rfl,hh,r'⟩:=r
   exact ⟨a,us,rfl,.inr (hh.sq),k _ _ H ho (by show _=_;rw [r'.length]) (Kp.refl _ _) hs.ok⟩
 | [.scr ns],ho =>
   obtain ⟨v,rfl,r⟩:=rx1 rx
   obtain ⟨a,rfl,hh⟩:=r
   refine ⟨a,ns.map V.int,rfl,.inl (hh.imp (·.2) id),k _ _ H ho (by show _=_;rw [List.length_map]) (Kp.refl _ _) hs.ok⟩
noncomputable def J2x:List D->(D->Prop)->Prop
 | [.lst xs],P=>P (.tup xs)
 | [.own xs],P=>P (.tup xs)
 | [.tup xs],P=>P (.tup xs)
 | _,_=>False
theorem ER:FT W (fun xs H Q=>∃ p ys,xs=[.ref p]/\((SqL W.K H p ys/\∀ l,H l=none->Q (.ref l) (upd H l (.tup ys)))\/(SqT W.K H p ys/\Q (.ref p) H))) J2x:=by
 intro M b H xs vs P Q hs rx ho k
 match xs,ho with
 | [.lst xs],ho =>
   obtain ⟨v,rfl,r⟩:=rx1 rx
   obtain ⟨a,us,rfl,hh,r'⟩:=r
   exact ⟨a,us,rfl,.inl ⟨SqL.of hh.2,fun l hl=>k _ _ _ ho (EZ hs r' hl) (Kp.upd hl) (hs.okU hl)⟩⟩
 | [.own xs],ho =>
   obtain ⟨v,rfl,r⟩:=rx1 rx
   obtain ⟨a,us,rfl,_,_,_,_,hh,r'⟩:=r
   exact ⟨a,us,rfl,.inl ⟨SqL.of hh,fun l hl=>k _ _ _ ho (EZ hs r' hl) (Kp.upd hl) (hs.okU hl)⟩⟩
 | [.tup xs],ho =>
   obtain ⟨v,rfl,r⟩:=rx1 rx
   obtain ⟨a,us,rfl,hh,r'⟩:=r
   exact ⟨a,us,rfl,.inr ⟨hh.sq,k _ _ H ho ⟨a,us,rfl,hh,r'⟩ (Kp.refl _ _) hs.ok⟩⟩
noncomputable def Q6h:List D->(D->Prop)->Prop
 | [.lst xs],P=>P (.lst xs)
 | [.own xs],P=>P (.lst xs)
 | [.tup xs],P=>P (.lst xs)
 | _,_=>False
theorem ZG:FT W (fun xs H Q=>∃ p ys,xs=[.ref p]/\(SqL W.K H p ys\/SqT W.K H p ys)/\∀ l,H l=none->Q (.ref l) (upd H l (.lst ys))) Q6h:=by
 intro M b H xs vs P Q hs rx ho k
 match xs,ho with
 | [.lst xs],ho =>
   obtain ⟨v,rfl,r⟩:=rx1 rx
   obtain ⟨a,us,rfl,hh,r'⟩:=r
   exact ⟨a,us,rfl,.inl (SqL.of hh.2),fun l hl=>k _ _ _ ho (DH hs r' hl) (Kp.upd hl) (hs.okU hl)⟩
 | [.own xs],ho =>
   obtain ⟨v,rfl,r⟩:=rx1 rx
   obtain ⟨a,us,rfl,_,_,_,_,hh,r'⟩:=r
   exact ⟨a,us,rfl,.inl (SqL.of hh),fun l hl=>k _ _ _ ho (DH hs r' hl) (Kp.upd hl) (hs.okU hl)⟩
 | [.tup xs],ho =>
   obtain ⟨v,rfl,r⟩:=rx1 rx
   obtain ⟨a,us,rfl,hh,r'⟩:=r
   exact ⟨a,us,rfl,.inr (hh.sq),fun l hl=>k _ _ _ ho (DH hs r' hl) (Kp.upd hl) (hs.okU hl)⟩
noncomputable def Q9k:List D->(D->Prop)->Prop
 | [.int i],P=>P (.int (if i<0 then -i else i))
 | _,_=>False
theorem XN:FT W (fun xs H Q=>∃ i,xs=[.int i]/\Q (.int (if i<0 then -i else i)) H) Q9k:=by
 intro M b H xs vs P Q hs rx ho k
 match xs,ho with
 | [.int i],ho =>
   obtain ⟨v,rfl,r⟩:=rx1 rx
   cases (show _=_ from r)
   exact ⟨i,rfl,k _ _ H ho (show _=_ from rfl) (Kp.refl _ _) hs.ok⟩
noncomputable def Q6i:List D->(D->Prop)->Prop
 | [.int i],P=>P (.int i)
 | [.bl c],P=>P (.int (if c then 1 else 0))
 | _,_=>False
theorem LL:FT W (fun xs H Q=>(∃ i,xs=[.int i]/\Q (.int i) H)\/∃ k,xs=[.bl k]/\Q (.int (if k then 1 else 0)) H) Q6i:=by
 intro M b H xs vs P Q hs rx ho k
 match xs,ho with
 | [.int i],ho =>
   obtain ⟨v,rfl,r⟩:=rx1 rx
   cases (show _=_ from r)
   exact .inl ⟨i,rfl,k _ _ H ho (show _=_ from rfl) (Kp.refl _ _) hs.ok⟩
 | [.bl i],ho =>
   obtain ⟨v,rfl,r⟩:=rx1 rx
   cases (show _=_ from r)
   exact .inr ⟨i,rfl,k _ _ H ho (show _=_ from rfl) (Kp.refl _ _) hs.ok⟩
def o2I (g:Int->Int->Int):List D->(D->Prop)->Prop
 | [.int i,.int j],P=>P (.int (g i j))
 | _,_=>False
theorem NA {g:Int->Int->Int}:FT W (fun xs H Q=>∃ i j,xs=[.int i,.int j]/\Q (.int (g i j)) H) (o2I g):=by
 intro M b H xs vs P Q hs rx ho k
 match xs,ho with
 | [.int i,.int j],ho =>
   obtain ⟨v,u,rfl,r,r'⟩:=rx2 rx
   cases (show _=_ from r)
   cases (show _=_ from r')
   exact ⟨i,j,rfl,k _ _ H ho (show _=_ from rfl) (Kp.refl _ _) hs.ok⟩
noncomputable def Q6f:List D->(D->Prop)->Prop
 | [x],P=>(asL x).elim False fun xs=>(EF xs).elim False fun ns=>P (.int ns.sum)
 | _,_=>False
theorem Q4f:FT W (fun xs H Q=>∃ (p:Addr) (ns:List Int),xs=[.ref p]/\SqL W.K H p (ns.map V.int)/\Q (.int ns.sum) H) Q6f:=by
 intro M b H xs vs P Q hs rx ho k
 match xs,ho with
 | [x],ho =>
   obtain ⟨v,rfl,r⟩:=rx1 rx
   simp only [Q6f] at ho
   cases ex:asL x with
   | none=>rw [ex] at ho;exact ho.elim
   | some xs =>
     rw [ex] at ho
     simp only [Option.elim] at ho
     cases en:EF xs with
     | none=>rw [en] at ho;exact ho.elim
     | some ns =>
       rw [en] at ho
       cases EF.eq en
       obtain ⟨a,us,rfl,hh,r'⟩:=asL.rep r ex
       cases r'.ints
       exact ⟨a,ns,rfl,SqL.of hh,k _ _ H ho (show _=_ from rfl) (Kp.refl _ _) hs.ok⟩
noncomputable def Q6k (g:List Bool->Bool):List D->(D->Prop)->Prop
 | [x],P=>(asL x).elim False fun xs=>(HW xs).elim False fun ns=>P (.bl (g ns))
 | _,_=>False
theorem J5e {g:List Bool->Bool}:FT W (fun xs H Q=>∃ (p:Addr) (bs:List Bool),xs=[.ref p]/\SqL W.K H p (bs.map V.bl)/\Q (.bl (g bs)) H) (Q6k g):=by
 intro M b H xs vs P Q hs rx ho k
 match xs,ho with
 | [x],ho =>
   obtain ⟨v,rfl,r⟩:=rx1 rx
   simp only [Q6k] at ho
   cases ex:asL x with
   | none=>rw [ex] at ho;exact ho.elim
   | some xs =>
     rw [ex] at ho
     simp only [Option.elim] at ho
     cases en:HW xs with
     | none=>rw [en] at ho;exact ho.elim
     | some ns =>
       rw [en] at ho
       cases HW.eq en
       obtain ⟨a,us,rfl,hh,r'⟩:=asL.rep r ex
       cases r'.bls
       exact ⟨a,ns,rfl,SqL.of hh,k _ _ H ho (show _=_ from rfl) (Kp.refl _ _) hs.ok⟩
theorem EG (K:Fg)(h:X.K=K):DL X (.builtin "isinstance") (fun xs H Q=>∃ y c t b,xs=[y,.ty c]/\(TyOf K H y t\/∃ a vs,y=.ref a/\KTp K a vs/\t=.type "tuple")/\PySem.W.kitOne K t (.type c)=some b/\Q (.bl b) H):=by
 subst h
 intro pins s σ H xs us Q I rs q
 obtain ⟨y,c,t,b,rfl,ty,e,q⟩:=q
 rcases ty with ty|⟨a,vs,rfl,⟨o,its,n,hk,hc,hs,hz,r⟩,rfl⟩
 · exact VH pins s σ H _ us Q I rs ⟨y,c,t,b,rfl,ty,e,q⟩
 · obtain ⟨u1,u2,rfl,r1,r2⟩:=MW rs
   cases (show u2=Value.type c from r2)
   cases (show u1=Value.ref a from r1)
   refine PySem.W.kia_one PySem.W.kitx_tuple I.kIn ⟨o,I.kIn a o hk,hc⟩ e (fun z=>nomatch z) fun tk=>?_
   exact ⟨.bl b,H,I.tok _,rfl,q⟩
def LO:D->Option String
 | .non=>some "NoneType"
 | .bl _=>some "bool"
 | .int _=>some "int"
 | .str _=>some "str"
 | .lst _=>some "list"
 | .own _=>some "list"
 | .tup _=>some "tuple"
 | .frg _ (.lst _)=>some "list"
 | _=>none
def Q9q (K:Fg)(t c:String)(b:Bool):Prop:=PySem.W.kitOne K (.type t) (.type c)=some b
noncomputable def Q2c (K:Fg):List D->(D->Prop)->Prop
 | [x,.ty c],P=>match LO x with|some t=>∃ b,Q9q K t c b/\P (.bl b)|none=>False
 | _,_=>False
theorem GR:FT W (fun xs H Q=>∃ y c t b,xs=[y,.ty c]/\(TyOf W.K H y t\/∃ a vs,y=.ref a/\KTp W.K a vs/\t=.type "tuple")/\PySem.W.kitOne W.K t (.type c)=some b/\Q (.bl b) H) (Q2c W.K):=by
 intro M b H xs vs P Q hs rx ho k
 match xs,ho with
 | [x,.ty c],ho =>
   obtain ⟨v,u,rfl,r,r'⟩:=rx2 rx
   cases (show _=_ from r')
   simp only [Q2c] at ho
   split at ho
   case h_2=>exact ho.elim
   case h_1 t et =>
    obtain ⟨q,hq,hp⟩:=ho
    refine ⟨v,c,.type t,q,rfl,?_,hq,k _ _ H hp (show _=_ from rfl) (Kp.refl _ _) hs.ok⟩
    cases x<;>first|cases et|skip
    case non=>cases (show _=_ from r);exact .inl (.non)
    case bl=>cases (show _=_ from r);exact .inl (.bl _)
    case int=>cases (show _=_ from r);exact .inl (.int _)
    case str=>cases (show _=_ from r);exact .inl (.str _)
    case lst=>obtain ⟨a,us,rfl,hh,r'⟩:=r;exact .inl (.lst hh.2)
    case own=>obtain ⟨a,us,rfl,_,_,_,_,hh,r'⟩:=r;exact .inl (.lst hh)
    case frg f d =>
     cases d<;>first|cases et|skip
     case lst=>obtain ⟨a,us,rfl,hh,r'⟩:=r.2.2;exact .inl (.lst hh.2)
    case tup =>
     obtain ⟨a,us,rfl,hh,r'⟩:=r
     exact hh.elim (fun z=>.inl (.tup z.2)) fun z=>.inr ⟨a,us,rfl,z,rfl⟩
end
theorem Reps.plain {H:Hp}:∀ {ds:List D} {vs:List V},Reps K M H ds vs->ds.all plain=true
 | [],_,_=>rfl
 | d::ds,_,h=>by
   obtain ⟨v,r,rfl,h1,h2⟩:=h
   rw [List.all_cons,Reps.plain h2,Bool.and_true]
   cases d<;>first|rfl|exact h1.elim
theorem Reps.xs {W:Wd} {H:Hp}:∀ {ds:List D} {vs:List V},Reps W.K M H ds vs->RepXs W M b H ds vs
 | [],_,h=>h
 | d::ds,_,h=>by
   obtain ⟨v,r,rfl,h1,h2⟩:=h
   exact ⟨v,r,rfl,h1.x,Reps.xs h2⟩
def IW (W:Wd)(J:It)(need:List (D×V))(items:List D):Prop:=∀ M b H,Hs W M b H->(∀ q∈need,RepX W M b H q.1 q.2) ->
 (∀ (i:Nat) d,items[i]?=some d->J.go i H/\∀ x H3,J.yld i H x H3->Same H H3/\RepX W M b H3 d x)/\∀ i,items.length<=i->J.stop i H
def dnI (W:Wd)(fz:Bool)(di:DA):TI:=fun σ H R=>∃ pn M b ρ P,Sta W pn M b H σ ρ/\di ρ P/\∀ items J need H',P items->items.all plain=true->IW W J need items->(∀ q∈need,RepX W M b H' q.1 q.2/\(fz=true->plain q.1=true))->Kp b H H'->okB W.B b H'->R J H'
theorem dnI.elim {W:Wd}{fz:Bool}{d:DA}{σ:St}{H:Hp}{R:It->Hp->Prop}{Z:Prop}(h:dnI W fz d σ H R)(f:∀ pn M b ρ P,Sta W pn M b H σ ρ->d ρ P->(∀ items J need H',P items->items.all plain=true->IW W J need items->(∀ q∈need,RepX W M b H' q.1 q.2/\(fz=true->plain q.1=true))->Kp b H H'->okB W.B b H'->R J H')->Z):Z:=by
 obtain ⟨pn,M,b,ρ,P,st,h,k⟩:=h
 exact f pn M b ρ P st h k
section
variable {X:Cx}{W:Wd}{tg l e a b:Expr}{pos p:Pos}{d dl:DE}{dA:DA}{fz:Bool}
theorem PI.mono {t t':TI}(h:PI X tg l t)(m:∀ σ H R,t' σ H R->t σ H R):PI X tg l t':=fun pins s σ H R I q=>h pins s σ H R I (m σ H R q)
theorem Q1u {tl:TE}(K:Fg)(h:X.K=K)(hl:PE X l tl):PI X tg l (fun σ H R=>tl σ H fun x H1=>(∃ a,x=.ref a/\(∃ xs,SqL K H1 a xs)/\R (Itl K a) H1)\/(∃ a,x=.ref a/\(∃ xs,SqT K H1 a xs)/\R (Itt K a) H1)):=by
 subst h
 intro pins s σ H R I h
 refine thn (hl pins s σ H _ I h) fun v s1 ⟨x,H1,I1,r1,q1⟩=>?_
 rcases q1 with ⟨a,e,⟨xs,hq⟩,q⟩|⟨a,e,⟨xs,hq⟩,q⟩
 · subst e
   cases r1
   obtain ⟨its,rv,p,hz⟩:=I1.list hq
   refine wpAny_pyIter_list p.isList ?_
   refine ⟨s1.heap.objs.size,[s1.heap.objs.size],_,_,H1,rfl,I1.kept (t':=s1.toks) fun b o e=>B3 _ e,ZU a _,⟨_,Heap.get?_push_size _ rfl,rfl,rfl⟩,fun b hb=>?_,q⟩
   have e:b=s1.heap.objs.size:=by simpa using hb
   subst e
   exact I1.fpOk (Nat.le_refl _) (I1.hok.fresh (Nat.le_refl _))
 · subst e
   cases r1
   obtain ⟨its,rv,p,hz⟩:=I1.tuple hq
   refine wpAny_pyIter_tuple (show s1.heap.IsTuple a its.toArray from p) ?_
   refine ⟨s1.heap.objs.size,[s1.heap.objs.size],_,_,H1,rfl,I1.kept (t':=s1.toks) fun b o e=>B3 _ e,VU a _,⟨_,Heap.get?_push_size _ rfl,rfl,rfl⟩,fun b hb=>?_,q⟩
   have e:b=s1.heap.objs.size:=by simpa using hb
   subst e
   exact I1.fpOk (Nat.le_refl _) (I1.hok.fresh (Nat.le_refl _))
noncomputable def Q2w (fz:Bool)(dl:DE):DA:=fun ρ P=>dl ρ fun x=>match x with
 | .lst xs=>P xs
 | .tup xs=>P xs
 | .own xs=>fz=false/\P xs
 | _=>False
theorem J3m {x:D}{xs:List D}{a:Addr}(hx:asL x=some xs):IW W (Itl W.K a) [(x,.ref a)] xs:=by
 intro M b H hs hn
 obtain ⟨a',vs,e,hh,r⟩:=asL.rep (hn _ (List.mem_singleton.mpr rfl)) hx
 cases e
 refine ⟨fun i d e=>?_,fun i hi=>⟨vs,SqL.of hh,by rw [r.length];exact hi⟩⟩
 obtain ⟨v,e1,r1⟩:=r.get e
 refine ⟨⟨vs,v,SqL.of hh,e1⟩,fun y H3 ⟨eH,hy⟩=>?_⟩
 subst eH
 have:=hy vs (SqL.of hh)
 rw [e1] at this;cases this
 exact ⟨Same.refl _,r1.x⟩
theorem Q2t {xs:List D}{a:Addr}:IW W (Itt W.K a) [(.tup xs,.ref a)] xs:=by
 intro M b H hs hn
 obtain ⟨a',vs,e,hh,r⟩:=hn _ (List.mem_singleton.mpr rfl)
 cases e
 refine ⟨fun i d e=>?_,fun i hi=>⟨vs,hh.sq,by rw [r.length];exact hi⟩⟩
 obtain ⟨v,e1,r1⟩:=r.get e
 refine ⟨⟨vs,v,hh.sq,e1⟩,fun y H3 ⟨eH,hy⟩=>?_⟩
 subst eH
 have:=hy vs (hh.sq)
 rw [e1] at this;cases this
 exact ⟨Same.refl _,r1.x⟩
theorem J2y {b:Option Addr}{H:Hp}{x:D}{v:V}(r:RepX W M b H x v)(h:fz=true->plain x=true):∀ q∈[(x,v)],RepX W M b H q.1 q.2/\(fz=true->plain q.1=true):=fun q hq=>by
 have e:=List.mem_singleton.mp hq
 subst e
 exact ⟨r,h⟩
theorem Q3l (hK:X.K=W.K)(hl:PE X l (dn W dl)):PI X tg l (dnI W fz (Q2w fz dl)):=(Q1u W.K hK hl).mono fun σ H R hh=>hh.elim fun pn M b ρ P st h k=>by
 refine ⟨pn,M,b,ρ,_,st,h,fun x v H1 hx rx k1 o1=>?_⟩
 cases x<;>first|exact hx.elim|skip
 case lst xs =>
  obtain ⟨a,vs,rfl,hh,r⟩:=(show RepX W M b H1 (.lst xs) v from rx)
  exact .inl ⟨a,rfl,⟨vs,SqL.of hh.2⟩,k xs _ _ H1 hx r.plain (J3m (x:=.lst xs) rfl) (J2y rx fun _=>rfl) k1 o1⟩
 case tup xs =>
  obtain ⟨a,vs,rfl,hh,r⟩:=(show RepX W M b H1 (.tup xs) v from rx)
  exact .inr ⟨a,rfl,⟨vs,hh.sq⟩,k xs _ _ H1 hx r.plain Q2t (J2y rx fun _=>rfl) k1 o1⟩
 case own xs =>
  obtain ⟨a,vs,rfl,m1,m2,m3,m4,hh,r⟩:=(show RepX W M b H1 (.own xs) v from rx)
  exact .inl ⟨a,rfl,⟨vs,SqL.of hh⟩,k xs _ _ H1 hx.2 r.plain (J3m (x:=.own xs) rfl) (J2y rx fun z=>by rw [hx.1] at z;cases z) k1 o1⟩
def Y4 (lo:Int)(n:Nat):List D:=(List.range n).map fun (i:Nat)=>.int (lo+i)
theorem KP (lo:Int)(n:Nat):(Y4 lo n).all plain=true:=by
 simp [Y4,plain]
theorem UX {lo:Int}{n:Nat}:IW W (Itr lo n) [] (Y4 lo n):=by
 intro M b H hs _
 refine ⟨fun i d e=>?_,fun i hi=>by show n<=i;simpa [Y4] using hi⟩
 have hi:i<n:=by
  have:=(List.getElem?_eq_some_iff.mp e).1
  simpa [Y4] using this
 refine ⟨hi,fun x H3 ⟨eH,ex⟩=>?_⟩
 subst eH ex
 refine ⟨Same.refl _,?_⟩
 simp [Y4,hi] at e
 subst e
 exact (show _=_ from rfl)
noncomputable def YT (dA:DA):DA:=fun ρ P=>dA ρ fun xs=>match xs with
 | [.int j]=>(-(2 ^ 62)<=j/\j<2 ^ 62)/\P (Y4 0 j.toNat)
 | _=>False
noncomputable def Q8d (dA:DA):DA:=fun ρ P=>dA ρ fun xs=>match xs with
 | [.int i,.int j]=>(-(2 ^ 62)<=i/\i<2 ^ 62/\-(2 ^ 62)<=j/\j<2 ^ 62)/\P (Y4 i (j - i).toNat)
 | _=>False
theorem J0w (hg:Gl X "range") (hm:X.mg "range" = none) (ha:PA X [a] (dnA W dA)) (hs:starEach [a] X.env=[(false,eval a X.env)]:=by rfl):PI X tg (.Call (.Name "range" p) [a] [] pos) (dnI W fz (YT dA)):=(QT hg hm ha hs).mono fun σ H R hh=>hh.elim fun pn M b ρ P st h k=>by
 refine ⟨pn,M,b,ρ,_,st,h,fun xs vs H1 hx rx k1 o1=>?_⟩
 match xs,hx with
 | [.int j],hx =>
   obtain ⟨v,rfl,r⟩:=rx1 rx
   cases (show _=_ from r)
   exact ⟨j,rfl,hx.1.1,hx.1.2,k _ _ _ H1 hx.2 (KP _ _) UX (fun q hq=>by cases hq) k1 o1⟩
def asK (fz t:Bool):D->Option (List D)
 | .tup xs=>if t then some xs else none
 | .lst xs=>if t then none else some xs
 | .own xs=>if t||fz then none else some xs
 | _=>none
theorem asK.rep {b:Option Addr}{H:Hp}{t:Bool}{x:D}{v:V}{xs:List D}(h:RepX W M b H x v)(e:asK fz t x=some xs):(∃ a vs,v=.ref a/\SqX W.K t H a vs/\Reps W.K M H xs vs)/\(fz=true->plain x=true):=by
 cases x<;>first|cases e|skip
 case lst =>
  obtain ⟨a,vs,rfl,hh,r⟩:=h
  cases t<;>cases e
  exact ⟨⟨a,vs,rfl,SqL.of hh.2,r⟩,fun _=>rfl⟩
 case own =>
  obtain ⟨a,vs,rfl,_,_,_,_,hh,r⟩:=h
  cases t<;>cases fz<;>cases e
  exact ⟨⟨a,vs,rfl,SqL.of hh,r⟩,fun z=>by cases z⟩
 case tup =>
  obtain ⟨a,vs,rfl,hh,r⟩:=h
  cases t<;>cases e
  exact ⟨⟨a,vs,rfl,hh.sq,r⟩,fun _=>rfl⟩
def TU (xs ys:List D):List D:=List.zipWith (fun x y=>.tup [x,y]) xs ys
noncomputable def J9z (fz t1 t2:Bool)(dA:DA):DA:=fun ρ P=>dA ρ fun zs=>match zs with
 | [x,y]=>(match asK fz t1 x,asK fz t2 y with|some xs,some ys=>xs.length<=ys.length/\P (TU xs ys)|_,_=>False)
 | _=>False
theorem NR:∀ (xs ys:List D),(TU xs ys).all plain=true
 | [],_=>rfl
 | _::_,[]=>rfl
 | x::xs,y::ys=>by
   show (plain (.tup [x,y])&&(TU xs ys).all plain)=true
   rw [NR xs ys];rfl
theorem Q2s {t1 t2:Bool}{x y:D}{xs ys:List D}{l1 l2:Addr}(h1:asK fz t1 x=some xs)(h2:asK fz t2 y=some ys)(hl:xs.length<=ys.length):IW W (Q4z W.K t1 t2 l1 l2) [(x,.ref l1),(y,.ref l2)] (TU xs ys):=by
 intro M b H hs hn
 obtain ⟨⟨a1,us,e1,q1,r1⟩,_⟩:=asK.rep (hn _ (.head _)) h1
 obtain ⟨⟨a2,ws,e2,q2,r2⟩,_⟩:=asK.rep (hn _ (.tail _ (.head _))) h2
 cases e1
 cases e2
 have hlen:(TU xs ys).length=xs.length:=by simp [TU];omega
 refine ⟨fun i d e=>?_,fun i hi=>⟨⟨us,q1,by rw [r1.length,<- hlen];exact hi⟩,⟨ws,q2⟩⟩⟩
 have hi:i<xs.length:=by rw [<- hlen];exact (List.getElem?_eq_some_iff.mp e).1
 obtain ⟨u,eu,ru⟩:=r1.get (List.getElem?_eq_getElem hi)
 obtain ⟨w,ew,rw'⟩:=r2.get (List.getElem?_eq_getElem (Nat.lt_of_lt_of_le hi hl))
 refine ⟨⟨us,ws,u,w,q1,eu,q2,ew⟩,fun v H3 ⟨t,y1,y2,ev,ht,eH,k1,k2⟩=>?_⟩
 subst ev eH
 have z1:=k1 us q1
 have z2:=k2 ws q2
 rw [eu] at z1;cases z1
 rw [ew] at z2;cases z2
 refine ⟨Same.upd ht,?_⟩
 have ed:d=.tup [xs[i],ys[i]'(Nat.lt_of_lt_of_le hi hl)]:=by
  have:(TU xs ys)[i]?=some (.tup [xs[i],ys[i]'(Nat.lt_of_lt_of_le hi hl)]):=by
   simp [TU,List.getElem?_zipWith,hi,Nat.lt_of_lt_of_le hi hl]
  rw [this] at e;exact (Option.some.inj e).symm
 subst ed
 exact EZ hs ⟨u,[w],rfl,ru,w,[],rfl,rw',rfl⟩ ht
theorem Q3k {elts:List Expr}{c1}{tpos:Pos}(hK:X.K=W.K)(t1 t2:Bool)(hg:Gl X "zip") (hm:X.mg "zip" = none) (ha:PA X [a,b] (dnA W dA))
 (h:PI X (.Tuple elts c1 tpos) (.Call (.Name "zip" p) [a,b] [] pos) (J3r W.K t1 t2 (dnA W dA))):PI X (.Tuple elts c1 tpos) (.Call (.Name "zip" p) [a,b] [] pos) (dnI W fz (J9z fz t1 t2 dA)):=h.mono fun σ H R hh=>hh.elim fun pn M b ρ P st h k=>by
 refine ⟨pn,M,b,ρ,_,st,h,fun zs vs H1 hx rx k1 o1=>?_⟩
 match zs,hx with
 | [x,y],hx =>
   obtain ⟨v,u,rfl,r,r'⟩:=rx2 rx
   dsimp only at hx
   split at hx
   case h_2=>exact hx.elim
   case h_1 xs ys e1 e2 =>
    obtain ⟨⟨a1,us,z1,q1,r1⟩,f1⟩:=asK.rep r e1
    obtain ⟨⟨a2,ws,z2,q2,r2⟩,f2⟩:=asK.rep r' e2
    subst z1 z2
    refine ⟨a1,a2,rfl,⟨us,q1⟩,⟨ws,q2⟩,k _ _ _ H1 hx.2 (NR _ _) (Q2s e1 e2 hx.1) (fun q hq=>?_) k1 o1⟩
    rcases List.mem_cons.mp hq with z|z
    · subst z;exact ⟨r,f1⟩
    · have z:=List.mem_singleton.mp z
      subst z;exact ⟨r',f2⟩
end
def GD (W:Wd)(g:TG)(gd:D->Ev->(Ev->Prop)->Prop):Prop:=∀ pn M b H σ ρ x v Q P,Sta W pn M b H σ ρ->RepX W M b H x v->plain x=true->gd x ρ P->(∀ ρ' σ',P ρ'->Sta W pn M b H σ' ρ'->(∀ (i:Nat) d,mine d=true->ρ'[i]?=some (some d)->ρ[i]?=some (some d)/\σ'[i]?=σ[i]?)->Q σ' H)->g v σ H Q
theorem Sta.set {W:Wd}{pn:List (D×V)} {H:Hp}{σ:St}{ρ:Ev}{x:D}{v:V}(s:Sta W pn M b H σ ρ)(j:Nat)(r:RepX W M b H x v):Sta W pn M b H (σ.set j (some v)) (ρ.set j (some x)) where
 toHs:=s.toHs
 kp:=s.kp
 new:=s.new
 len:=by simp [s.len]
 pin:=s.pin
 env:=fun i d e=>by
  by_cases z:j=i
  · subst z
    rw [List.getElem?_set] at e
    simp at e
    obtain ⟨hl,rfl⟩:=e
    exact ⟨v,by rw [List.getElem?_set];simp [<- s.len,hl],r⟩
  · rw [List.getElem?_set_ne z] at e
    obtain ⟨w,e1,r1⟩:=s.env i d e
    exact ⟨w,by rw [List.getElem?_set_ne z];exact e1,r1⟩
theorem KR {ρ:Ev}{σ:St}{j:Nat}{x:D}{v:V}(p:plain x=true):∀ (i:Nat) d,mine d=true->(ρ.set j (some x))[i]?=some (some d)->ρ[i]?=some (some d)/\(σ.set j (some v))[i]?=σ[i]?:=fun i d hm e=>by
 by_cases z:j=i
 · subst z
   rw [List.getElem?_set] at e
   simp at e
   obtain ⟨hl,rfl⟩:=e
   cases x<;>first|(cases hm;done)|(cases p;done)
 · rw [List.getElem?_set_ne z] at e
   exact ⟨e,by rw [List.getElem?_set_ne z]⟩
def gdN (j:Nat):D->Ev->(Ev->Prop)->Prop:=fun x ρ P=>P (ρ.set j (some x))
theorem Y8 {W:Wd}(j:Nat):GD W (UZ j) (gdN j):=fun pn M b H σ ρ x v Q P st r p h k=>k _ _ h (st.set j r) (KR p)
def NV:List Nat->List D->Ev->Ev
 | j::js,x::xs,ρ=>NV js xs (ρ.set j (some x))
 | _,_,ρ=>ρ
noncomputable def IR:List Nat->TGs
 | []=>Q6s
 | j::js=>Q0c (UZ j) (IR js)
noncomputable def Q6r (K:Fg)(n:Nat)(t:TGs):TG:=fun v σ H Q=>Q2y K n t v σ H Q\/Q6t K n t v σ H Q
def gdU (js:List Nat):D->Ev->(Ev->Prop)->Prop:=fun x ρ P=>match x with
 | .tup xs=>xs.length=js.length/\P (NV js xs ρ)
 | .lst xs=>xs.length=js.length/\P (NV js xs ρ)
 | _=>False
theorem OY {W:Wd}{pn:List (D×V)} {H:Hp}{Q:St->Hp->Prop}{P:Ev->Prop}:∀ (js:List Nat) (xs:List D) (vs:List V) (σ:St) (ρ:Ev),Sta W pn M b H σ ρ->Reps W.K M H xs vs->xs.length=js.length->P (NV js xs ρ)->(∀ ρ' σ',P ρ'->Sta W pn M b H σ' ρ'->(∀ (i:Nat) d,mine d=true->ρ'[i]?=some (some d)->ρ[i]?=some (some d)/\σ'[i]?=σ[i]?)->Q σ' H)->IR js vs σ H Q
 | [],[],vs,σ,ρ,st,r,hl,h,k=>⟨r,k _ _ h st fun _ _ _ e=>⟨e,rfl⟩⟩
 | j::js,x::xs,vs,σ,ρ,st,r,hl,h,k=>by
   obtain ⟨v,us,rfl,r1,r2⟩:=r
   refine ⟨v,us,rfl,?_⟩
   have p:plain x=true:=by cases x<;>first|rfl|exact r1.elim
   refine OY js xs us _ (ρ.set j (some x)) (st.set j r1.x) r2 (by simpa using hl) h fun ρ' σ' hp st' ho=>k ρ' σ' hp st' fun i xs hm e=>?_
   obtain ⟨z1,z2⟩:=ho i xs hm e
   obtain ⟨z3,z4⟩:=KR (v:=v) (σ:=σ) p i xs hm z1
   exact ⟨z3,z2.trans z4⟩
theorem AW {W:Wd}(js:List Nat):GD W (Q6r W.K js.length (IR js)) (gdU js):=fun pn M b H σ ρ x v Q P st r p h k=>by
 cases x<;>first|exact h.elim|skip
 case tup xs =>
  obtain ⟨a,vs,rfl,hh,r⟩:=r
  exact .inl ⟨a,vs,rfl,hh.sq,by rw [r.length];exact h.1,OY js xs vs σ ρ st r h.1 h.2 k⟩
 case lst xs =>
  obtain ⟨a,vs,rfl,hh,r⟩:=r
  exact .inr ⟨a,vs,rfl,SqL.of hh.2,by rw [r.length];exact h.1,OY js xs vs σ ρ st r h.1 h.2 k⟩
theorem PG.or {X:Cx}{tg:Expr}{t u:TG}(h:PG X tg t)(h':PG X tg u):PG X tg (fun v σ H Q=>t v σ H Q\/u v σ H Q):=by
 intro pins s σ H v u' Q I r q
 rcases q with q|q
 · exact h pins s σ H v u' Q I r q
 · exact h' pins s σ H v u' Q I r q
theorem gkeep_seq {js:List Nat}{n:Nat}{map:List (Option Nat)}(hj:∀ j∈js,map[j]?=some none):LN (Q6r K n (IR js)) map:=by
 have key:∀ (js:List Nat),(∀ j∈js,map[j]?=some none)->∀ vs σ H Q,IR js vs σ H Q->IR js vs σ H fun σ' H'=>(σ'.length=σ.length/\∀ j i:Nat,map[j]?=some (some i)->σ'[j]?=σ[j]?)/\Q σ' H':=by
  intro js
  induction js with
  | nil=>intro _ vs σ H Q h;exact ⟨h.1,⟨rfl,fun _ _ _=>rfl⟩,h.2⟩
  | cons j js ih =>
    intro hj vs σ H Q h
    obtain ⟨v,r,e,h⟩:=h
    refine ⟨v,r,e,?_⟩
    have q:=ih (fun j' m=>hj j' (.tail _ m)) r _ H _ h
    have mono:∀ (js:List Nat) vs σ H (Q Q':St->Hp->Prop),(∀ s h,Q s h->Q' s h)->IR js vs σ H Q->IR js vs σ H Q':=by
     intro js
     induction js with
     | nil=>intro vs σ H Q Q' m h;exact ⟨h.1,m _ _ h.2⟩
     | cons j js ih=>intro vs σ H Q Q' m ⟨v,r,e,h⟩;exact ⟨v,r,e,ih _ _ _ _ _ m h⟩
    refine mono js r _ H _ _ (fun s h ⟨⟨l,z⟩,w⟩=>⟨⟨by rw [l];simp,fun j' i hm=>?_⟩,w⟩) q
    rw [z j' i hm]
    have n1:j≠j':=fun z=>by
     have:=hj j (.head _)
     rw [z,hm] at this;cases this
    rw [List.getElem?_set_ne n1]
 intro v σ H Q h
 rcases h with ⟨a,xs,e,s,l,h⟩|⟨a,xs,e,s,l,h⟩
 · exact .inl ⟨a,xs,e,s,l,key js hj _ _ _ _ h⟩
 · exact .inr ⟨a,xs,e,s,l,key js hj _ _ _ _ h⟩
def EX (ρ:Ev)(map:List (Option Nat)):Ev:=map.map fun o=>o.bind fun i=>(ρ[i]?).join
noncomputable def SV (gd:D->Ev->(Ev->Prop)->Prop)(dt:DT)(de:DE)(ρc:Ev):List D->List D->(List D->Prop)->Prop
 | [],acc,P=>P acc
 | x::xs,acc,P=>gd x ρc fun ρ1=>dt ρ1 fun c=>IfP c (de ρ1 fun y=>plain y=true/\SV gd dt de ρc xs (acc++[y]) P) (SV gd dt de ρc xs acc P)
inductive compI (gd:D->Ev->(Ev->Prop)->Prop)(dt:DT)(de:DE)(ρc:Ev)(items:List D)(P:List D->Prop):Prop
 | mk (I:Nat->List D->Prop) (h0:I 0 []) (hs:∀ (i:Nat) x acc,items[i]?=some x->I i acc->gd x ρc fun ρ1=>dt ρ1 fun c=>IfP c (de ρ1 fun y=>plain y=true/\I (i+1) (acc++[y])) (I (i+1) acc)) (hd:∀ acc,I items.length acc->P acc):compI gd dt de ρc items P
theorem J4u {gd:D->Ev->(Ev->Prop)->Prop}{dt:DT}{de:DE}{ρc:Ev}{items:List D}{P:List D->Prop}(h:SV gd dt de ρc items [] P):compI gd dt de ρc items P:=by
 refine ⟨fun i acc=>SV gd dt de ρc (items.drop i) acc P,h,fun i x acc e q=>?_,fun acc q=>?_⟩
 · obtain ⟨hlt,rfl⟩:=List.getElem?_eq_some_iff.mp e
   try dsimp only at q
   rw [List.drop_eq_getElem_cons hlt] at q
   exact q
 · (try dsimp only at q);rw [List.drop_length] at q;exact q
noncomputable def J4q (map:List (Option Nat))(gd:D->Ev->(Ev->Prop)->Prop)(di:DA)(dt:DT)(de:DE):DE:=fun ρ P=>di ρ fun items=>items.length<=1000/\compI gd dt de (EX ρ map) items fun acc=>P (.lst acc)
theorem Sta.capt {W:Wd}{pn:List (D×V)} {H:Hp}{σ:St}{ρ:Ev}(s:Sta W pn M b H σ ρ)(map:List (Option Nat)):Sta W pn M b H (capt σ map) (EX ρ map) where
 toHs:=s.toHs
 kp:=s.kp
 new:=s.new
 len:=by simp [L2.capt,EX]
 pin:=s.pin
 env:=fun j d e=>by
  unfold EX at e
  rw [List.getElem?_map] at e
  simp only [Option.map_eq_some_iff] at e
  obtain ⟨o,e1,e2⟩:=e
  simp only [Option.bind_eq_some_iff] at e2
  obtain ⟨i,rfl,e3⟩:=e2
  have e4:ρ[i]?=some (some d):=by
   cases q:ρ[i]? with
   | none=>rw [q] at e3;cases e3
   | some z=>rw [q] at e3;exact congrArg some e3
  obtain ⟨v,e5,r⟩:=s.env i d e4
  exact ⟨v,by unfold L2.capt;rw [List.getElem?_map,e1];simp [e5],r⟩
theorem JY {W:Wd}{pn:List (D×V)}{M:Addr->Prop}{b:Option Addr}{H:Hp}{σ:St}{ρ:Ev}{J:It}{need:List (D×V)}{items:List D}{g:TG}{gd:D->Ev->(Ev->Prop)->Prop}{dt:DT}{de:DE}{P:List D->Prop}{Fin:List V->Hp->Prop}
 (hG:GD W g gd) (st:Sta W pn M b H σ ρ) (hp:items.all plain=true) (hI:IW W J need items) (hn:∀ q∈need,RepX W M b H q.1 q.2) (hl:items.length<=1000) (h:compI gd dt de ρ items P)
 (fin:∀ ds acc H',P ds->Reps W.K M H' ds acc->acc.length<=sizeLine->Kp b H H'->okB W.B b H'->Fin acc H'):∃ Wf:Nat->Nat->List V->Hp->Prop,(∃ m,Wf 0 m [] H)/\PQ J g (dnT W dt) (dn W de) σ Fin Wf:=by
 obtain ⟨I,i0,istep,idone⟩:=h
 refine ⟨fun i m acc H2=>m=items.length - i/\i<=items.length/\acc.length<=i/\Kp b H H2/\okB W.B b H2/\∃ ds,Reps W.K M H2 ds acc/\I i ds,⟨items.length,by simp,Nat.zero_le _,Nat.le_refl _,Kp.refl _ _,st.ok,[],rfl,i0⟩,?_⟩
 rintro i m acc H2 ⟨rfl,hi,ha,k2,o2,ds,r,q⟩
 have st2:=st.step k2 o2
 obtain ⟨hgo,hstop⟩:=hI M b H2 st2.toHs fun q hq=>(hn q hq).step st.bagM k2
 by_cases hlt:i<items.length
 · have ei:items[i]?=some items[i]:=List.getElem?_eq_getElem hlt
   replace q:=istep i _ ds ei q
   refine .inr ⟨(hgo i _ ei).1,by have:=AF;omega,fun acc' H'=>acc'.length<=i+1/\Kp b H H'/\okB W.B b H'/\∃ ds,Reps W.K M H' ds acc'/\I (i+1) ds,fun acc' H' n=>⟨items.length - (i+1),by omega,rfl,hlt,n⟩,fun x H3 y=>?_⟩
   obtain ⟨S3,rx⟩:=(hgo i _ ei).2 x H3 y
   have o3:okB W.B b H3:=fun p e=>W.B.st p H2 H3 (o2 p e) fun o e'=>S3 p o e'
   have k3:Kp b H2 H3:=Kp.same S3
   have st3:=st2.step k3 o3
   refine hG pn M b H3 σ ρ items[i] x _ _ st3 rx (List.all_eq_true.mp hp _ (List.getElem_mem hlt)) q fun ρ1 σ1 h1 st4 _=>?_
   refine ⟨pn,M,b,ρ1,_,st4,h1,fun c H5 h5 k5 o5=>?_⟩
   cases h5 with
   | t e h5 =>
     rw [if_pos e]
     refine ⟨pn,M,b,ρ1,_,st4.step k5 o5,h5,fun y v H6 h6 ry k6 o6=>?_⟩
     have kk:=((k3.trans k5).trans k6)
     refine ⟨by simp;omega,k2.trans kk,o6,ds++[y],Reps.append (Reps.keep (fun c o n e=>kk c o (fun z=>n (st.bagM c z)) e) _ _ r) ⟨v,[],rfl,ry.rep h6.1,rfl⟩,h6.2⟩
   | f e h5 =>
     rw [if_neg (by rw [e];exact Bool.false_ne_true)]
     have kk:=k3.trans k5
     exact ⟨by omega,k2.trans kk,o5,ds,Reps.keep (fun c o n e=>kk c o (fun z=>n (st.bagM c z)) e) _ _ r,h5⟩
 · have e:i=items.length:=by omega
   subst e
   exact .inl ⟨hstop _ (Nat.le_refl _),by have:=AF;omega,fin ds acc H2 (idone _ q) r (by have:=AF;omega) k2 o2⟩
section
variable {X:Cx}{W:Wd}{elt iter tg:Expr}{ifs:List Expr}{scope:Scope}{pos:Pos}{N':List Str}{map:List (Option Nat)}{g:TG}{gd:D->Ev->(Ev->Prop)->Prop}{di:DA}{dt:DT}{de:DE}
theorem J8r (hG:GD W g gd)(B:Blk X N' scope map tg elt ifs g (dnT W dt) (dn W de))(hi:PI X tg iter (dnI W false di))(hs:∀ x,foldedSetIterable iter X.env x=pure x:=by intro _;rfl):PE X (.ListComp elt [⟨tg,iter,ifs,0⟩] scope pos) (dn W (J4q map gd di dt de)):=(NL B hi hs).mono fun σ H Q hh=>hh.elim fun pn M b ρ P st h k=>by
 refine ⟨pn,M,b,ρ,_,st,h,fun items J need H1 hx hp hI hn k1 o1=>?_⟩
 have st1:=st.step k1 o1
 refine JY hG (st1.capt map) hp hI (fun q hq=>(hn q hq).1) hx.1 hx.2 fun ds acc H' hP r hl k2 o2 D hD=>?_
 exact k _ _ _ hP (DH (st1.step k2 o2).toHs r hD) ((k1.trans k2).trans (Kp.upd hD)) ((st1.step k2 o2).okU hD)
noncomputable def QZ:DT:=fun _ P=>P true
theorem J8p:PIf X [] (dnT W QZ):=fun pins s σ H Q I hh=>hh.elim fun pn M b ρ P st h k=>YG pins s σ H Q I (k true H h (Kp.refl _ _) st.ok)
theorem J8o {c:Expr}(hc:PT X c (dnT W dt)):PIf X [c] (dnT W dt):=J6y hc
end
structure StS (W:Wd)(pn:List (D×V))(M:Addr->Prop)(b:Option Addr)(H:Hp)(σ:St)(ρ:Ev):Prop extends Sta W pn M b H σ ρ where
 dj:∀ (i j:Nat) d e v u c,ρ[i]?=some (some d)->ρ[j]?=some (some e)->σ[i]?=some (some v)->σ[j]?=some (some u)->GO d v c->GO e u c->i=j
 lj:∀ ys a,(D.own ys,V.ref a)∈pn->∀ (i:Nat) d v,ρ[i]?=some (some d)->σ[i]?=some (some v)->¬ GO d v a
theorem StS.own {W:Wd}{pn:List (D×V)} {H:Hp}{σ:St}{ρ:Ev}(s:StS W pn M b H σ ρ):∀ (i j:Nat) xs ys a,ρ[i]?=some (some (.own xs))->ρ[j]?=some (some (.own ys))->σ[i]?=some (some (.ref a))->σ[j]?=some (some (.ref a))->i=j:=fun i j xs ys a e1 e2 e3 e4=>s.dj i j _ _ _ _ a e1 e2 e3 e4 rfl rfl
theorem StS.lk {W:Wd}{pn:List (D×V)} {H:Hp}{σ:St}{ρ:Ev}(s:StS W pn M b H σ ρ):∀ ys a,(D.own ys,V.ref a)∈pn->∀ (i:Nat) xs,ρ[i]?=some (some (.own xs))->σ[i]?≠some (some (.ref a)):=fun ys a hq i xs e y=>s.lj ys a hq i _ _ e y rfl
theorem StS.step {W:Wd}{pn:List (D×V)} {H H':Hp}{σ:St}{ρ:Ev}(s:StS W pn M b H σ ρ)(k:Kp b H H')(o:okB W.B b H'):StS W pn M b H' σ ρ:=⟨s.toSta.step k o,s.dj,s.lj⟩
theorem StS.of2 {W:Wd}{pn pn':List (D×V)}{M M':Addr->Prop}{b b':Option Addr}{H H':Hp}{σ σ':St}{ρ ρ':Ev}(s:StS W pn M b H σ ρ)(t:Sta W pn' M' b' H' σ' ρ')(hp:∀ ys a,(D.own ys,V.ref a)∈pn'->(D.own ys,V.ref a)∈pn)(h:∀ (i:Nat) d v c,ρ'[i]?=some (some d)->σ'[i]?=some (some v)->GO d v c->∃ d0,ρ[i]?=some (some d0)/\σ[i]?=some (some v)/\GO d0 v c):StS W pn' M' b' H' σ' ρ' :=
 ⟨t,fun i j d e v u c e1 e2 e3 e4 m1 m2=>by
  obtain ⟨d0,z1,z2,z3⟩:=h i d v c e1 e3 m1
  obtain ⟨d1,y1,y2,y3⟩:=h j e u c e2 e4 m2
  exact s.dj i j d0 d1 v u c z1 y1 z2 y2 z3 y3,fun ys a hq i d v e1 e2 m=>by
  obtain ⟨d0,z1,z2,z3⟩:=h i d v a e1 e2 m
  exact s.lj ys a (hp ys a hq) i d0 v z1 z2 z3⟩
theorem StS.of {W:Wd}{pn:List (D×V)}{M M':Addr->Prop}{b b':Option Addr}{H H':Hp}{σ σ':St}{ρ ρ':Ev}(s:StS W pn M b H σ ρ)(t:Sta W pn M' b' H' σ' ρ')(h:∀ (i:Nat) d,mine d=true->ρ'[i]?=some (some d)->ρ[i]?=some (some d)/\σ'[i]?=σ[i]?):StS W pn M' b' H' σ' ρ' :=
 s.of2 t (fun _ _ q=>q) fun i d v c e1 e2 m=>by
  obtain ⟨z1,z2⟩:=h i d m.m e1
  exact ⟨d,z1,z2▸e2,m⟩
theorem StS.add {W:Wd}{pn:List (D×V)}{M M':Addr->Prop}{b b':Option Addr}{H H':Hp}{σ:St}{ρ:Ev}(s:StS W pn M b H σ ρ)(i:Nat){d:D}{v:V}(t:Sta W pn M' b' H' (σ.set i (some v)) (ρ.set i (some d)))(h:∀ c,GO d v c->¬ M c):StS W pn M' b' H' (σ.set i (some v)) (ρ.set i (some d)):=by
 have slot:∀ (j:Nat) e u,(ρ.set i (some d))[j]?=some (some e)->(σ.set i (some v))[j]?=some (some u)->(j=i/\e=d/\u=v)\/(j≠i/\ρ[j]?=some (some e)/\σ[j]?=some (some u)):=fun j e u e1 e2=>by
  by_cases z:i=j
  · subst z
    rw [List.getElem?_set] at e1 e2
    simp at e1 e2
    exact .inl ⟨rfl,e1.2.symm,e2.2.symm⟩
  · rw [List.getElem?_set_ne z] at e1 e2
    exact .inr ⟨fun y=>z y.symm,e1,e2⟩
 have old:∀ (j:Nat) e u c,ρ[j]?=some (some e)->σ[j]?=some (some u)->GO e u c->M c:=fun j e u c e1 e2 m=>by
  obtain ⟨w,e3,r⟩:=s.env j e e1
  rw [e2] at e3;cases e3
  exact (r.mine m).1
 refine ⟨t,fun j k e f u w c e1 e2 e3 e4 m1 m2=>?_,fun ys a hq j e u e1 e2 m=>?_⟩
 · rcases slot j e u e1 e3 with ⟨z1,z2,z3⟩|⟨z1,z2,z3⟩<;>rcases slot k f w e2 e4 with ⟨y1,y2,y3⟩|⟨y1,y2,y3⟩
   · rw [z1,y1]
   · subst z2 z3;exact absurd (old k f w c y2 y3 m2) (h c m1)
   · subst y2 y3;exact absurd (old j e u c z2 z3 m1) (h c m2)
   · exact s.dj j k e f u w c z2 y2 z3 y3 m1 m2
 · rcases slot j e u e1 e2 with ⟨z1,z2,z3⟩|⟨z1,z2,z3⟩
   · subst z2 z3
     obtain ⟨a2,us2,ev,n1,_⟩:=(s.pin _ hq)
     cases ev
     exact absurd n1 (h a m)
   · exact s.lj ys a hq j e u z2 z3 m
structure DEnds where
 nx:Ev->Prop
 rt:D->Prop
 bk:Ev->Prop:=fun _=>False
 ct:Ev->Prop:=fun _=>False
 ro:List D->Prop:=fun _=>False
abbrev DS:=DEnds->Ev->Prop
structure Link (W:Wd)(pn:List (D×V))(E:Ends)(F:DEnds):Prop where
 nx:∀ M b ρ σ H,StS W pn M b H σ ρ->F.nx ρ->E.nx σ H
 rt:∀ d v H,F.rt d->Rep W.K W.M0 H d v->Kp W.b0 W.H0 H->okB W.B W.b0 H->E.rt v H
 bk:∀ M b ρ σ H,StS W pn M b H σ ρ->F.bk ρ->E.bk σ H
 ct:∀ M b ρ σ H,StS W pn M b H σ ρ->F.ct ρ->E.ct σ H
 ro:∀ xs a vs H,F.ro xs->W.H0 a=none->¬ W.M0 a->H a=some (.lst vs)->Reps W.K (fun c=>W.M0 c\/c=a) H xs vs->Kp W.b0 W.H0 H->okB W.B W.b0 H->E.rt (.ref a) H
def sn (W:Wd)(d:DS):TS:=fun E σ H=>∃ pn M b ρ F,StS W pn M b H σ ρ/\Link W pn E F/\d F ρ
theorem sn.elim {W:Wd}{d:DS}{E:Ends}{σ:St}{H:Hp}{Z:Prop}(h:sn W d E σ H)(f:∀ pn M b ρ F,StS W pn M b H σ ρ->Link W pn E F->d F ρ->Z):Z:=by
 obtain ⟨pn,M,b,ρ,F,s,l,h⟩:=h
 exact f pn M b ρ F s l h
section
variable {X:Cx}{W:Wd}{e a b c tg iter l:Expr}{es:List Expr}{pos p:Pos}{d db de:DE}{dA di:DA}{dt:DT}{st:Stmt}{rest sts:List Stmt}{d1 d2:DS}{t:TS}
theorem PS.mono {t':TS}(h:PS X st t)(m:∀ E σ H,t' E σ H->t E σ H):PS X st t':=fun pins s σ H D I q=>h pins s σ H D I (m D σ H q)
theorem PSs.mono {t':TS}(h:PSs X sts t)(m:∀ E σ H,t' E σ H->t E σ H):PSs X sts t':=fun pins s σ H D I q=>h pins s σ H D I (m D σ H q)
noncomputable def J4o:DS:=fun F ρ=>F.nx ρ
noncomputable def Q3y (d1 d2:DS):DS:=fun F ρ=>d1 { F with nx:=d2 F } ρ
theorem J8i:PSs X [] (sn W J4o):=NK.mono fun E σ H hh=>hh.elim fun pn M b ρ F s l h=>l.nx _ _ _ _ _ s h
theorem J8h (h:PS X st (sn W d1)):PSs X [st] (sn W d1):=EC h
theorem J4a (h1:PS X st (sn W d1))(h2:PSs X rest (sn W d2)):PSs X (st::rest) (sn W (Q3y d1 d2)):=(AQ h1 h2).mono fun E σ H hh=>hh.elim fun pn M b ρ F s l h=>⟨pn,M,b,ρ,{ F with nx:=d2 F },s,⟨fun M b ρ σ H s' h'=>⟨pn,M,b,ρ,F,s',l,h'⟩,l.rt,l.bk,l.ct,l.ro⟩,h⟩
noncomputable def V3n:DS:=fun F ρ=>F.bk ρ
noncomputable def V3m:DS:=fun F ρ=>F.ct ρ
noncomputable def Q3z (de:DE):DS:=fun F ρ=>de ρ fun x=>match x with|.own xs=>F.rt (.lst xs)|.bag=>False|.frg _ _=>False|x=>F.rt x
theorem YD {b:Option Addr}{H:Hp}{x:D}{v:V}(hs:Hs W M b H)(r:Rep W.K M H x v):Rep W.K W.M0 H x v:=Rep.avoid (fun c m=>.inl (hs.m0 c m)) _ _ r
theorem Q3h (he:PE X e (dn W de)):PS X (.Return (some e) pos) (sn W (Q3z de)):=(GG he).mono fun E σ H hh=>hh.elim fun pn M b ρ F s l h=>by
 refine ⟨pn,M,b,ρ,_,s.toSta,h,fun x v H' hx rx k o=>?_⟩
 have s':=s.toSta.step k o
 cases x
 case own xs =>
  obtain ⟨a,vs,rfl,m,n,n0,m0,hh,r⟩:=rx
  exact l.rt _ _ H' hx ⟨a,vs,rfl,⟨m0,hh⟩,Reps.avoid (fun c m=>.inl (s'.m0 c m)) _ _ r⟩ s'.kp s'.ok0
 case bag=>exact hx.elim
 case frg=>exact hx.elim
 all_goals exact l.rt _ _ H' hx (YD s'.toHs (RepX.rep rx rfl)) s'.kp s'.ok0
noncomputable def V1t:DS:=fun F _=>F.rt .non
noncomputable def Q0k (de:DE):DS:=fun F ρ=>de ρ fun _=>F.nx ρ
theorem J8l (he:PE X e (dn W de))(hs:swapsWith e none pos.line X.env=pure false:=by rfl):PS X (.Expr e pos) (sn W (Q0k de)):=(HJ he hs).mono fun E σ H hh=>hh.elim fun pn M b ρ F s l h=>⟨pn,M,b,ρ,_,s.toSta,h,fun x v H' hx rx k o=>l.nx _ _ _ _ _ (s.step k o) hx⟩
noncomputable def Q4b (dt:DT)(d1 d2:DS):DS:=fun F ρ=>dt ρ fun c=>IfP c (d1 F ρ) (d2 F ρ)
theorem Q6w {s1 s2:List Stmt}(hc:PT X c (dnT W dt))(ha:PSs X s1 (sn W d1))(hb:PSs X s2 (sn W d2)):PS X (.If c s1 s2 pos) (sn W (Q4b dt d1 d2)):=(YF hc ha hb).mono fun E σ H hh=>hh.elim fun pn M b ρ F s l h=>by
 refine ⟨pn,M,b,ρ,_,s.toSta,h,fun x H' hx k o=>?_⟩
 cases hx with
 | t e hx=>rw [if_pos e];exact ⟨pn,M,b,ρ,F,s.step k o,l,hx⟩
 | f e hx=>rw [if_neg (by rw [e];exact Bool.false_ne_true)];exact ⟨pn,M,b,ρ,F,s.step k o,l,hx⟩
noncomputable def J1a (de:DE)(gd:D->Ev->(Ev->Prop)->Prop):DS:=fun F ρ=>de ρ fun x=>plain x=true/\gd x ρ F.nx
theorem J1o {g:TG}{gd:D->Ev->(Ev->Prop)->Prop}(hG:GD W g gd):∀ E σ H,sn W (J1a de gd) E σ H->J6o (dn W de) g E σ H:=fun E σ H hh=>hh.elim fun pn M b ρ F s l h=>by
 refine ⟨pn,M,b,ρ,_,s.toSta,h,fun x v H' hx rx k o=>?_⟩
 exact hG pn M b H' σ ρ x v E.nx F.nx (s.toSta.step k o) rx hx.1 hx.2 fun ρ' σ' hp st' ho=>l.nx _ _ _ _ _ (s.of st' ho) hp
theorem Q3g {i:Nat} {x:Str} {pos':Pos} (hN:X.N.Nodup) (hi:X.N[i]?=some x) (hx:Loc X.env.scope x) (he:PE X e (dn W de)) (hs:swapsWith e (some (.Name x pos')) pos.line X.env=pure false:=by rfl) (hf:X.fn x=true\/X.env.scope.names.lookup x=some .local:=by first|exact .inl rfl|exact .inr rfl|assumption) :
 PS X (.Assign [.Name x pos'] e pos) (sn W (J1a de (gdN i))):=(CK hN hi hx he hs hf).mono (J1o (Y8 i))
theorem Q3j {g:TG}{gd:D->Ev->(Ev->Prop)->Prop}(hG:GD W g gd)(he:PE X e (dn W de))(hg:PG X tg g)(hs:swapsWithSole [tg] e pos.line X.env=pure false:=by rfl)(hw:swappedStores [tg] e X.env=pure none:=by rfl)
 (h1:(assignEach [tg] X.env).map (·.2)=[assign tg X.env]:=by rfl):PS X (.Assign [tg] e pos) (sn W (J1a de gd)):=(RU he hg hs hw h1).mono (J1o hG)
noncomputable def Q9y (i j:Nat)(dA:DA):DS:=fun F ρ=>dA ρ fun xs=>match xs with | [x,y]=>(plain x&&plain y)=true/\F.nx ((ρ.set i (some x)).set j (some y))|_=>False
theorem Q0t {i j:Nat}:∀ E σ H,sn W (Q9y i j dA) E σ H->Q5m i j (dnA W dA) E σ H:=fun E σ H hh=>hh.elim fun pn M b ρ F s l h=>by
 refine ⟨pn,M,b,ρ,_,s.toSta,h,fun xs vs H' hx rx k o=>?_⟩
 match xs,hx with
 | [x,y],hx =>
   obtain ⟨v,u,rfl,r,r'⟩:=rx2 rx
   obtain ⟨p1,p2⟩:=(Bool.and_eq_true _ _).mp hx.1
   refine ⟨v,u,rfl,l.nx _ _ _ _ _ (s.of (((s.toSta.step k o).set i r).set j r') fun n zs hm e=>?_) hx.2⟩
   obtain ⟨z1,z2⟩:=KR (σ:=σ.set i (some v)) (v:=u) p2 n zs hm e
   obtain ⟨z3,z4⟩:=KR (σ:=σ) (v:=v) p1 n zs hm z1
   exact ⟨z3,z2.trans z4⟩
theorem StS.newOwn {pn:List (D×V)} {b:Option Addr}{H:Hp}{σ:St}{ρ:Ev}{xs:List D}{vs:List V}{p:Addr}(s:StS W pn M b H σ ρ)(i:Nat)(r:Reps W.K M H xs vs)(h:H p=none) :
 StS W pn (fun c=>M c\/c=p) b (upd H p (.lst vs)) (σ.set i (some (.ref p))) (ρ.set i (some (.own xs))):=by
 have hM:∀ c,(M c\/c=p)->M c\/H c=none:=fun c hc=>hc.imp id (fun z=>by rw [z];exact h)
 have kk:∀ c o,H c=some o->upd H p (.lst vs) c=some o:=fun c o e=>Same.upd h c o e
 have rep:∀ d v,Rep W.K M H d v->Rep W.K (fun c=>M c\/c=p) (upd H p (.lst vs)) d v:=fun d v r=>Rep.keep (fun c o _ e=>kk c o e) _ _ (Rep.avoid hM _ _ r)
 have reps:∀ d v,Reps W.K M H d v->Reps W.K (fun c=>M c\/c=p) (upd H p (.lst vs)) d v:=fun d v r=>Reps.keep (fun c o _ e=>kk c o e) _ _ (Reps.avoid hM _ _ r)
 have hbp:b≠some p:=fun z=>by
  obtain ⟨o,e⟩:=W.B.dm p H (s.ok p z)
  rw [h] at e;cases e
 have h0:W.H0 p=none:=by
  cases q:W.H0 p with
  | none=>rfl
  | some o =>
    by_cases z:W.b0=some p
    · rcases s.new with y|⟨y,_⟩
      · exact absurd (y.trans z) hbp
      · rw [y] at z;cases z
    · have:=s.kp p o z q
      rw [h] at this;cases this
 have hm0:¬ W.M0 p:=fun z=>s.toHs.new h (s.m0 p z)
 refine s.add i ⟨⟨s.toHs.okU h,fun q e=>.inl (s.bagM q e),fun c hc=>?_,fun c m=>.inl (s.m0 c m)⟩,fun c o n e=>kk c o (s.kp c o n e),s.new,fun j d e=>?_,by simp [s.len],fun q hq=>(s.pin q hq).to rep reps fun xs a vs _ _ m n hh=>⟨.inl m,n,kk _ _ hh⟩⟩ fun c m=>by
  cases (show V.ref p=V.ref c from m)
  exact s.toHs.new h
 · rcases hc with hc|hc
   · obtain ⟨o,e⟩:=s.dom c hc;exact ⟨o,kk c o e⟩
   · rw [hc];exact ⟨_,Y3⟩
 · by_cases z:i=j
   · subst z
     rw [List.getElem?_set] at e
     simp at e
     obtain ⟨hl,rfl⟩:=e
     exact ⟨.ref p,by rw [List.getElem?_set];simp [<- s.len,hl],p,vs,rfl,.inr rfl,hbp,h0,hm0,Y3,reps _ _ r⟩
   · rw [List.getElem?_set_ne z] at e
     obtain ⟨w,e1,r1⟩:=s.env j d e
     refine ⟨w,by rw [List.getElem?_set_ne z];exact e1,?_⟩
     cases d
     case own ys =>
      obtain ⟨a,us,rfl,m1,m2,m3,m4,hh,r'⟩:=r1
      exact ⟨a,us,rfl,.inl m1,m2,m3,m4,kk _ _ hh,reps _ _ r'⟩
     case bag=>exact r1
     case frg f _=>exact RepX.move r1 (fun c _ m n=>⟨.inl m,n⟩) (fun c o _ e=>kk c o e) hM
     all_goals exact rep _ _ r1
theorem StS.setOwn {pn:List (D×V)} {b:Option Addr}{H:Hp}{σ:St}{ρ:Ev}{xs ys:List D}{vs:List V}{a:Addr}(s:StS W pn M b H σ ρ)(i:Nat)(e:ρ[i]?=some (some (.own xs)))(ea:σ[i]?=some (some (.ref a)))(r:Reps W.K M H ys vs) :
 StS W pn M b (upd H a (.lst vs)) σ (ρ.set i (some (.own ys))):=by
 obtain ⟨v,e1,a',us,ev,m1,m2,m3,m4,hh,r'⟩:=s.env i _ e
 rw [ea] at e1;cases e1;cases ev
 have kk:∀ c o,¬ M c->H c=some o->upd H a (.lst vs) c=some o:=fun c o n q=>by rw [V8 (show c≠a from fun z=>n (by rw [z];exact m1))];exact q
 have kb:∀ c o,c≠a->H c=some o->upd H a (.lst vs) c=some o:=fun c o n q=>by rw [V8 n];exact q
 refine s.of2 ⟨⟨fun q z=>W.B.st q H _ (s.ok q z) fun o h=>kb q o (fun w=>m2 (w▸z)) h,s.bagM,fun c hc=>?_,s.m0⟩,fun c o n q=>kb c o (fun z=>by rw [z,m3] at q;cases q) (s.kp c o n q),s.new,fun j d e'=>?_,by simp [s.len],fun q hq=>(s.pin q hq).to (fun _ _ r=>Rep.keep kk _ _ r) (fun _ _ r=>Reps.keep kk _ _ r) fun zs a2 us ed ev m n hh2=>⟨m,n,kb _ _ (fun y=>s.lk zs a2 (by rw [<- ed,<- ev];exact hq) i xs e (by rw [y];exact ea)) hh2⟩⟩ (fun _ _ q=>q) fun j d v c e' e2 m=>?_
 · by_cases z:c=a
   · rw [z];exact ⟨_,Y3⟩
   · obtain ⟨o,q⟩:=s.dom c hc;exact ⟨o,kb c o z q⟩
 · by_cases z:i=j
   · subst z
     rw [List.getElem?_set] at e'
     simp at e'
     obtain ⟨hl,rfl⟩:=e'
     exact ⟨.ref a,ea,a,vs,rfl,m1,m2,m3,m4,Y3,Reps.keep kk _ _ r⟩
   · rw [List.getElem?_set_ne z] at e'
     obtain ⟨w,e1,r1⟩:=s.env j d e'
     refine ⟨w,e1,?_⟩
     cases d
     case own zs =>
      obtain ⟨a2,us2,rfl,n1,n2,n3,n4,hh2,r2⟩:=r1
      have na:a2≠a:=fun y=>z (s.own i j xs zs a e e' ea (y▸e1))
      exact ⟨a2,us2,rfl,n1,n2,n3,n4,kb _ _ na hh2,Reps.keep kk _ _ r2⟩
     case bag=>exact r1
     case frg f _ =>
      have na:a∉f.ads:=fun y=>z (s.dj i j _ _ _ _ a e e' ea e1 rfl y)
      exact RepX.move r1 (fun c _ m n=>⟨m,n⟩) (fun c o q h=>kb c o (fun y=>q.elim (fun n=>n (by rw [y];exact m1)) (fun n=>na (by rw [<- y];exact n))) h) fun c m=>.inl m
     all_goals exact Rep.keep kk _ _ r1
 · by_cases z:i=j
   · subst z
     rw [List.getElem?_set] at e'
     simp at e'
     obtain ⟨_,rfl⟩:=e'
     exact ⟨_,e,e2,m⟩
   · rw [List.getElem?_set_ne z] at e'
     exact ⟨d,e',e2,m⟩
noncomputable def Q0j (i:Nat)(dA:DA):DS:=fun F ρ=>dA ρ fun xs=>EI xs=true/\F.nx (ρ.set i (some (.own xs)))
theorem J8k {i:Nat} {x:Str} {pos' lpos:Pos} (hN:X.N.Nodup) (hi:X.N[i]?=some x) (hx:Loc X.env.scope x) (ha:PA X es (dnA W dA)) (hs:swapsWith (.List es lpos) (some (.Name x pos')) pos.line X.env=pure false:=by rfl) (hf:X.fn x=true\/X.env.scope.names.lookup x=some .local:=by first|exact .inl rfl|exact .inr rfl|assumption) :
 PS X (.Assign [.Name x pos'] (.List es lpos) pos) (sn W (Q0j i dA)):=(CK hN hi hx (HK ha) hs hf).mono fun E σ H hh=>hh.elim fun pn M b ρ F s l h=>by
 refine ⟨pn,M,b,ρ,_,s.toSta,h,fun xs vs H' hx rx k o=>?_⟩
 have rr:=rx.reps _ _ (EI.pl hx.1)
 exact ⟨by rw [rr.length];exact EI.len hx.1,fun q hq=>l.nx _ _ _ _ _ ((s.step k o).newOwn i rr hq) hx.2⟩
noncomputable def Q0i (own:Bool)(i:Nat)(map:List (Option Nat))(gd:D->Ev->(Ev->Prop)->Prop)(di:DA)(dt:DT)(de:DE):DS:=fun F ρ=>di ρ fun items=>items.length<=1000/\compI gd dt de (EX ρ map) items fun acc=>F.nx (ρ.set i (some (if own then .own acc else .lst acc)))
theorem J8j {elt iter tg:Expr}{ifs:List Expr}{scope:Scope}{N':List Str}{map:List (Option Nat)}{g:TG}{gd:D->Ev->(Ev->Prop)->Prop}(own:Bool){i:Nat}{y:Str}{py spos:Pos}(hN:X.N.Nodup)(hiN:X.N[i]?=some y)(hy:Loc X.env.scope y)(hG:GD W g gd)(B:Blk X N' scope map tg elt ifs g (dnT W dt) (dn W de))(hi:PI X tg iter (dnI W false di))
 (hsw:swapsWith (.ListComp elt [⟨tg,iter,ifs,0⟩] scope pos) (some (.Name y py)) spos.line X.env=pure true:=by rfl) (hfn:X.fn y=true\/X.env.scope.names.lookup y=some .local:=by first|exact .inl rfl|exact .inr rfl)
 (hs:∀ x,foldedSetIterable iter X.env x=pure x:=by intro _;rfl):PS X (.Assign [.Name y py] (.ListComp elt [⟨tg,iter,ifs,0⟩] scope pos) spos) (sn W (Q0i own i map gd di dt de)):=(WG hN hiN hy B hi hsw hfn hs).mono fun E σ H hh=>hh.elim fun pn M b ρ F s l h=>by
 refine ⟨pn,M,b,ρ,_,s.toSta,h,fun items J need H1 hx hp hI hn k1 o1=>?_⟩
 have s1:=s.step k1 o1
 refine JY hG (s1.toSta.capt map) hp hI (fun q hq=>(hn q hq).1) hx.1 hx.2 fun ds acc H' hP r hl k2 o2 q hq=>?_
 have s2:=s1.step k2 o2
 cases own
 · have s3:=(s2.step (Kp.upd (o:=.lst acc) hq) (s2.toHs.okU hq))
   exact l.nx _ _ _ _ _ (s3.of (s3.toSta.set i (DH s2.toHs r hq)) (KR rfl)) hP
 · exact l.nx _ _ _ _ _ (s2.newOwn i r hq) hP
noncomputable def J8x (i:Nat)(dA:DA):DS:=fun F ρ=>match ρ[i]? with
 | some (some (.own ys))=>dA ρ fun xs=>(match xs with | [y]=>(plain y&&decide (ys.length<1000))=true/\F.nx (ρ.set i (some (.own (ys++[y]))))|_=>False)
 | _=>False
theorem MB {pn:List (D×V)} {b:Option Addr}{H:Hp}{σ:St}{ρ:Ev}{i:Nat}{ys:List D}(s:Sta W pn M b H σ ρ)(e:ρ[i]?=some (some (.own ys))):∃ a vs,σ[i]?=some (some (.ref a))/\b≠some a/\H a=some (.lst vs)/\Reps W.K M H ys vs:=by
 obtain ⟨v,e1,a,us,rfl,m1,m2,m3,m4,hh,r⟩:=s.env i _ e
 exact ⟨a,us,e1,m2,hh,r⟩
theorem Q0w {i:Nat}:∀ E σ H,sn W (J8x i dA) E σ H->XZ (tBM W.K "list" EY (KG i) (dnA W dA)) E σ H:=fun E σ H hh=>hh.elim fun pn M b ρ F s l h=>by
 unfold J8x at h
 split at h
 case h_2=>exact h.elim
 case h_1 ys e =>
  obtain ⟨a,vs,ea,nb,hh,r⟩:=MB s.toSta e
  refine ⟨.ref a,ea,.inl ⟨rfl,vs,SqL.of hh⟩,pn,M,b,ρ,_,s.toSta,h,fun xs us H' hx rx k o=>?_⟩
  match xs,hx with
  | [y],hx =>
    obtain ⟨u,rfl,ru⟩:=rx1 rx
    obtain ⟨p1,p2⟩:=(Bool.and_eq_true _ _).mp hx.1
    have p2:=of_decide_eq_true p2
    have s':=s.step k o
    obtain ⟨a',vs',ea',nb',hh',r'⟩:=MB s'.toSta e
    rw [ea] at ea';cases ea'
    refine ⟨a,vs',u,rfl,rfl,hh',by rw [r'.length];have:=AF;omega,l.nx _ _ _ _ _ (s'.setOwn i e ea (Reps.append r' (show Reps W.K M H' [y] [u] from ⟨u,[],rfl,ru.rep p1,rfl⟩))) hx.2⟩
theorem J0v {i:Nat}{x:Str}{e:Expr}{npos apos cpos:Pos}(hK:X.K=W.K)(hN:X.N[i]?=some x)(hv:Vis X.env.scope x)(ha:PA X [e] (dnA W dA))
 (h:PE X (.Call (.Attribute (.Name x npos) "append" apos) [e] [] cpos) (tBM X.K "list" EY (KG i) (dnA W dA))) (hs:swapsWith (.Call (.Attribute (.Name x npos) "append" apos) [e] [] cpos) none pos.line X.env=pure false:=by rfl) :
 PS X (.Expr (.Call (.Attribute (.Name x npos) "append" apos) [e] [] cpos) pos) (sn W (J8x i dA)):=(HJ (by rw [hK] at h;exact h) hs).mono Q0w
noncomputable def V1s (i:Nat)(de dk:DE):DS:=fun F ρ=>match ρ[i]? with
 | some (some (.own ys))=>de ρ fun x=>dk ρ fun k=>(match k with|.int k=>plain x=true/\(ixN ys.length k).elim False fun j=>F.nx (ρ.set i (some (.own (ys.set j x))))|_=>False)
 | _=>False
noncomputable def V3p (i:Nat)(f:Int->Int->Int)(de:DE):DS:=fun F ρ=>match ρ[i]? with
 | some (some (.int n))=>de ρ fun y=>(match y with|.int m=>F.nx (ρ.set i (some (.int (f n m))))|_=>False)
 | _=>False
noncomputable def ZA (gd:D->Ev->(Ev->Prop)->Prop)(db:DS)(F:DEnds):List D->Ev->Prop
 | [],ρ=>F.nx ρ
 | x::xs,ρ=>gd x ρ fun ρ1=>db { F with nx:=ZA gd db F xs,ct:=ZA gd db F xs,bk:=F.nx } ρ1
inductive forI (gd:D->Ev->(Ev->Prop)->Prop)(db:DS)(F:DEnds)(items:List D)(ρ:Ev):Prop
 | mk (I:Nat->Ev->Prop) (h0:I 0 ρ) (hs:∀ (i:Nat) x ρ,items[i]?=some x->I i ρ->gd x ρ fun ρ1=>db { F with nx:=I (i+1),ct:=I (i+1),bk:=F.nx } ρ1) (hd:∀ ρ,I items.length ρ->F.nx ρ):forI gd db F items ρ
theorem J8c {gd:D->Ev->(Ev->Prop)->Prop}{db:DS}{F:DEnds}{items:List D}{ρ:Ev}(h:ZA gd db F items ρ):forI gd db F items ρ:=by
 refine ⟨fun i ρ=>ZA gd db F (items.drop i) ρ,h,fun i x ρ e q=>?_,fun ρ q=>?_⟩
 · obtain ⟨hlt,rfl⟩:=List.getElem?_eq_some_iff.mp e
   try dsimp only at q
   rw [List.drop_eq_getElem_cons hlt] at q
   exact q
 · (try dsimp only at q);rw [List.drop_length] at q;exact q
noncomputable def J8v (gd:D->Ev->(Ev->Prop)->Prop)(di:DA)(db:DS):DS:=fun F ρ=>di ρ fun items=>forI gd db F items ρ
theorem Sta.pins {pn pn':List (D×V)} {b:Option Addr}{H:Hp}{σ:St}{ρ:Ev}(s:Sta W pn M b H σ ρ)(h:∀ q∈pn',PinR W M b H q.1 q.2):Sta W pn' M b H σ ρ:=⟨s.toHs,s.kp,s.new,s.env,s.len,h⟩
theorem Q0v {g:TG}{gd:D->Ev->(Ev->Prop)->Prop}{db:DS}(hG:GD W g gd):∀ E σ H,sn W (J8v gd di db) E σ H->J6n (dnI W true di) g (sn W db) E σ H:=fun E σ H hh=>hh.elim fun pn M b ρ F s l h=>by
 refine ⟨pn,M,b,ρ,_,s.toSta,h,fun items J need H1 hx hp hI hn k1 o1=>?_⟩
 have s1:=s.step k1 o1
 have pins:∀ q∈need++pn,PinR W M b H1 q.1 q.2:=fun q hq=>(List.mem_append.mp hq).elim (fun z=>(hn q z).1.pin ((hn q z).2 rfl)) fun z=>s1.pin q z
 obtain ⟨I,i0,istep,idone⟩:=hx
 refine ⟨fun i m σ H=>m=items.length - i/\i<=items.length/\∃ M b ρ,StS W (need++pn) M b H σ ρ/\I i ρ,⟨items.length,by simp,Nat.zero_le _,M,b,ρ,⟨s1.toSta.pins pins,s1.dj,fun ys a hq=>(List.mem_append.mp hq).elim (fun z=>by have:=(hn _ z).2 rfl;cases this) fun z=>s1.lj ys a z⟩,i0⟩,?_⟩
 rintro i m σ2 H2 ⟨rfl,hi,M2,b2,ρ2,s2,q⟩
 have unp:∀ {M b ρ σ H},StS W (need++pn) M b H σ ρ->StS W pn M b H σ ρ:=fun s=>⟨s.toSta.pins fun q hq=>s.pin q (List.mem_append_right _ hq),s.dj,fun ys a hq=>s.lj ys a (List.mem_append_right _ hq)⟩
 obtain ⟨hgo,hstop⟩:=hI M2 b2 H2 s2.toHs fun q hq=>(s2.pin q (List.mem_append_left _ hq)).x
 by_cases hlt:i<items.length
 · have ei:items[i]?=some items[i]:=List.getElem?_eq_getElem hlt
   replace q:=istep i _ ρ2 ei q
   refine .inr ⟨(hgo i _ ei).1,fun σ' H'=>∃ M b ρ,StS W (need++pn) M b H' σ' ρ/\I (i+1) ρ,fun σ' H' n=>⟨items.length - (i+1),by omega,rfl,hlt,n⟩,fun x H3 y=>?_⟩
   obtain ⟨S3,rx⟩:=(hgo i _ ei).2 x H3 y
   have o3:okB W.B b2 H3:=fun p e=>W.B.st p H2 H3 (s2.ok p e) fun o e'=>S3 p o e'
   have s3:=s2.step (Kp.same S3) o3
   refine hG (need++pn) M2 b2 H3 σ2 ρ2 items[i] x _ _ s3.toSta rx (List.all_eq_true.mp hp _ (List.getElem_mem hlt)) q fun ρ1 σ1 h1 st4 ho=>?_
   exact ⟨need++pn,M2,b2,ρ1,{ F with nx:=I (i+1),ct:=I (i+1),bk:=F.nx },s3.of st4 ho,⟨fun M b ρ σ H s' h'=>⟨M,b,ρ,s',h'⟩,l.rt,fun M b ρ σ H s' h'=>l.nx _ _ _ _ _ (unp s') h',fun M b ρ σ H s' h'=>⟨M,b,ρ,s',h'⟩,l.ro⟩,h1⟩
 · have e:i=items.length:=by omega
   subst e
   exact .inl ⟨hstop _ (Nat.le_refl _),l.nx _ _ _ _ _ (unp s2) (idone _ q)⟩
theorem Q3i {g:TG}{gd:D->Ev->(Ev->Prop)->Prop}{db:DS}{body:List Stmt}(hG:GD W g gd)(hp:PassesOwn (model X.prog X.w) X.A X.env X.xe)(hc:X.calm=true)(hi:PI X tg iter (dnI W true di))(hg:PG X tg g)(hb:PSs X body (sn W db))
 (hs:∀ x,foldedSetIterable iter X.env x=pure x:=by intro _;rfl):PS X (.For tg iter body [] pos) (sn W (J8v gd di db)):=(WH hp hc hi hg hb hs).mono (Q0v hG)
noncomputable def V3k (i:Nat)(d:DS):DS:=fun F ρ=>match ρ[i]? with|some (some (.own xs))=>d F (ρ.set i (some (.lst xs)))|_=>False
theorem Sta.avoid {pn:List (D×V)}{M M':Addr->Prop}{b:Option Addr}{H:Hp}{σ:St}{ρ:Ev}(s:Sta W pn M b H σ ρ)(h:∀ c,M' c->M c)(hb:∀ p,b=some p->M' p)(h0:∀ c,W.M0 c->M' c)(ho:∀ (i:Nat) d v c,ρ[i]?=some (some d)->σ[i]?=some (some v)->GO d v c->M' c)(hpo:∀ xs a,(D.own xs,V.ref a)∈pn->M' a):Sta W pn M' b H σ ρ where
 ok:=s.ok
 bagM:=hb
 dom:=fun c m=>s.dom c (h c m)
 m0:=h0
 kp:=s.kp
 new:=s.new
 len:=s.len
 pin:=fun q hq=>(s.pin q hq).to (fun _ _ r=>Rep.avoid (fun c m=>.inl (h c m)) _ _ r) (fun _ _ r=>Reps.avoid (fun c m=>.inl (h c m)) _ _ r) fun xs a vs ed ev m n hh=>⟨hpo xs a (by rw [<- ed,<- ev];exact hq),n,hh⟩
 env:=fun i d e=>by
  obtain ⟨v,e1,r⟩:=s.env i d e
  refine ⟨v,e1,?_⟩
  cases d
  case own xs =>
   obtain ⟨a,us,rfl,m1,m2,m3,m4,hh,r'⟩:=r
   exact ⟨a,us,rfl,ho i _ _ a e e1 rfl,m2,m3,m4,hh,Reps.avoid (fun c m=>.inl (h c m)) _ _ r'⟩
  case bag=>exact r
  case frg f _=>exact RepX.move r (fun c m _ n=>⟨ho i _ _ c e e1 m,n⟩) (fun c o _ e=>e) fun c m=>.inl (h c m)
  all_goals exact Rep.avoid (fun c m=>.inl (h c m)) _ _ r
noncomputable def J4m (Ed:Addr->Prop)(C:Addr):DS:=fun _ _=>Ed C
theorem J4b {E:XK}{Ed:Addr->Prop}{C:Addr}(hE:GU W E Ed)(h:PS X st (fun _ _ H1=>E (.ref C) none H1)):PS X st (sn W (J4m Ed C)):=h.mono fun E' σ H hh=>hh.elim fun pn M b ρ F s l h=>hE C H h s.kp s.ok0
noncomputable def J4p:DS:=fun _ _=>False
theorem J4c:PS X st (sn W J4p):=J2k.mono fun E σ H hh=>hh.elim fun pn M b ρ F s l h=>h.elim
end
def CH (N:List Str)(ds:List D):Ev:=ds.map some++List.replicate (N.length - ds.length) none
theorem RepAs.get {H:Hp}:∀ {ds:List D} {vs:List V} {i:Nat} {d:D},RepAs K M b H ds vs->ds[i]?=some d->∃ v,vs[i]?=some v/\Q4v K M b H d v
 | [],_,_,_,h,e=>by simp at e
 | d::ds,vs,0,_,h,e=>by
   obtain ⟨v,r,rfl,h1,h2⟩:=h
   simp at e;subst e
   exact ⟨v,rfl,h1⟩
 | d::ds,vs,i+1,d',h,e=>by
   obtain ⟨v,r,rfl,h1,h2⟩:=h
   obtain ⟨u,e1,e2⟩:=RepAs.get (i:=i) h2 (by simpa using e)
   exact ⟨u,by simpa using e1,e2⟩
theorem NS {N:List Str}{ds:List D}{i:Nat}{d:D}(h:(CH N ds)[i]?=some (some d)):ds[i]?=some d:=by
 unfold CH at h
 by_cases hi:i<ds.length
 · rw [List.getElem?_append_left (by simpa using hi),List.getElem?_map] at h
   simpa using h
 · rw [List.getElem?_append_right (by simpa using hi)] at h
   have:=List.mem_of_getElem? h
   simp at this
theorem YW {B:BagT} {N:List Str}{ds:List D}{vs:List V}{H:Hp}(hr:RepAs K M b H ds vs)(ho:okB B b H)(hb:∀ p,b=some p->M p)(hd:∀ c,M c->∃ o,H c=some o):StS ⟨K,B,H,M,b⟩ [] M b H (CP N vs) (CH N ds):=by
 refine ⟨⟨⟨ho,hb,hd,fun _ m=>m⟩,Kp.refl _ _,.inl rfl,fun i d e=>?_,by simp [CP,CH,hr.length],fun _ hq=>by cases hq⟩,fun i j d e v u c e0 _ _ _ m _=>?_,fun _ _ hq=>by cases hq⟩
 · obtain ⟨v,e1,r⟩:=hr.get (NS e)
   refine ⟨v,?_,?_⟩
   · unfold CP
     rw [List.getElem?_append_left (by simpa using (List.getElem?_eq_some_iff.mp e1).1),List.getElem?_map,e1];rfl
   · cases d<;>first|exact r|exact r.elim
 · obtain ⟨v',e1,r⟩:=hr.get (NS e0)
   cases d<;>first|exact m.elim|exact r.elim
theorem Q6m {B:BagT} {H:Hp}{Q:VK}{P:D->Prop}(hq:∀ d v H',P d->Rep K M H' d v->Kp b H H'->okB B b H'->Q v H'):Link ⟨K,B,H,M,b⟩ [] { nx:=fun _ H'=>Q .non H',rt:=Q } { nx:=fun _=>P .non,rt:=P } :=
 ⟨fun M b ρ σ H s h=>hq _ _ _ h rfl s.kp s.ok0,fun d v H h r k o=>hq d v H h r k o,fun _ _ _ _ _ _ h=>h.elim,fun _ _ _ _ _ _ h=>h.elim,fun _ _ _ _ h=>h.elim⟩
theorem run {B:BagT} {N:List Str}{ds:List D}{vs:List V}{H:Hp}{Q:VK}{P:D->Prop}{d:DS}(hr:RepAs K M b H ds vs)(ho:okB B b H)(hb:∀ p,b=some p->M p)(hd:∀ c,M c->∃ o,H c=some o)(hq:∀ d v H',P d->Rep K M H' d v->Kp b H H'->okB B b H'->Q v H')
 (h:d { nx:=fun _=>P .non,rt:=P } (CH N ds)):sn ⟨K,B,H,M,b⟩ d { nx:=fun _ H'=>Q .non H',rt:=Q } (CP N vs) H :=
 ⟨[],M,b,CH N ds,_,YW hr ho hb hd,Q6m hq,h⟩
theorem Q3.len {B:BagT}{S:DSp}{n:Nat}(h:∀ ds P Ed,S ds P Ed->ds.length=n):∀ vs H Q E,Q3 K B S vs H Q E->vs.length=n:=fun vs H Q E ⟨M,b,ds,P,Ed,hS,hr,_⟩=>by rw [hr.length];exact h _ _ _ hS
section
variable {X:Cx}{W:Wd}{e a b l:Expr}{pos p:Pos}{d db dl de:DE}{dA:DA}{st:Stmt}{sts:List Stmt}{t:TS}
abbrev DO:=Ev->(Option Int->Prop)->Prop
def dnO (W:Wd)(d:DO):TO:=fun σ H Q=>∃ pn M b ρ P,Sta W pn M b H σ ρ/\d ρ P/\∀ x H',P x->Kp b H H'->okB W.B b H'->Q x H'
theorem dnO.elim {W:Wd}{d:DO}{σ:St}{H:Hp}{Q:Option Int->Hp->Prop}{R:Prop}(h:dnO W d σ H Q)(f:∀ pn M b ρ P,Sta W pn M b H σ ρ->d ρ P->(∀ x H',P x->Kp b H H'->okB W.B b H'->Q x H')->R):R:=by
 obtain ⟨pn,M,b,ρ,P,st,h,k⟩:=h
 exact f pn M b ρ P st h k
noncomputable def oNo:DO:=fun _ P=>P none
noncomputable def oPt (de:DE):DO:=fun ρ P=>de ρ fun x=>match x with|.int i=>P (some i)|_=>False
theorem J8n:PO X none (dnO W oNo):=fun pins s σ H Q I hh=>hh.elim fun pn M b ρ P st h k=>J6x pins s σ H Q I (k _ H h (Kp.refl _ _) st.ok)
theorem J8m (h:PE X e (dn W de)):PO X (some e) (dnO W (oPt de)):=fun pins s σ H Q I hh=>hh.elim fun pn M b ρ P st q k=>J6w h pins s σ H Q I (by
 refine ⟨pn,M,b,ρ,_,st,q,fun x v H1 hx rx k1 o1=>?_⟩
 cases x<;>first|exact hx.elim|skip
 cases (show _=_ from rx)
 exact ⟨_,rfl,k _ H1 hx k1 o1⟩)
noncomputable def VD (xs:List D)(lo hi:Option Int):List D:=(xs.drop (HT.sIx xs.length 0 lo)).take (HT.sIx xs.length xs.length hi - HT.sIx xs.length 0 lo)
theorem Reps.cut {H:Hp}{ds:List D}{vs:List V}(h:Reps K M H ds vs)(lo hi:Option Int):Reps K M H (VD ds lo hi) (VC vs lo hi):=by
 unfold VD VC
 rw [h.length]
 exact Reps.take _ (Reps.drop _ h)
noncomputable def oSl (x:D)(lo hi:Option Int)(P:D->Prop):Prop:=match x with
 | .tup xs=>¬ (HT.sIx xs.length 0 lo=0/\HT.sIx xs.length xs.length hi=xs.length)/\P (.tup (VD xs lo hi))
 | .lst xs=>P (.lst (VD xs lo hi))
 | .own xs=>P (.lst (VD xs lo hi))
 | _=>False
noncomputable def dSl (de:DE)(dl dh:DO):DE:=fun ρ P=>de ρ fun x=>dl ρ fun lo=>dh ρ fun hi=>oSl x lo hi P
theorem J6p (K:Fg)(h:X.K=K):SlR X (J2c K):=by subst h;exact Q1j
theorem JJ (K:Fg)(h:X.K=K):SlR X (fun x lo hi H Q=>J2c K x lo hi H Q\/J2d K x lo hi H Q):=(J6p K h).or (ZX K h)
theorem J4f {lo hi:Option Expr}{dl dh:DO}{p2:Pos}(hr:SlR X (fun x lo hi H Q=>J2c W.K x lo hi H Q\/J2d W.K x lo hi H Q))(he:PE X e (dn W de))(hl:PO X lo (dnO W dl))(hu:PO X hi (dnO W dh)):PE X (.Subscript e (.Slice lo hi none p2) pos) (dn W (dSl de dl dh)):=(J2o hr he hl hu).mono fun σ H Q hh=>hh.elim fun pn M b ρ P st h k=>by
 refine ⟨pn,M,b,ρ,_,st,h,fun x v H1 hx rx k1 o1=>?_⟩
 refine ⟨pn,M,b,ρ,_,st.step k1 o1,hx,fun lo H2 hy k2 o2=>?_⟩
 refine ⟨pn,M,b,ρ,_,(st.step k1 o1).step k2 o2,hy,fun hi H3 hz k3 o3=>?_⟩
 have s3:=((st.step k1 o1).step k2 o2).step k3 o3
 have rx:=(rx.step st.bagM k2).step st.bagM k3
 have kk:=(k1.trans k2).trans k3
 cases x<;>first|exact hz.elim|skip
 case tup xs =>
  obtain ⟨a,vs,rfl,hh,r⟩:=rx
  refine .inl ⟨a,vs,rfl,hh.sq,by rw [r.length];exact hz.1,fun p hp=>k _ _ _ hz.2 (EZ s3.toHs (r.cut lo hi) hp) (kk.trans (Kp.upd hp)) (s3.okU hp)⟩
 case lst xs =>
  obtain ⟨a,vs,rfl,hh,r⟩:=rx
  refine .inr ⟨a,vs,rfl,SqL.of hh.2,fun p hp=>k _ _ _ hz (DH s3.toHs (r.cut lo hi) hp) (kk.trans (Kp.upd hp)) (s3.okU hp)⟩
 case own xs =>
  obtain ⟨a,vs,rfl,_,_,_,_,hh,r⟩:=rx
  refine .inr ⟨a,vs,rfl,SqL.of hh,fun p hp=>k _ _ _ hz (DH s3.toHs (r.cut lo hi) hp) (kk.trans (Kp.upd hp)) (s3.okU hp)⟩
noncomputable def Q6j:D->D->(D->Prop)->Prop:=fun x y P=>match asL x,asL y with
 | some xs,some ys=>xs.length+ys.length<=1000/\P (.lst (xs++ys))
 | _,_=>False
theorem Q2a:OpD W Q5y Q6j:=by
 intro M b H x y v u P Q hs rx ry ho k
 unfold Q6j at ho
 split at ho
 case h_2=>exact ho.elim
 case h_1 xs ys e1 e2 =>
  obtain ⟨a1,vs,rfl,h1,r1⟩:=asL.rep rx e1
  obtain ⟨a2,us,rfl,h2,r2⟩:=asL.rep ry e2
  exact ⟨a1,a2,vs,us,rfl,rfl,h1,h2,by rw [r1.length,r2.length];exact Nat.le_trans ho.1 AF,fun p hp=>k _ _ _ ho.2 (DH hs (Reps.append r1 r2) hp) (Kp.upd hp) (hs.okU hp)⟩
noncomputable def V1k:D->D->(D->Prop)->Prop
 | .tup xs,.tup ys,P=>(xs≠[]/\ys≠[]/\xs.length+ys.length<=1000)/\P (.tup (xs++ys))
 | _,_,_=>False
theorem Reps.ne {H:Hp}{ds:List D}{vs:List V}(h:Reps K M H ds vs)(n:ds≠[]):vs≠[]:=fun z=>by
 have:=h.length
 rw [z] at this
 exact n (List.length_eq_zero_iff.mp this.symm)
noncomputable def V3g (neg:Bool):D->D->(D->Prop)->Prop
 | .tup xs,.tup ys,P=>(EF xs).elim False fun ns=>(EF ys).elim False fun ms=>P (.bl (decide (ns=ms)!=neg))
 | x,y,P=>Q2d neg x y P
def V2l (K:Fg)(B:BagT)(pre:List D->Prop):Sp:=fun vs H Q _=>∃ (M:Addr->Prop) (b:Option Addr) (ds:List D),RepAs K M b H ds vs/\pre ds/\∀ p H1,H p=none->Same H H1->B.ok p H1->Q (.ref p) H1
def CG (ρ:Ev):Ev:=ρ.map fun o=>match o with|some .bag=>none|o=>o
noncomputable def V3o (i:Nat)(pre:List D->Prop)(dA:DA):DS:=fun F ρ=>dA ρ fun ds=>ds.all CD=true/\pre ds/\F.nx ((CG ρ).set i (some .bag))
theorem MM {ρ:Ev}{i:Nat}{d:D}(h:(CG ρ)[i]?=some (some d)):ρ[i]?=some (some d)/\d≠.bag:=by
 unfold CG at h
 rw [List.getElem?_map] at h
 cases q:ρ[i]? with
 | none=>rw [q] at h;cases h
 | some o =>
   rw [q] at h
   cases o with
   | none=>cases h
   | some d'=>cases d'<;>simp at h<;>subst h<;>exact ⟨rfl,by intro z;cases z⟩
theorem PSs.withE {A:Prop}(h:A->PSs X sts t):PSs X sts (fun E σ H=>A/\t E σ H):=fun pins s σ H D I q=>h q.1 pins s σ H D I q.2
def HD (W:Wd)(N:List Str)(K:Fg)(Ba:Addr)(i:Nat)(th:Addr->TS)(hd:Addr->DEnds->Prop):Prop:=∀ C x H' E F pn,Link W pn E F->hd C F->Kp W.b0 W.H0 H'->okB W.B W.b0 H'->H' x=none->PySem.W.subIn K (.ref C) (.ref Ba)=some true /\
 th x { nx:=fun σ' H''=>E.nx (σ'.set i none) H'',rt:=E.rt,bk:=fun σ' H''=>E.bk (σ'.set i none) H'',ct:=fun σ' H''=>E.ct (σ'.set i none) H'' } ((List.replicate N.length none).set i (some (.ref x))) (upd H' x (ExcO x C))
noncomputable def Q7d (db:DS)(Ed:Addr->Prop)(hd:Addr->DEnds->Prop):DS:=fun F ρ=>db F ρ/\∀ C,Ed C->hd C F
theorem Q3f {N:List Str} {Ba:Addr}{i:Nat}{th:Addr->TS}{hd:Addr->DEnds->Prop}{db:DS}(Ed:Addr->Prop)(hHD:HD W N K Ba i th hd)(h:PS X st (Q1c N K Ba i (fun E D σ H=>GU W E Ed/\sn W db D σ H) th)):PS X st (sn W (Q7d db Ed hd)):=h.mono fun E σ H hh=>hh.elim fun pn M b ρ F s l q=>by
 refine ⟨fun Cv _ H'=>∃ C,Cv=.ref C/\Ed C/\Kp W.b0 W.H0 H'/\okB W.B W.b0 H',⟨fun C H' e k o=>⟨C,rfl,e,k,o⟩,pn,M,b,ρ,F,s,l,q.1⟩,fun C H' x hC hx=>?_⟩
 obtain ⟨C',e,hE,k,o⟩:=hC
 cases e
 exact hHD C x H' E F pn l (q.2 C hE) k o hx
end
theorem J7i {xs:List D}{i:Int}{P:D->Prop}(h0:0<=i)(h1:i<xs.length)(h:∀ d∈xs,P d):oIx (.lst xs) (.int i) P:=by
 obtain ⟨j,rfl⟩:∃ j:Nat,i=j:=⟨i.toNat,by omega⟩
 have hj:j<xs.length:=by omega
 have e:atI xs (j:Int)=some xs[j]:=LM (List.getElem?_eq_getElem hj)
 simp only [oIx,e]
 exact h _ (List.getElem_mem hj)
theorem ixm {xs:List D}{i:Int}{P:D->Prop}(h0:0<=i)(h1:i<xs.length)(h:∀ d∈xs,P d):(atI xs i).elim False P:=J7i (P:=P) h0 h1 h
theorem HI {lo:Int}{n i:Nat}{d:D}(h:(Y4 lo n)[i]?=some d):d=.int (lo+i)/\i<n:=by
 have hi:i<n:=by
  have:=(List.getElem?_eq_some_iff.mp h).1
  simpa [Y4] using this
 simp [Y4,hi] at h
 exact ⟨h.symm,hi⟩
abbrev sp4 (x y z w:Int):D:=.tup [.int x,.int y,.int z,.int w]
abbrev t3 (x y z:Int):D:=.tup [.int x,.int y,.int z]
abbrev t2 (x y:Int):D:=.tup [.int x,.int y]
theorem J4v {gd:D->Ev->(Ev->Prop)->Prop}{de:DE}{ρc:Ev}{items:List D}{P:List D->Prop}(Pv:Nat->D->Prop)
 (hs:∀ (i:Nat) x (Q:D->Prop),items[i]?=some x->(∀ y,Pv i y->Q y)->gd x ρc fun ρ1=>de ρ1 Q) (hp:∀ i y,Pv i y->plain y=true)
 (hd:∀ acc:List D,acc.length=items.length->(∀ i y,acc[i]?=some y->Pv i y)->P acc):compI gd QZ de ρc items P:=by
 refine ⟨fun i acc=>acc.length=i/\∀ j y,acc[j]?=some y->Pv j y,⟨rfl,fun j y e=>by simp at e⟩,fun i x acc e ⟨hl,ha⟩=>?_,fun acc ⟨hl,ha⟩=>hd acc hl ha⟩
 have:=hs i x (fun y=>plain y=true/\((acc++[y]).length=i+1/\∀ j z,(acc++[y])[j]?=some z->Pv j z)) e fun y hy=>⟨hp i y hy,by simp [hl],fun j z ez=>?_⟩
 · simpa only [QZ,VS] using this
 · by_cases hj:j<acc.length
   · rw [List.getElem?_append_left hj] at ez
     exact ha j z ez
   · rw [List.getElem?_append_right (by omega)] at ez
     have:j - acc.length=0:=by
      cases q:j - acc.length with
      | zero=>rfl
      | succ m=>rw [q] at ez;simp at ez
     rw [this] at ez
     simp at ez
     subst ez
     have:j=i:=by omega
     subst this
     exact hy
theorem FR {gd:D->Ev->(Ev->Prop)->Prop}{de:DE}{ρc:Ev}{items:List D}{P:List D->Prop}(f:D->D)
 (hs:∀ x (Q:D->Prop),x∈items->Q (f x)->gd x ρc fun ρ1=>de ρ1 Q) (hp:∀ x∈items,plain (f x)=true) (hd:P (items.map f)):compI gd QZ de ρc items P:=by
 refine J4v (fun i y=>∃ x,items[i]?=some x/\y=f x) (fun i x Q e h=>hs x Q (List.mem_of_getElem? e) (h _ ⟨x,e,rfl⟩)) (fun i y ⟨x,e,h⟩=>by rw [h];exact hp x (List.mem_of_getElem? e)) fun acc hl ha=>?_
 have:acc=items.map f:=by
  apply List.ext_getElem?
  intro i
  rw [List.getElem?_map]
  cases q:acc[i]? with
  | none =>
    have:items.length<=i:=by rw [<- hl];exact List.getElem?_eq_none_iff.mp q
    rw [List.getElem?_eq_none_iff.mpr this];rfl
  | some y =>
    obtain ⟨x,e,rfl⟩:=ha i y q
    rw [e];rfl
 rw [this];exact hd
theorem okB.same {B:BagT} {H H':Hp}(o:okB B b H)(S:Same H H'):okB B b H':=fun p e=>B.st p H H' (o p e) fun u h=>S p u h
theorem J9i {α:Type}{l:List α}{x:α}:atI (l++[x]) (-1)=some x:=by
 have e:ixN (l++[x]).length (-1)=some l.length:=by
  unfold ixN
  rw [if_neg (by decide),if_pos (by simp;omega)]
  congr 1
  simp
  omega
 unfold atI
 rw [e]
 simp
structure JE (X:Cx)(W:Wd)(e:Expr)(d:DE):Prop where
 h:PE X e (dn W d)
structure JT (X:Cx)(W:Wd)(e:Expr)(d:DT):Prop where
 h:PT X e (dnT W d)
structure JW (X:Cx)(W:Wd)(e:Expr)(d:DT):Prop where
 h:PW X e (dnT W d)
structure JA (X:Cx)(W:Wd)(es:List Expr)(d:DA):Prop where
 h:PA X es (dnA W d)
structure JO (X:Cx)(W:Wd)(e:Option Expr)(d:DO):Prop where
 h:PO X e (dnO W d)
structure JIf (X:Cx)(W:Wd)(es:List Expr)(d:DT):Prop where
 h:PIf X es (dnT W d)
structure JI (X:Cx)(W:Wd)(fz:Bool)(tg l:Expr)(d:DA):Prop where
 h:PI X tg l (dnI W fz d)
structure JS (X:Cx)(W:Wd)(st:Stmt)(d:DS):Prop where
 h:PS X st (sn W d)
structure JSs (X:Cx)(W:Wd)(st:List Stmt)(d:DS):Prop where
 h:PSs X st (sn W d)
section
variable {X:Cx}{W:Wd}{e a b c:Expr}{es:List Expr}{pos:Pos}{da db dc:DE}{dA:DA}{t:TE}
theorem jdv (i:Nat) {x:Str} {pos:Pos} (hN:X.N[i]?=some x:=by rfl) (hv:Vis X.env.scope x:=by first|exact Or.inl rfl|exact Or.inr (Or.inl rfl)|exact Or.inr (Or.inr rfl)) (hd:(x==("__debug__" : Str))=false:=by decide)
 (hcd:(x==("__classdict__" : Str))=false:=by decide):JE X W (.Name x pos) (J0z i):=⟨dv i hN hv hd hcd⟩
theorem J1 {i j pos}:JE X W (.Constant (.int i) j pos) (dC (.int i)):=⟨Q3u ⟩
theorem MI {i j pos}:JE X W (.Constant (.bool i) j pos) (dC (.bl i)):=⟨Q7b ⟩
theorem YO {j pos}:JE X W (.Constant .none j pos) (dC .non):=⟨Q3r ⟩
theorem FC {i j pos}:JE X W (.Constant (.str i) j pos) (dC (.str i)):=⟨Q3n ⟩
theorem MH {x:Str}{n:Int}{pos:Pos}(hg:Gl X x)(hm:∃ t,X.mg x=some (.int n t))(hd:(x==("__debug__" : Str))=false:=by decide):JE X W (.Name x pos) (dC (.int n)):=⟨J4g hg hm hd⟩
theorem IP {x:Str}{T:String}{pos:Pos}(hg:Gl X x)(hm:X.mg x=none)(hv:bootBuiltins x=some (.type T))(hn:x≠"__name__":=by decide) (hd:(x==("__debug__" : Str))=false:=by decide):JE X W (.Name x pos) (dC (.ty T)):=⟨J8s hg hm hv hn hd⟩
theorem J9 {op:Operator}{r:R2}{o:D->D->(D->Prop)->Prop}(ho:OpR X (binaryOp op) r)(hd:OpD W r o)(ha:JE X W a da)(hb:JE X W b db):JE X W (.BinOp a op b pos) (dOp o da db):=⟨Q6y ho hd ha.h hb.h⟩
theorem DJ {op:CmpOp}{r:R2}{o:D->D->(D->Prop)->Prop}(ho:OpR X (compareOp op) r)(hd:OpD W r o)(ha:JE X W a da)(hb:JE X W b db)(hm:behindInMarks op b=false):JE X W (.Compare a [op] [b] pos) (dOp o da db):=⟨Q3v ho hd ha.h hb.h hm⟩
theorem Q5 {r:R2}{o:D->D->(D->Prop)->Prop}(hr:IxR X r)(hd:OpD W r o)(ha:JE X W a da)(hb:JE X W b db)(hs:NQ b):JE X W (.Subscript a b pos) (dOp o da db):=⟨Q6z hr hd ha.h hb.h hs⟩
theorem FD (ha:JE X W a da):JE X W (.UnaryOp .USub a pos) (dUn Q2b da):=⟨Q3s ha.h⟩
variable {rest:List Expr}
theorem NM {op}(h:JE X W a da):JE X W (.BoolOp op [a] pos) da:=⟨Q3p h.h⟩
theorem LD (ha:JE X W a da)(hb:JE X W (.BoolOp .And (b::rest) pos) db):JE X W (.BoolOp .And (a::b::rest) pos) (Q7j da db):=⟨Q3w ha.h hb.h⟩
theorem Q2o (ha:JE X W a da)(hb:JE X W (.BoolOp .Or (b::rest) pos) db):JE X W (.BoolOp .Or (a::b::rest) pos) (dOr da db):=⟨Q6x ha.h hb.h⟩
theorem J7u (ha:JE X W a da):JE X W (.UnaryOp .Not a pos) (Q7h da):=⟨Q3q ha.h⟩
theorem AB {op:CmpOp}{r:R2}{o:D->D->(D->Prop)->Prop}(ho:OpR X (compareOp op) r)(hd:OpD W r o)(ha:JE X W a da)(hb:JE X W b db)(hm:behindInMarks op b=false):JT X W (.Compare a [op] [b] pos) (J4k (dOp o da db)):=⟨Q3e ho hd ha.h hb.h hm⟩
theorem DI (hK:X.K=W.K)(ha:JE X W a da)(he:∀ whole,isTrue a X.env whole=(do let v <- whole;standAt a.pos;holding [v] (truthy v))):JT X W a (Q7e da):=⟨J3z hK ha.h he⟩
variable {ta tb:DT}
theorem J3f (ha:JT X W a ta):JW X W (.BoolOp .And [a] pos) ta:=⟨J8g ha.h⟩
theorem YN (ha:JT X W a ta):JW X W (.BoolOp .Or [a] pos) ta:=⟨Q3b ha.h⟩
theorem Q2m (ha:JT X W a ta)(hb:JW X W (.BoolOp .Or (b::rest) pos) tb):JW X W (.BoolOp .Or (a::b::rest) pos) (J8u ta tb):=⟨Q0f ha.h hb.h⟩
theorem IZ (ha:JT X W a ta):JT X W (.UnaryOp .Not a pos) (Q0h ta):=⟨Q3d ha.h⟩
theorem Q2p (hc:JT X W c ta)(ha:JE X W a da)(hb:JE X W b db):JE X W (.IfExp c a b pos) (dIf ta da db):=⟨Q7a hc.h ha.h hb.h⟩
theorem J0p {op op':CmpOp}{r r':R2}{o o':D->D->(D->Prop)->Prop}(ho:OpR X (compareOp op) r)(ho':OpR X (compareOp op') r')(hd:OpD W r o)(hd':OpD W r' o')(ha:JE X W a da)(hb:JE X W b db)(hc:JE X W c dc)
 (hm:lastMarks [op,op'] [b,c]=false:=by with_unfolding_all rfl):JE X W (.Compare a [op,op'] [b,c] pos) (J4r o o' da db dc):=⟨J4h ho ho' hd hd' ha.h hb.h hc.h hm⟩
theorem J4:JA X W [] Q4t:=⟨Q3x ⟩
theorem J0 {dr:DA}(ha:JE X W e da)(hr:JA X W es dr)(hs:starEach (e::es) X.env=(false,eval e X.env)::starEach es X.env:=by rfl):JA X W (e::es) (J5t da dr):=⟨J8t ha.h hr.h hs⟩
theorem Y7 {x1}(h:JA X W es dA):JE X W (.Tuple es x1 pos) (Q7c dA):=⟨Q3m h.h⟩
theorem AS (h:JA X W es dA):JE X W (.List es pos) (Q7i dA):=⟨Q3t h.h⟩
end
section
variable {X:Cx}{W:Wd}{e:Expr}{es:List Expr}{pos p:Pos}{dA:DA}{x:Str}{k:Nat}{ps:List Str}{S:DSp}
theorem Q7 (G:Callee X.prog X.w X.K X.mg X.base CX0 x k ps (Q3 W.K W.B S))(hr:Room k X.A)(hg:Gl X x)(ha:JA X W (e::es) dA)(hdb:(x==("__debug__" : Str))=false:=by decide) (he:starEach (e::es) X.env=(false,eval e X.env)::starEach es X.env:=by rfl) (hpl:(backTo pos (starEach es X.env)).any (·.1)=false:=by rfl) :
 JE X W (.Call (.Name x p) (e::es) [] pos) (RA S (fun _=>False) dA):=⟨Q3o G hr hg ha.h hdb he hpl⟩
theorem IN {CX:CXT}{E:XK}{Ed:Addr->Prop}(hE:GU W E Ed)(hp:EU CX X E)(G:Callee X.prog X.w X.K X.mg X.base CX x k ps (Q3 W.K W.B S))(hr:Room k X.A)(hg:Gl X x)(ha:JA X W (e::es) dA)(hdb:(x==("__debug__" : Str))=false:=by decide) (he:starEach (e::es) X.env=(false,eval e X.env)::starEach es X.env:=by rfl) (hpl:(backTo pos (starEach es X.env)).any (·.1)=false:=by rfl) :
 JE X W (.Call (.Name x p) (e::es) [] pos) (RA S Ed dA):=⟨J8q hE hp G hr hg ha.h hdb he hpl⟩
variable {r:List V->Hp->VK->Prop}{o:List D->(D->Prop)->Prop}{id T:String}
theorem V9 (hc:DL X (.builtin id) r)(hd:FT W r o)(hg:Gl X x)(hm:X.mg x=none)(hv:bootBuiltins x=some (.builtin id))(ha:JA X W (e::es) dA)(hn:x≠"__name__":=by decide) (hdb:(x==("__debug__" : Str))=false:=by decide)
 (he:starEach (e::es) X.env=(false,eval e X.env)::starEach es X.env:=by rfl) (hpl:(backTo pos (starEach es X.env)).any (·.1)=false:=by rfl):JE X W (.Call (.Name x p) (e::es) [] pos) (dCB o dA):=⟨J4i hc hd hg hm hv ha.h hn hdb he hpl⟩
theorem AH (hc:DL X (.type T) r)(hd:FT W r o)(hg:Gl X x)(hm:X.mg x=none)(hv:bootBuiltins x=some (.type T))(ha:JA X W (e::es) dA)(hn:x≠"__name__":=by decide) (hdb:(x==("__debug__" : Str))=false:=by decide)
 (he:starEach (e::es) X.env=(false,eval e X.env)::starEach es X.env:=by rfl) (hpl:(backTo pos (starEach es X.env)).any (·.1)=false:=by rfl):JE X W (.Call (.Name x p) (e::es) [] pos) (dCB o dA):=⟨J0x hc hd hg hm hv ha.h hn hdb he hpl⟩
end
section
variable {X:Cx}{W:Wd}{tg l a b:Expr}{pos p:Pos}{dl:DE}{dA:DA}{fz:Bool}
theorem AZ (hK:X.K=W.K)(hl:JE X W l dl):JI X W fz tg l (Q2w fz dl):=⟨Q3l hK hl.h⟩
theorem BF (hg:Gl X "range") (hm:X.mg "range" = none) (ha:JA X W [a] dA) (hs:starEach [a] X.env=[(false,eval a X.env)]:=by rfl):JI X W fz tg (.Call (.Name "range" p) [a] [] pos) (YT dA):=⟨J0w hg hm ha.h hs⟩
theorem JB {elts:List Expr}{c1}{tpos:Pos}(hK:X.K=W.K)(t1 t2:Bool)(hg:Gl X "zip") (hm:X.mg "zip" = none) (ha:JA X W [a,b] dA)
 (h:PI X (.Tuple elts c1 tpos) (.Call (.Name "zip" p) [a,b] [] pos) (J3r W.K t1 t2 (dnA W dA))):JI X W fz (.Tuple elts c1 tpos) (.Call (.Name "zip" p) [a,b] [] pos) (J9z fz t1 t2 dA):=⟨Q3k hK t1 t2 hg hm ha.h h⟩
end
section
variable {X:Cx}{W:Wd}{elt iter tg:Expr}{ifs:List Expr}{scope:Scope}{pos:Pos}{N':List Str}{map:List (Option Nat)}{g:TG}{gd:D->Ev->(Ev->Prop)->Prop}{di:DA}{dt:DT}{de:DE}
theorem Z6 (hG:GD W g gd)(B:Blk X N' scope map tg elt ifs g (dnT W dt) (dn W de))(hi:JI X W false tg iter di)(hs:∀ x,foldedSetIterable iter X.env x=pure x:=by intro _;rfl):JE X W (.ListComp elt [⟨tg,iter,ifs,0⟩] scope pos) (J4q map gd di dt de):=⟨J8r hG B hi.h hs⟩
theorem Z5:JIf X W [] QZ:=⟨J8p ⟩
theorem UW {c:Expr}(hc:JT X W c dt):JIf X W [c] dt:=⟨J8o hc.h⟩
end
section
variable {X:Cx}{W:Wd}{e c tg iter:Expr}{es:List Expr}{pos:Pos}{db de:DE}{dA di:DA}{dt:DT}{st:Stmt}{rest:List Stmt}{d1 d2:DS}
theorem AT:JSs X W [] J4o:=⟨J8i ⟩
theorem Q4 (h:JS X W st d1):JSs X W [st] d1:=⟨J8h h.h⟩
theorem J8 (h1:JS X W st d1)(h2:JSs X W rest d2):JSs X W (st::rest) (Q3y d1 d2):=⟨J4a h1.h h2.h⟩
theorem V6 (he:JE X W e de):JS X W (.Return (some e) pos) (Q3z de):=⟨Q3h he.h⟩
theorem UV (he:JE X W e de)(hs:swapsWith e none pos.line X.env=pure false:=by rfl):JS X W (.Expr e pos) (Q0k de):=⟨J8l he.h hs⟩
theorem CN {s1 s2:List Stmt}(hc:JT X W c dt)(ha:JSs X W s1 d1)(hb:JSs X W s2 d2):JS X W (.If c s1 s2 pos) (Q4b dt d1 d2):=⟨Q6w hc.h ha.h hb.h⟩
theorem Y0 {i:Nat} {x:Str} {pos':Pos} (hN:X.N.Nodup) (hi:X.N[i]?=some x) (hx:Loc X.env.scope x) (he:JE X W e de) (hs:swapsWith e (some (.Name x pos')) pos.line X.env=pure false:=by rfl) (hf:X.fn x=true\/X.env.scope.names.lookup x=some .local:=by first|exact .inl rfl|exact .inr rfl|assumption) :
 JS X W (.Assign [.Name x pos'] e pos) (J1a de (gdN i)):=⟨Q3g hN hi hx he.h hs hf⟩
theorem EE {g:TG}{gd:D->Ev->(Ev->Prop)->Prop}(hG:GD W g gd)(he:JE X W e de)(hg:PG X tg g)(hs:swapsWithSole [tg] e pos.line X.env=pure false:=by rfl)(hw:swappedStores [tg] e X.env=pure none:=by rfl)
 (h1:(assignEach [tg] X.env).map (·.2)=[assign tg X.env]:=by rfl):JS X W (.Assign [tg] e pos) (J1a de gd):=⟨Q3j hG he.h hg hs hw h1⟩
theorem LC {i:Nat} {x:Str} {pos' lpos:Pos} (hN:X.N.Nodup) (hi:X.N[i]?=some x) (hx:Loc X.env.scope x) (ha:JA X W es dA) (hs:swapsWith (.List es lpos) (some (.Name x pos')) pos.line X.env=pure false:=by rfl) (hf:X.fn x=true\/X.env.scope.names.lookup x=some .local:=by first|exact .inl rfl|exact .inr rfl|assumption) :
 JS X W (.Assign [.Name x pos'] (.List es lpos) pos) (Q0j i dA):=⟨J8k hN hi hx ha.h hs hf⟩
theorem J3h {elt iter tg:Expr}{ifs:List Expr}{scope:Scope}{N':List Str}{map:List (Option Nat)}{g:TG}{gd:D->Ev->(Ev->Prop)->Prop}(own:Bool){i:Nat}{y:Str}{py spos:Pos}(hN:X.N.Nodup)(hiN:X.N[i]?=some y)(hy:Loc X.env.scope y)(hG:GD W g gd)(B:Blk X N' scope map tg elt ifs g (dnT W dt) (dn W de))(hi:JI X W false tg iter di)
 (hsw:swapsWith (.ListComp elt [⟨tg,iter,ifs,0⟩] scope pos) (some (.Name y py)) spos.line X.env=pure true:=by rfl) (hfn:X.fn y=true\/X.env.scope.names.lookup y=some .local:=by first|exact .inl rfl|exact .inr rfl)
 (hs:∀ x,foldedSetIterable iter X.env x=pure x:=by intro _;rfl):JS X W (.Assign [.Name y py] (.ListComp elt [⟨tg,iter,ifs,0⟩] scope pos) spos) (Q0i own i map gd di dt de):=⟨J8j own hN hiN hy hG B hi.h hsw hfn hs⟩
theorem XE {i:Nat}{x:Str}{e:Expr}{npos apos cpos:Pos}(hK:X.K=W.K)(hN:X.N[i]?=some x)(hv:Vis X.env.scope x)(ha:JA X W [e] dA)
 (h:PE X (.Call (.Attribute (.Name x npos) "append" apos) [e] [] cpos) (tBM X.K "list" EY (KG i) (dnA W dA))) (hs:swapsWith (.Call (.Attribute (.Name x npos) "append" apos) [e] [] cpos) none pos.line X.env=pure false:=by rfl) :
 JS X W (.Expr (.Call (.Attribute (.Name x npos) "append" apos) [e] [] cpos) pos) (J8x i dA):=⟨J0v hK hN hv ha.h h hs⟩
theorem FA {g:TG}{gd:D->Ev->(Ev->Prop)->Prop}{db:DS}{body:List Stmt}(hG:GD W g gd)(hp:PassesOwn (model X.prog X.w) X.A X.env X.xe)(hc:X.calm=true)(hi:JI X W true tg iter di)(hg:PG X tg g)(hb:JSs X W body db)
 (hs:∀ x,foldedSetIterable iter X.env x=pure x:=by intro _;rfl):JS X W (.For tg iter body [] pos) (J8v gd di db):=⟨Q3i hG hp hc hi.h hg hb.h hs⟩
theorem MG {E:XK}{Ed:Addr->Prop}{C:Addr}(hE:GU W E Ed)(h:PS X st (fun _ _ H1=>E (.ref C) none H1)):JS X W st (J4m Ed C):=⟨J4b hE h⟩
theorem J0n:JS X W st J4p:=⟨J4c ⟩
end
section
variable {X:Cx}{W:Wd}{e:Expr}{pos:Pos}{db dl de:DE}{st:Stmt}
theorem FP:JO X W none oNo:=⟨J8n ⟩
theorem FN (h:JE X W e de):JO X W (some e) (oPt de):=⟨J8m h.h⟩
theorem EJ {lo hi:Option Expr}{dl dh:DO}{p2:Pos}(hr:SlR X (fun x lo hi H Q=>J2c W.K x lo hi H Q\/J2d W.K x lo hi H Q))(he:JE X W e de)(hl:JO X W lo dl)(hu:JO X W hi dh):JE X W (.Subscript e (.Slice lo hi none p2) pos) (dSl de dl dh):=⟨J4f hr he.h hl.h hu.h⟩
theorem J7r {N:List Str} {Ba:Addr}{i:Nat}{th:Addr->TS}{hd:Addr->DEnds->Prop}{db:DS}(Ed:Addr->Prop)(hHD:HD W N K Ba i th hd)(h:PS X st (Q1c N K Ba i (fun E D σ H=>GU W E Ed/\sn W db D σ H) th)):JS X W st (Q7d db Ed hd):=⟨Q3f Ed hHD h⟩
end
section
variable {X:Cx}{W:Wd}{a b:Expr}{rest:List Expr}{pos:Pos}{ta tb:DT}
theorem J7q (ha:JT X W a ta)(hb:JW X W (.BoolOp .And (b::rest) pos) tb):JT X W (.BoolOp .And (a::b::rest) pos) (J4l ta tb):=⟨(Q3c ha.h hb.h).pt⟩
theorem J3g (ha:JT X W a ta)(hb:JW X W (.BoolOp .Or (b::rest) pos) tb):JT X W (.BoolOp .Or (a::b::rest) pos) (J8u ta tb):=⟨(Q0f ha.h hb.h).pt⟩
end
theorem J3w {es:List Expr}{pos:Pos}{env:Env}:∀ x,foldedSetIterable (.List es pos) env x=pure x:=fun _=>rfl
theorem Q5f {es:List Expr}{k}{pos:Pos}{env:Env}:∀ x,foldedSetIterable (.Tuple es k pos) env x=pure x:=fun _=>rfl
theorem ET {X:Cx} {W:Wd} {N':List Str} {scope:Scope} {map:List (Option Nat)} {tg elt:Expr} {ifs:List Expr} {g:TG} {dt:DT} {de:DE} (calm:X.calm=true) (kind:scope.kind=.function) (loc:∀ x∈scope.names,x.2=.local->scope.names.lookup x.1=some .local) (free:(scope.names.all fun p=>!(p.2==NameKind.free)||(X.env.kindOf p.1==some .cell||X.env.kindOf p.1==some .free))=true) (cap:CapOk X scope map N') (keep:LN g map)
 (run:∀ cells C fp s H,PG (Q9 X N' scope cells C fp s H) tg g/\JIf (Q9 X N' scope cells C fp s H) W ifs dt/\JE (Q9 X N' scope cells C fp s H) W elt de):Blk X N' scope map tg elt ifs g (dnT W dt) (dn W de) :=
 ⟨calm,kind,loc,free,cap,keep,fun cells C fp s H=>⟨(run cells C fp s H).1,(run cells C fp s H).2.1.h,(run cells C fp s H).2.2.h⟩⟩
theorem Fun.okD {P:Program}{w:World} {mg:Str->Option Value}{base:Heap}{x qual:Str}{st:Stmt}{f:Addr} {N ps:List Str}{k:Nat}{B:BagT}{Sd:DSp}(F:Fun K x qual st f fd)(S:FnScope N ps (J3 st))(len:∀ ds PP Ed,Sd ds PP Ed->ds.length=ps.length)
 (hbody:∀ (cdv:Value) (A:Around) (outer:List Env) (s:Shared) (H:Hp) (E:XK) (M:Addr->Prop) (bg:Option Addr) (ds:List D) (PP:D->Prop) (Ed:Addr->Prop),Room k (A.deeper (envOfC qual (J3 st) s.heap.objs.size f cdv))->Sd ds PP Ed ->
  ∃ d,JSs (V4 CX0 P w K mg base N qual (J3 st) f cdv A outer s H E).nox ⟨K,B,H,M,bg⟩ (BW st) d/\d { nx:=fun _=>PP .non,rt:=PP } (CH N ds)):FnOk P w K mg base CX0 (k+1) f fd ps (Q3 K B Sd) :=
 F.ok S (Q3.len len) fun cdv A outer s H vs Q E hr h=>by
  obtain ⟨M,bg,ds,PP,Ed,hS,hR,ho,hb,hd,hq,hx⟩:=h
  obtain ⟨d,J,q⟩:=hbody cdv A outer s H E M bg ds PP Ed hr hS
  exact ⟨_,J.h,run hR ho hb hd hq q⟩
theorem Fun.okDX {P:Program}{w:World} {mg:Str->Option Value}{base:Heap}{CX:CXT}{x qual:Str}{st:Stmt}{f:Addr} {N ps:List Str}{k:Nat}{B:BagT}{Sd:DSp}(F:Fun K x qual st f fd)(S:FnScope N ps (J3 st))(len:∀ ds PP Ed,Sd ds PP Ed->ds.length=ps.length)
 (hbody:∀ (cdv:Value) (A:Around) (outer:List Env) (s:Shared) (H:Hp) (E:XK) (M:Addr->Prop) (bg:Option Addr) (ds:List D) (PP:D->Prop) (Ed:Addr->Prop),Room k (A.deeper (envOfC qual (J3 st) s.heap.objs.size f cdv))->GU ⟨K,B,H,M,bg⟩ E Ed->Sd ds PP Ed ->
  ∃ d,JSs (V4 CX P w K mg base N qual (J3 st) f cdv A outer s H E) ⟨K,B,H,M,bg⟩ (BW st) d/\d { nx:=fun _=>PP .non,rt:=PP } (CH N ds)):FnOk P w K mg base CX (k+1) f fd ps (Q3 K B Sd) :=
 F.okX S (Q3.len len) fun cdv A outer s H vs Q E hr h=>by
  obtain ⟨M,bg,ds,PP,Ed,hS,hR,ho,hb,hd,hq,hx⟩:=h
  obtain ⟨d,J,q⟩:=hbody cdv A outer s H E M bg ds PP Ed hr (fun C H' e k o=>hx C H' e k o) hS
  exact ⟨_,J.h,run hR ho hb hd hq q⟩
mutual
def BO:D->Option PyData
 | .non=>some .none
 | .bl b=>some (.bool b)
 | .int i=>some (.int i)
 | .str x=>if PyData.strOk x then some (.str x) else none
 | .tup xs=>(EV xs).map .tuple
 | .lst xs=>(EV xs).map .list
 | .own xs=>(EV xs).map .list
 | .ty _=>none
 | .adr _=>none
 | .bag=>none
 | .frg _ d=>BO d
 | .scr _=>none
 | .dct _ _=>none
def EV:List D->Option (List PyData)
 | []=>some []
 | d::ds=>(BO d).bind fun p=>(EV ds).map (p::·)
end
mutual
theorem BO.lay:∀ (d:D) (p:PyData),BO d=some p->p.canLay0=true
 | .non,p,h=>by cases h;rfl
 | .bl b,p,h=>by cases h;rfl
 | .int i,p,h=>by cases h;rfl
 | .str x,p,h=>by
   unfold BO at h
   split at h
   · cases h;unfold PyData.canLay0;assumption
   · cases h
 | .tup xs,p,h=>by
   unfold BO at h
   obtain ⟨ps,e,rfl⟩:=Option.map_eq_some_iff.mp h
   unfold PyData.canLay0
   exact EV.lay xs ps e
 | .lst xs,p,h=>by
   unfold BO at h
   obtain ⟨ps,e,rfl⟩:=Option.map_eq_some_iff.mp h
   unfold PyData.canLay0
   exact EV.lay xs ps e
 | .own xs,p,h=>by
   unfold BO at h
   obtain ⟨ps,e,rfl⟩:=Option.map_eq_some_iff.mp h
   unfold PyData.canLay0
   exact EV.lay xs ps e
 | .ty _,p,h=>by unfold BO at h;cases h
 | .adr _,p,h=>by unfold BO at h;cases h
 | .bag,p,h=>by unfold BO at h;cases h
 | .frg _ d,p,h=>by unfold BO at h;exact BO.lay d p h
 | .scr _,p,h=>by unfold BO at h;cases h
 | .dct _ _,p,h=>by unfold BO at h;cases h
theorem EV.lay:∀ (ds:List D) (ps:List PyData),EV ds=some ps->PyData.canLayAll0 ps=true
 | [],ps,h=>by cases h;rfl
 | d::ds,ps,h=>by
   unfold EV at h
   obtain ⟨p,e1,h⟩:=Option.bind_eq_some_iff.mp h
   obtain ⟨qs,e2,rfl⟩:=Option.map_eq_some_iff.mp h
   unfold PyData.canLayAll0
   rw [BO.lay d p e1,EV.lay ds qs e2];rfl
end
section
variable {X:Cx}{pins:List (Addr×Obj)}{σ:St}{H:Hp}{s:Shared}{M:Addr->Prop}
mutual
theorem LY (I:Inv X pins σ H s):∀ (d:D) (v:V) (u:Value) (p:PyData),Rep X.K M H d v->RelV v u->BO d=some p->∃ as,Reads s.heap u p as
 | .non,v,u,p,r,q,h=>by cases h;cases (show _=_ from r);cases (show u=Value.none from q);exact ⟨_,.none⟩
 | .bl b,v,u,p,r,q,h=>by cases h;cases (show _=_ from r);cases (show u=Value.bool b from q);exact ⟨_,.bool _⟩
 | .int i,v,u,p,r,q,h=>by
   cases h;cases (show _=_ from r)
   obtain ⟨t,rfl⟩:=(show ∃ t,u=Value.int i t from q)
   exact ⟨_,.int _ _⟩
 | .str x,v,u,p,r,q,h=>by
   unfold BO at h
   split at h
   · cases h;cases (show _=_ from r)
     obtain ⟨t,rfl⟩:=(show ∃ t,u=Value.str x t from q)
     exact ⟨_,.str _ _⟩
   · cases h
 | .tup xs,v,u,p,r,q,h=>by
   unfold BO at h
   obtain ⟨ps,e,rfl⟩:=Option.map_eq_some_iff.mp h
   obtain ⟨a,vs,rfl,z,rs⟩:=r
   cases (show u=Value.ref a from q)
   obtain ⟨its,r1,⟨o,h1,h2,n,h3⟩,_⟩:=I.tuple z.sq
   obtain ⟨as,ra⟩:=HF I xs vs its ps rs r1 e
   exact ⟨as,.tuple h1 h2 h3 (by simpa using ra)⟩
 | .lst xs,v,u,p,r,q,h=>by
   unfold BO at h
   obtain ⟨ps,e,rfl⟩:=Option.map_eq_some_iff.mp h
   obtain ⟨a,vs,rfl,z,rs⟩:=r
   cases (show u=Value.ref a from q)
   obtain ⟨its,r1,⟨o,n,h1,h2,_,h3⟩,_⟩:=I.list (SqL.of z.2)
   obtain ⟨as,ra⟩:=HF I xs vs its ps rs r1 e
   exact ⟨a::as,.list h1 h2 h3 (by simpa using ra)⟩
 | .own xs,v,u,p,r,q,h=>r.elim
 | .ty _,_,_,p,_,_,h=>by unfold BO at h;cases h
 | .adr _,_,_,p,_,_,h=>by unfold BO at h;cases h
 | .bag,_,_,p,_,_,h=>by unfold BO at h;cases h
 | .frg _ _,_,_,p,r,_,h=>r.elim
 | .scr _,_,_,p,_,_,h=>by unfold BO at h;cases h
 | .dct _ _,_,_,p,_,_,h=>by unfold BO at h;cases h
theorem HF (I:Inv X pins σ H s):∀ (ds:List D) (vs:List V) (us:List Value) (ps:List PyData),Reps X.K M H ds vs->Vals vs us->EV ds=some ps->∃ as,ReadsAll s.heap us ps as
 | [],vs,us,ps,r,q,h=>by
   cases h
   cases (show vs=[] from r)
   cases q
   exact ⟨[],.nil⟩
 | d::ds,vs,us,ps,r,q,h=>by
   unfold EV at h
   obtain ⟨p,e1,h⟩:=Option.bind_eq_some_iff.mp h
   obtain ⟨qs,e2,rfl⟩:=Option.map_eq_some_iff.mp h
   obtain ⟨v,rv,rfl,r1,r2⟩:=r
   cases q with
   | cons q1 q2 =>
     obtain ⟨as,a1⟩:=LY I d v _ p r1 q1 e1
     obtain ⟨bs,a2⟩:=HF I ds rv _ qs r2 q2 e2
     exact ⟨as++bs,.cons a1 a2⟩
end
end
def J9n (K:Fg)(M:Addr->Prop)(H:Hp):D->V->Prop
 | .own xs,v=>∃ a vs,v=.ref a/\H a=some (.lst vs)/\Reps K M H xs vs
 | .frg _ d,v=>∃ M',Rep K M' H d v
 | d,v=>Rep K M H d v
theorem RepX.g {W:Wd} {H:Hp}{d:D}{v:V}{p:PyData}(h:RepX W M b H d v)(e:BO d=some p):J9n W.K M H d v:=by
 cases d
 case own xs=>obtain ⟨a,vs,rfl,_,_,_,_,hh,r⟩:=h;exact ⟨a,vs,rfl,hh,r⟩
 case bag=>unfold BO at e;cases e
 case frg f d=>exact ⟨_,h.2.2⟩
 all_goals exact h
theorem HG {X:Cx}{pins:List (Addr×Obj)}{σ:St}{H:Hp}{s:Shared} (I:Inv X pins σ H s){d:D}{v:V}{u:Value}{p:PyData}(r:J9n X.K M H d v)(q:RelV v u)(h:BO d=some p):∃ as,Reads s.heap u p as:=by
 cases d
 case own xs =>
  obtain ⟨a,vs,rfl,hh,r⟩:=r
  unfold BO at h
  obtain ⟨ps,e,rfl⟩:=Option.map_eq_some_iff.mp h
  cases (show u=Value.ref a from q)
  obtain ⟨its,r1,⟨o,n,h1,h2,_,h3⟩,_⟩:=I.list (SqL.of hh)
  obtain ⟨as,ra⟩:=HF I xs vs its ps r r1 e
  exact ⟨a::as,.list h1 h2 h3 (by simpa using ra)⟩
 case frg f d =>
  obtain ⟨M',r⟩:=r
  exact LY (M:=M') I d _ _ _ r q (by unfold BO at h;exact h)
 all_goals exact LY I _ _ _ _ r q h
noncomputable def Q1o (K:Fg)(neg:Bool):R2:=fun x y H Q=>∃ M dx dy p q,J9n K M H dx x/\J9n K M H dy y/\BO dx=some p/\BO dy=some q/\min p.depth q.depth<=60/\Q (.bl (PyData.eqv p q != neg)) H
theorem J2t {X:Cx}(K:Fg)(hK:X.K=K)(hu:X.A.units+64<cLine):OpR X (compareOp .Eq) (Q1o K false):=by
 subst hK
 intro pins s σ H x y v u Q I rx ry h
 obtain ⟨M,dx,dy,p,q,r1,r2,e1,e2,hd,hq⟩:=h
 obtain ⟨as,a1⟩:=HG I r1 rx e1
 obtain ⟨bs,a2⟩:=HG I r2 ry e2
 refine SeqAt.compareEq_reads a1 a2 (BO.lay _ _ e1) (BO.lay _ _ e2) (by omega) ?_
 exact ⟨.bl _,H,I,rfl,by simpa using hq⟩
theorem MC {X:Cx}(K:Fg)(hK:X.K=K)(hu:X.A.units+64<cLine):OpR X (compareOp .NotEq) (Q1o K true):=by
 subst hK
 intro pins s σ H x y v u Q I rx ry h
 obtain ⟨M,dx,dy,p,q,r1,r2,e1,e2,hd,hq⟩:=h
 obtain ⟨as,a1⟩:=HG I r1 rx e1
 obtain ⟨bs,a2⟩:=HG I r2 ry e2
 refine SeqAt.compareNe_reads a1 a2 (BO.lay _ _ e1) (BO.lay _ _ e2) (by omega) ?_
 exact ⟨.bl _,H,I,rfl,by simpa using hq⟩
inductive EqG (neg:Bool)(x y:D)(P:D->Prop):Prop
 | mk (p q:PyData) (e1:BO x=some p) (e2:BO y=some q) (hd:min p.depth q.depth<=60) (h:P (.bl (PyData.eqv p q != neg))):EqG neg x y P
noncomputable def Q9j (neg:Bool):D->D->(D->Prop)->Prop:=fun x y P=>EqG neg x y P
theorem IK {W:Wd}{neg:Bool}:OpD W (Q1o W.K neg) (Q9j neg):=by
 intro M b H x y v u P Q hs rx ry ho k
 obtain ⟨p,q,e1,e2,hd,hp⟩:=ho
 exact ⟨M,x,y,p,q,rx.g e1,ry.g e2,e1,e2,hd,k _ _ H hp (show _=_ from rfl) (Kp.refl _ _) hs.ok⟩
mutual
def BV:Nat->D->Bool
 | _,.non=>true
 | _,.bl _=>true
 | _,.int _=>true
 | _,.str x=>PyData.strOk x
 | n+1,.tup xs=>CZ n xs
 | n+1,.lst xs=>CZ n xs
 | n+1,.own xs=>CZ n xs
 | n,.frg _ d=>BV n d
 | _,_=>false
def CZ:Nat->List D->Bool
 | _,[]=>true
 | n,d::ds=>BV n d&&CZ n ds
end
mutual
theorem ST:∀ (n:Nat) (d:D),BV n d=true->∃ p,BO d=some p/\p.depth<=n/\PyData.eqv p p=true
 | n,.non,h=>⟨_,rfl,Nat.zero_le _,rfl⟩
 | n,.bl b,h=>⟨_,rfl,Nat.zero_le _,by simp [PyData.eqv]⟩
 | n,.int i,h=>⟨_,rfl,Nat.zero_le _,by simp [PyData.eqv]⟩
 | n,.str x,h=>by
   have h:PyData.strOk x=true:=by cases n<;>simpa [BV] using h
   exact ⟨.str x,by unfold BO;rw [if_pos h],Nat.zero_le _,by simp [PyData.eqv]⟩
 | 0,.tup xs,h=>by simp [BV] at h
 | 0,.lst xs,h=>by simp [BV] at h
 | 0,.own xs,h=>by simp [BV] at h
 | n+1,.tup xs,h=>by
   obtain ⟨ps,e,hd,hq⟩:=IS n xs (by simpa [BV] using h)
   exact ⟨.tuple ps,by unfold BO;rw [e];rfl,by unfold PyData.depth;omega,by unfold PyData.eqv;exact hq⟩
 | n+1,.lst xs,h=>by
   obtain ⟨ps,e,hd,hq⟩:=IS n xs (by simpa [BV] using h)
   exact ⟨.list ps,by unfold BO;rw [e];rfl,by unfold PyData.depth;omega,by unfold PyData.eqv;exact hq⟩
 | n+1,.own xs,h=>by
   obtain ⟨ps,e,hd,hq⟩:=IS n xs (by simpa [BV] using h)
   exact ⟨.list ps,by unfold BO;rw [e];rfl,by unfold PyData.depth;omega,by unfold PyData.eqv;exact hq⟩
 | n,.ty _,h=>by cases n<;>simp [BV] at h
 | n,.adr _,h=>by cases n<;>simp [BV] at h
 | n,.bag,h=>by cases n<;>simp [BV] at h
 | n,.frg _ d,h=>by
   obtain ⟨p,e,h1,h2⟩:=ST n d (by cases n<;>simpa [BV] using h)
   exact ⟨p,by unfold BO;exact e,h1,h2⟩
 | n,.scr _,h=>by cases n<;>simp [BV] at h
 | n,.dct _ _,h=>by cases n<;>simp [BV] at h
theorem IS:∀ (n:Nat) (ds:List D),CZ n ds=true->∃ ps,EV ds=some ps/\PyData.depthAll ps<=n/\PyData.eqvAll ps ps=true
 | n,[],h=>⟨[],rfl,Nat.zero_le _,rfl⟩
 | n,d::ds,h=>by
   unfold CZ at h
   obtain ⟨h1,h2⟩:=(Bool.and_eq_true _ _).mp h
   obtain ⟨p,e1,d1,q1⟩:=ST n d h1
   obtain ⟨ps,e2,d2,q2⟩:=IS n ds h2
   exact ⟨p::ps,by unfold EV;rw [e1,e2];rfl,by unfold PyData.depthAll;omega,by unfold PyData.eqvAll;rw [q1,q2];rfl⟩
end
theorem IT {x y:D}{neg:Bool}{P:D->Prop}(n:Nat)(h:BV n x=true)(e:BO y=BO x)(hn:n<=60)(hp:P (.bl (!neg))):EqG neg x y P:=by
 obtain ⟨p,e1,d1,q1⟩:=ST n x h
 refine ⟨p,p,e1,e.trans e1,by omega,?_⟩
 rw [q1]
 simpa using hp
theorem FG {n:Nat}:∀ {ds:List D},(∀ d∈ds,BV n d=true)->CZ n ds=true
 | [],_=>by unfold CZ;rfl
 | d::ds,h=>by
   unfold CZ
   rw [h d (List.mem_cons_self ..),FG fun e he=>h e (List.mem_cons_of_mem _ he)];rfl
def Ite (K:Fg)(l:Addr):It :=
 ⟨fun i H=>∃ ys y,SqL K H l ys/\ys[i]?=some y,
  fun i H v H'=>∃ t y,v=.ref t/\H t=none/\H'=upd H t (.tup [.int i,y])/\∀ ys,SqL K H l ys->ys[i]?=some y,
  fun i H=>∃ ys,SqL K H l ys/\ys.length<=i⟩
def ETn (e it l:Addr)(i:Nat)(h:Heap):Prop:=(∃ old,IsEnum h e it i old)/\ItAt false h it l i
theorem ZV {w:World} {elts:List Expr}{c1}{tpos:Pos}{e it l:Addr}(hne:e≠it):Turn P w K (.Tuple elts c1 tpos) (Ite K l) [e,it] e (ETn e it l) where
 mem:=by simp
 obj:=fun i h st b hb=>by
  obtain ⟨⟨old,s1⟩,d1⟩:=st
  simp only [List.mem_cons,List.not_mem_nil,or_false] at hb
  rcases hb with rfl|rfl
  · exact ⟨_,s1,fun v q=>by cases q⟩
  · exact d1.obj
 keep:=fun i h h' st k=>by
  obtain ⟨⟨old,s1⟩,d1⟩:=st
  exact ⟨⟨old,k e (by simp) _ s1⟩,d1.at fun o x=>k it (by simp) o x⟩
 item:=by
  intro X hP hw hK hc i pins s σ H E I hf st hg
  subst hP hw hK
  obtain ⟨ys,y,h1,q1⟩:=hg
  obtain ⟨⟨old,s1⟩,d1⟩:=st
  obtain ⟨v1,r1,p1,_⟩:=I.list h1
  obtain ⟨u1,m1,t1⟩:=r1.get q1
  have szn:∀ b∈[e,it],b≠s.heap.objs.size:=fun b hb z=>by
   simp only [List.mem_cons,List.not_mem_nil,or_false] at hb
   rcases hb with rfl|rfl
   · exact Nat.lt_irrefl _ (z▸B4 s1)
   · obtain ⟨_,w1,_⟩:=d1.obj;exact Nat.lt_irrefl _ (z▸B4 w1)
  refine wpAny_pyNext_enum_item s1 d1 p1.isList (x:=u1) (by simpa using m1) hne fun h' eo it' tp sz kp=>?_
  refine ⟨_,rfl,wpAny_letOwnedTupleGo_enum (s:={ s with heap:=h',toks:=s.toks+1 }) eo fun hq e4 sb=>?_⟩
  have up:∀ b o,b≠e->h'.get? b=some o->hq.get? b=some o:=fun b o hb x=>sb.extBut _ _ hb x
  have I2:Inv X pins σ (upd H s.heap.objs.size (.tup [.int i,y])) { s with heap:=hq,toks:=s.toks+1 }:=I.zipped (t':=s.toks+1) (fp:=[e,it]) hf (fun b o hb x=>up b o (fun z=>hb (by simp [z])) (kp b o (fun z=>hb (by simp [z])) (fun z=>hb (by simp [z])) x)) (Nat.le_refl _)
   ⟨Nat.le_trans (Nat.le_of_ble_eq_true rfl) AF,[.int i s.toks,u1],.cons ⟨_,rfl⟩ (.cons t1 .nil),⟨_,up _ _ (Ne.symm (szn e (by simp))) tp,rfl,_,rfl⟩⟩
  refine ⟨.ref s.heap.objs.size,_,I2,rfl,⟨_,y,rfl,I.hok.fresh (Nat.le_refl _),rfl,fun zs hz=>by rw [I.list_inj hz h1];exact q1⟩,⟨⟨_,e4⟩,ItAt.at (b:=false) it' fun o x=>up _ o (Ne.symm hne) x⟩,fun b hb=>?_⟩
  rw [V8 (szn b hb)]
  exact (hf b hb).1
 done:=by
  intro X hP hw hK hc i pins s σ H E I hf st hg
  subst hP hw hK
  obtain ⟨ys,h1,q1⟩:=hg
  obtain ⟨⟨old,s1⟩,d1⟩:=st
  obtain ⟨v1,r1,p1,_⟩:=I.list h1
  have hl:=r1.length
  refine wpAny_pyNext_enum_end (I.ok.hd hc) s1 d1 p1.isList (by simp;omega) fun h' kp=>⟨rfl,?_⟩
  exact I.turnedL (t':=s.toks) (fp:=[e,it]) hf fun b o hb x=>kp b o (fun z=>hb (by simp [z])) x
 self:=fun _ _ _ _ _ st h=>by
  obtain ⟨⟨old,s1⟩,d1⟩:=st
  exact wpAny_pyIter_enum s1 h
noncomputable def YU (K:Fg)(ta:TA):TI:=fun σ H R=>ta σ H fun vs H1=>∃ l,vs=[.ref l]/\(∃ ys,SqL K H1 l ys)/\R (Ite K l) H1
theorem YH {X:Cx}{elts:List Expr}{c1}{tpos:Pos}(K:Fg)(hK:X.K=K){e1:Expr}{ta:TA}{p pos:Pos}(hg:Gl X "enumerate") (hm:X.mg "enumerate" = none) (ha:PA X [e1] ta)
 (hs:starEach [e1] X.env=[(false,eval e1 X.env)]:=by rfl):PI X (.Tuple elts c1 tpos) (.Call (.Name "enumerate" p) [e1] [] pos) (YU K ta):=by
 subst hK
 intro pins s σ H R I h
 refine Call_ (IM I hg hm TJ (PyProof.Rows.callWith_type1 (thn (ha pos pins s σ H _ I h) fun us s1 ⟨vs,H1,I1,r1,q1⟩=>?_) hs rfl))
 obtain ⟨l,rfl,⟨ys,h1⟩,q⟩:=q1
 cases r1 with
 | cons r rr =>
 cases rr
 cases r
 obtain ⟨v1,r1,p1,_⟩:=I1.list h1
 refine call_enumerate_list p1.isList fun h' f1 f2 f3 kp=>?_
 refine wpAny_pyIter_enum (s:={ s1 with heap:=h' }) f1 ?_
 refine ⟨s1.heap.objs.size+1,[s1.heap.objs.size+1,s1.heap.objs.size],_,_,H1,rfl,I1.kept (t':=s1.toks) kp,ZV (l:=l) (by show (_:Nat)≠_;omega),⟨⟨_,f1⟩,f2⟩,fun b hb=>?_,q⟩
 have hge:s1.heap.objs.size<=b:=by
  simp only [List.mem_cons,List.not_mem_nil,or_false] at hb
  rcases hb with rfl|rfl<;>first|exact Nat.le_refl _|exact Nat.le_add_right _ _
 exact I1.fpOk hge (I1.hok.fresh hge)
section
variable {X:Cx}{W:Wd}{e a b:Expr}{pos p:Pos}{d:DE}{dA:DA}{fz:Bool}{x:Str}{k:Nat}{ps:List Str}{S:DSp}
def enumD (xs:List D):List D:=xs.mapIdx fun i x=>.tup [.int i,x]
theorem VA (xs:List D):(enumD xs).all plain=true:=by
 unfold enumD
 rw [List.all_eq_true]
 intro y hy
 obtain ⟨i,h,rfl⟩:=List.mem_mapIdx.mp hy
 rfl
noncomputable def Q2x (fz:Bool)(dA:DA):DA:=fun ρ P=>dA ρ fun zs=>match zs with
 | [x]=>(asK fz false x).elim False fun xs=>P (enumD xs)
 | _=>False
theorem YS {x:D}{xs:List D}{l1:Addr}(h1:asK fz false x=some xs):IW W (Ite W.K l1) [(x,.ref l1)] (enumD xs):=by
 intro M b H hs hn
 obtain ⟨⟨a1,us,e1,q1,r1⟩,_⟩:=asK.rep (hn _ (.head _)) h1
 cases e1
 have q1:SqL W.K H l1 us:=q1
 have hlen:(enumD xs).length=xs.length:=by simp [enumD]
 refine ⟨fun i d e=>?_,fun i hi=>⟨us,q1,by rw [r1.length,<- hlen];exact hi⟩⟩
 have hi:i<xs.length:=by rw [<- hlen];exact (List.getElem?_eq_some_iff.mp e).1
 obtain ⟨u,eu,ru⟩:=r1.get (List.getElem?_eq_getElem hi)
 refine ⟨⟨us,u,q1,eu⟩,fun v H3 ⟨t,y1,ev,ht,eH,k1⟩=>?_⟩
 subst ev eH
 have z1:=k1 us q1
 rw [eu] at z1;cases z1
 refine ⟨Same.upd ht,?_⟩
 have ed:d=.tup [.int i,xs[i]]:=by
  have:(enumD xs)[i]?=some (.tup [.int i,xs[i]]):=by simp [enumD,hi]
  rw [this] at e;exact (Option.some.inj e).symm
 subst ed
 exact EZ hs ⟨.int i,[u],rfl,rfl,u,[],rfl,ru,rfl⟩ ht
theorem J3j {elts:List Expr}{c1}{tpos:Pos}(hK:X.K=W.K)(ha:JA X W [a] dA)
 (h:PI X (.Tuple elts c1 tpos) (.Call (.Name "enumerate" p) [a] [] pos) (YU W.K (dnA W dA))):JI X W fz (.Tuple elts c1 tpos) (.Call (.Name "enumerate" p) [a] [] pos) (Q2x fz dA):=⟨h.mono fun σ H R hh=>hh.elim fun pn M b ρ P st h k=>by
 refine ⟨pn,M,b,ρ,_,st,h,fun zs vs H1 hx rx k1 o1=>?_⟩
 match zs,hx with
 | [x],hx =>
   obtain ⟨v,rfl,r⟩:=rx1 rx
   cases e1:asK fz false x with
   | none=>simp only [e1] at hx;exact hx.elim
   | some xs =>
     simp only [e1] at hx
     obtain ⟨⟨a1,us,z1,q1,r1⟩,f1⟩:=asK.rep r e1
     subst z1
     exact ⟨a1,rfl,⟨us,q1⟩,k _ _ _ H1 hx (VA _) (YS e1) (fun q hq=>by
      have z:=List.mem_singleton.mp hq
      subst z;exact ⟨r,f1⟩) k1 o1⟩⟩
def bor:D->D
 | .own xs=>.lst xs
 | .frg _ d=>d
 | d=>d
def Q6v:D->Bool
 | .non=>true
 | .bl _=>true
 | .int _=>true
 | .str _=>true
 | _=>false
noncomputable def V0c (S:DSp)(dA:DA):DE:=fun ρ P=>dA ρ fun ds=>S (ds.map bor) (fun d=>Q6v d=true/\P d) (fun _=>False)
noncomputable def V1y (i:Nat)(dA:DA):DS:=fun F ρ=>dA ρ fun xs=>match xs with
 | [x]=>(asS x).elim False fun ys=>F.nx (ρ.set i (some (.own ys)))
 | _=>False
noncomputable def V1z (i:Nat)(f:List D->List D):DS:=fun F ρ=>match ρ[i]? with
 | some (some (.own ys))=>F.nx (ρ.set i (some (.own (f ys))))
 | _=>False
theorem Reps.reverse {H:Hp}:∀ {ds:List D} {vs:List V},Reps K M H ds vs->Reps K M H ds.reverse vs.reverse
 | [],_,h=>by cases (show _=_ from h);exact rfl
 | d::ds,_,h=>by
   obtain ⟨v,r,rfl,h1,h2⟩:=h
   rw [List.reverse_cons,List.reverse_cons]
   exact Reps.append (Reps.reverse h2) ⟨v,[],rfl,h1,rfl⟩
noncomputable def V1j (le:Int->Int->Prop):List D->(D->Prop)->Prop
 | [x],P=>(asL x).elim False fun xs=>(EF xs).elim False fun ns=>0<ns.length/\∀ M:Int,M∈ns->(∀ a∈ns,le a M)->P (.int M)
 | _,_=>False
theorem J8f {xs:List D}{neg:Bool}{P:D->Prop}(n:Nat)(h:CZ n xs=true)(hp:P (.bl (xs.isEmpty != neg))):EqG neg (.own xs) (.lst []) P:=by
 obtain ⟨ps,e,hd,hq⟩:=IS n xs h
 refine ⟨.list ps,.list [],by unfold BO;rw [e];rfl,rfl,Nat.le_trans (Nat.min_le_right _ _) (by decide),?_⟩
 have:PyData.eqv (.list ps) (.list [])=xs.isEmpty:=by
  cases xs with
  | nil=>cases e;rfl
  | cons x xs =>
    unfold EV at e
    obtain ⟨p,e1,e⟩:=Option.bind_eq_some_iff.mp e
    obtain ⟨qs,e2,rfl⟩:=Option.map_eq_some_iff.mp e
    rfl
 rw [this]
 exact hp
end
abbrev DSO:=List D->(List D->Prop)->(Addr->Prop)->Prop
def DR (K:Fg)(B:BagT)(S:DSO):Sp:=fun vs H Q E=>∃ (M:Addr->Prop) (b:Option Addr) (ds:List D) (P:List D->Prop) (Ed:Addr->Prop),S ds P Ed/\RepAs K M b H ds vs/\okB B b H/\(∀ p,b=some p->M p)/\(∀ c,M c->∃ o,H c=some o) /\
 (∀ xs a us H',P xs->H a=none->H' a=some (.lst us)->Reps K (fun c=>M c\/c=a) H' xs us->Kp b H H'->okB B b H'->Q (.ref a) H')/\∀ C H',Ed C->Kp b H H'->okB B b H'->E (.ref C) none H'
theorem DR.len {B:BagT}{S:DSO}{n:Nat}(h:∀ ds P Ed,S ds P Ed->ds.length=n):∀ vs H Q E,DR K B S vs H Q E->vs.length=n:=fun vs H Q E ⟨M,b,ds,P,Ed,hS,hr,_⟩=>by rw [hr.length];exact h _ _ _ hS
theorem Q9d {B:BagT} {N:List Str}{ds:List D}{vs:List V}{H:Hp}{Q:VK}{P:List D->Prop}{d:DS}(hr:RepAs K M b H ds vs)(ho:okB B b H)(hb:∀ p,b=some p->M p)(hd:∀ c,M c->∃ o,H c=some o)(hq:∀ xs a us H',P xs->H a=none->H' a=some (.lst us)->Reps K (fun c=>M c\/c=a) H' xs us->Kp b H H'->okB B b H'->Q (.ref a) H')
 (h:d { nx:=fun _=>False,rt:=fun _=>False,ro:=P } (CH N ds)):sn ⟨K,B,H,M,b⟩ d { nx:=fun _ H'=>Q .non H',rt:=Q } (CP N vs) H :=
 ⟨[],M,b,CH N ds,{ nx:=fun _=>False,rt:=fun _=>False,ro:=P },YW hr ho hb hd,⟨fun _ _ _ _ _ _ h=>h.elim,fun _ _ _ h=>h.elim,fun _ _ _ _ _ _ h=>h.elim,fun _ _ _ _ _ _ h=>h.elim,fun xs a us H' hp h0 _ hh r k o=>hq xs a us H' hp h0 hh r k o⟩,h⟩
theorem Fun.okDO {P:Program}{w:World} {mg:Str->Option Value}{base:Heap}{x qual:Str}{st:Stmt}{f:Addr} {N ps:List Str}{k:Nat}{B:BagT}{Sd:DSO}(F:Fun K x qual st f fd)(S:FnScope N ps (J3 st))(len:∀ ds PP Ed,Sd ds PP Ed->ds.length=ps.length)
 (hbody:∀ (cdv:Value) (A:Around) (outer:List Env) (s:Shared) (H:Hp) (E:XK) (M:Addr->Prop) (bg:Option Addr) (ds:List D) (PP:List D->Prop) (Ed:Addr->Prop),Room k (A.deeper (envOfC qual (J3 st) s.heap.objs.size f cdv))->Sd ds PP Ed ->
  ∃ d,JSs (V4 CX0 P w K mg base N qual (J3 st) f cdv A outer s H E).nox ⟨K,B,H,M,bg⟩ (BW st) d/\d { nx:=fun _=>False,rt:=fun _=>False,ro:=PP } (CH N ds)):FnOk P w K mg base CX0 (k+1) f fd ps (DR K B Sd) :=
 F.ok S (DR.len len) fun cdv A outer s H vs Q E hr h=>by
  obtain ⟨M,bg,ds,PP,Ed,hS,hR,ho,hb,hd,hq,hx⟩:=h
  obtain ⟨d,J,q⟩:=hbody cdv A outer s H E M bg ds PP Ed hr hS
  exact ⟨_,J.h,Q9d hR ho hb hd hq q⟩
section
variable {X:Cx}{W:Wd}{e a b c l:Expr}{es:List Expr}{pos p:Pos}{d da db de:DE}{dA di:DA}{dt:DT}{x:Str}{k:Nat}{ps:List Str}{S:DSO}
theorem Sta.fresh0 {pn:List (D×V)} {b:Option Addr}{H:Hp}{σ:St}{ρ:Ev}{p:Addr}(s:Sta W pn M b H σ ρ)(h:H p=none):W.H0 p=none/\¬ W.M0 p:=by
 have hbp:b≠some p:=fun z=>by
  obtain ⟨o,e⟩:=W.B.dm p H (s.ok p z)
  rw [h] at e;cases e
 refine ⟨?_,fun z=>s.toHs.new h (s.m0 p z)⟩
 cases q:W.H0 p with
 | none=>rfl
 | some o =>
   by_cases z:W.b0=some p
   · rcases s.new with y|⟨y,_⟩
     · exact absurd (y.trans z) hbp
     · rw [y] at z;cases z
   · have:=s.kp p o z q
     rw [h] at this;cases this
noncomputable def Q7f (de:DE):DS:=fun F ρ=>de ρ fun x=>match x with|.own xs=>F.ro xs|_=>False
theorem UU (he:JE X W e de):JS X W (.Return (some e) pos) (Q7f de):=⟨(GG he.h).mono fun E σ H hh=>hh.elim fun pn M b ρ F s l h=>by
 refine ⟨pn,M,b,ρ,_,s.toSta,h,fun x v H' hx rx k o=>?_⟩
 have s':=s.toSta.step k o
 cases x<;>first|exact hx.elim|skip
 case own xs =>
  obtain ⟨a,vs,rfl,m,n,n0,m0,hh,r⟩:=rx
  exact l.ro _ _ _ H' hx n0 m0 hh (Reps.avoid (fun c z=>.inl (z.elim (s'.m0 c) fun y=>by rw [y];exact m)) _ _ r) s'.kp s'.ok0⟩
noncomputable def V1v (map:List (Option Nat))(gd:D->Ev->(Ev->Prop)->Prop)(di:DA)(dt:DT)(de:DE):DS:=fun F ρ=>di ρ fun items=>items.length<=1000/\compI gd dt de (EX ρ map) items fun acc=>F.ro acc
noncomputable def Q8f (da db:DE):DS:=fun F ρ=>da ρ fun x=>db ρ fun y=>match asL x,asL y with
 | some xs,some ys=>xs.length+ys.length<=1000/\F.ro (xs++ys)
 | _,_=>False
mutual
def noL:D->Bool
 | .tup xs=>GM xs
 | .lst _=>false
 | .own _=>false
 | .bag=>false
 | .frg _ _=>false
 | .scr _=>false
 | .dct _ _=>false
 | .non=>true
 | .bl _=>true
 | .int _=>true
 | .str _=>true
 | .ty _=>true
 | .adr _=>true
def GM:List D->Bool
 | []=>true
 | d::ds=>noL d&&GM ds
end
theorem KZ:∀ {ds:List D},(∀ d∈ds,noL d=true)->GM ds=true
 | [],_=>by unfold GM;rfl
 | d::ds,h=>by
   unfold GM
   rw [h d (List.mem_cons_self ..),KZ fun e he=>h e (List.mem_cons_of_mem _ he)];rfl
section
variable {K:Fg}{M M':Addr->Prop}{H:Hp}
mutual
theorem Rep.unbor (k:∀ c,M c->M' c\/∃ o,H c=some o/\∀ vs,o≠.tup vs):∀ (d:D) (v:V),noL d=true->Rep K M' H d v->Rep K M H d v
 | .non,_,_,h=>h
 | .bl _,_,_,h=>h
 | .int _,_,_,h=>h
 | .str _,_,_,h=>h
 | .ty _,_,_,h=>h
 | .adr _,_,_,h=>h
 | .tup xs,v,n,h=>by
   obtain ⟨a,vs,e,z,r⟩:=h
   refine ⟨a,vs,e,z.imp (fun q=>⟨fun m=>?_,q.2⟩) id,Reps.unbor k xs vs (by unfold noL at n;exact n) r⟩
   rcases k a m with y|⟨us,y,nt⟩
   · exact q.1 y
   · rw [q.2] at y;cases y;exact nt _ rfl
 | .lst _,_,n,_=>by unfold noL at n;cases n
 | .own _,_,n,_=>by unfold noL at n;cases n
 | .bag,_,n,_=>by unfold noL at n;cases n
 | .frg _ _,_,n,_=>by unfold noL at n;cases n
 | .scr _,_,n,_=>by unfold noL at n;cases n
 | .dct _ _,_,n,_=>by unfold noL at n;cases n
theorem Reps.unbor (k:∀ c,M c->M' c\/∃ o,H c=some o/\∀ vs,o≠.tup vs):∀ (ds:List D) (vs:List V),GM ds=true->Reps K M' H ds vs->Reps K M H ds vs
 | [],_,_,h=>h
 | d::ds,vs,n,h=>by
   obtain ⟨v,r,e,h1,h2⟩:=h
   unfold GM at n
   obtain ⟨n1,n2⟩:=(Bool.and_eq_true _ _).mp n
   exact ⟨v,r,e,Rep.unbor k d v n1 h1,Reps.unbor k ds r n2 h2⟩
end
end
def BorAt:List D->List V->Addr->Prop
 | .own _::ds,v::vs,c=>v=.ref c\/BorAt ds vs c
 | .frg f _::ds,_::vs,c=>c∈f.ads\/BorAt ds vs c
 | _::ds,_::vs,c=>BorAt ds vs c
 | _,_,_=>False
theorem BorAt.lst {b:Option Addr}{H:Hp}{c:Addr}:∀ (ds:List D) (vs:List V),RepXs W M b H ds vs->BorAt ds vs c->b≠some c/\∃ o,H c=some o/\∀ vs,o≠.tup vs
 | [],vs,h,q=>by cases (show vs=[] from h);exact q.elim
 | d::ds,vs,h,q=>by
   obtain ⟨v,r,rfl,h1,h2⟩:=h
   cases d
   case own xs =>
    rcases q with z|z
    · obtain ⟨a,us,e,m1,m2,m3,m4,hh,r'⟩:=h1
      rw [z] at e;cases e
      exact ⟨m2,_,hh,fun _ y=>by cases y⟩
    · exact BorAt.lst ds r h2 z
   case frg f d =>
    rcases q with z|z
    · exact ⟨(h1.1 c z).2.1,f.nt _ _ _ h1.2.1 c z⟩
    · exact BorAt.lst ds r h2 z
   all_goals exact BorAt.lst ds r h2 q
theorem RepXs.bor2 {M M':Addr->Prop}{b:Option Addr}{H:Hp}(sub:∀ c,M' c->M c):∀ (ds:List D) (vs:List V),(∀ c,BorAt ds vs c->¬ M' c)->RepXs W M b H ds vs->RepAs W.K M' b H (ds.map L2.bor) vs
 | [],_,_,h=>h
 | d::ds,vs,nb,h=>by
   obtain ⟨v,r,rfl,h1,h2⟩:=h
   have av:∀ c,M' c->M c\/H c=none:=fun c hc=>.inl (sub c hc)
   have nb2:∀ c,BorAt ds r c->¬ M' c:=fun c hc=>nb c (by cases d<;>first|exact hc|exact .inr hc)
   refine ⟨v,r,rfl,?_,RepXs.bor2 sub ds r nb2 h2⟩
   cases d
   case own xs =>
    obtain ⟨a,us,rfl,m1,m2,m3,m4,hh,r'⟩:=h1
    exact ⟨a,us,rfl,⟨nb a (.inl rfl),hh⟩,Reps.avoid av _ _ r'⟩
   case bag=>exact h1
   case frg f d =>
    have r:=Rep.avoid (M':=M') (fun c hc=>.inl ⟨sub c hc,fun m=>nb c (.inl m) hc⟩) _ _ h1.2.2
    show Q4v W.K _ b H d v
    cases d<;>first|exact r|exact r.elim
   all_goals exact Rep.avoid av _ _ h1
theorem J5g {pn:List (D×V)} {b:Option Addr}{H1:Hp}{σ:St}{ρ:Ev}{xs:List D}{vs:List V}{P:List D->Prop}{Q:VK}(st1:Sta W pn M b H1 σ ρ)(rx:RepXs W M b H1 xs vs)(hS:S (xs.map bor) (fun ys=>GM ys=true/\P ys) (fun _=>False))
 (k:∀ ys a us H',P ys->H1 a=none->H' a=some (.lst us)->Reps W.K M H' ys us->Kp b H1 H'->okB W.B b H'->Q (.ref a) H'):DR W.K W.B S vs H1 Q E0:=by
 refine ⟨fun c=>M c/\¬ BorAt xs vs c,b,xs.map bor,_,fun _=>False,hS,RepXs.bor2 (fun c h=>h.1) _ _ (fun c h z=>z.2 h) rx,st1.ok,fun p h=>⟨st1.bagM p h,fun z=>(BorAt.lst xs vs rx z).1 h⟩,fun c hc=>st1.dom c hc.1,fun ys a us H' hp h0 hh r k2 o2=>?_,fun C H' hC=>hC.elim⟩
 refine k ys a us H' hp.2 h0 hh (Reps.unbor (fun c m=>?_) _ _ hp.1 (Reps.avoid (fun c m=>.inl (.inl m)) _ _ r)) k2 o2
 by_cases z:BorAt xs vs c
 · obtain ⟨nb,us',e,nt⟩:=BorAt.lst xs vs rx z
   exact .inr ⟨us',k2 c _ nb e,nt⟩
 · exact .inl ⟨m,z⟩
noncomputable def Q4d (S:DSO)(dA:DA):DE:=fun ρ P=>dA ρ fun ds=>S (ds.map bor) (fun ys=>GM ys=true/\P (.lst ys)) (fun _=>False)
theorem J3l (G:Callee X.prog X.w X.K X.mg X.base CX0 x k ps (DR W.K W.B S))(hr:Room k X.A)(hg:Gl X x)(ha:JA X W (e::es) dA)(hdb:(x==("__debug__" : Str))=false:=by decide) (he:starEach (e::es) X.env=(false,eval e X.env)::starEach es X.env:=by rfl) (hpl:(backTo pos (starEach es X.env)).any (·.1)=false:=by rfl) :
 JE X W (.Call (.Name x p) (e::es) [] pos) (Q4d S dA):=⟨(MA G hr hg ha.h hdb he hpl).mono fun σ H Q hh=>hh.elim fun pn M b ρ P st h k=>by
 refine ⟨pn,M,b,ρ,_,st,h,fun xs vs H1 hx rx k1 o1=>?_⟩
 have st1:=st.step k1 o1
 show DR W.K W.B S (vs++[]) H1 Q E0
 rw [List.append_nil]
 exact J5g (P:=fun ys=>P (.lst ys)) st1 rx hx fun ys a us H' hp h0 hh r k2 o2=>k _ _ H' hp ⟨a,us,rfl,⟨st1.toHs.new h0,hh⟩,r⟩ (k1.trans k2) o2⟩
theorem StS.gotOwn2 {pn:List (D×V)} {b:Option Addr}{H H':Hp}{σ:St}{ρ:Ev}{xs:List D}{vs:List V}{p:Addr}(s:StS W pn M b H σ ρ)(i:Nat)(kp:Kp b H H')(ok:okB W.B b H')(h:H p=none)(hh:H' p=some (.lst vs))(r':Reps W.K (fun c=>M c\/c=p) H' xs vs) :
 StS W pn (fun c=>M c\/c=p) b H' (σ.set i (some (.ref p))) (ρ.set i (some (.own xs))):=by
 have hM:∀ c,(M c\/c=p)->M c\/H c=none:=fun c hc=>hc.imp id (fun z=>by rw [z];exact h)
 have kk:∀ c o,¬ (M c\/c=p)->H c=some o->H' c=some o:=fun c o n e=>kp c o (fun z=>n (.inl (s.bagM c z))) e
 have rep:∀ d v,Rep W.K M H d v->Rep W.K (fun c=>M c\/c=p) H' d v:=fun d v r=>Rep.keep kk _ _ (Rep.avoid hM _ _ r)
 have reps:∀ d v,Reps W.K M H d v->Reps W.K (fun c=>M c\/c=p) H' d v:=fun d v r=>Reps.keep kk _ _ (Reps.avoid hM _ _ r)
 have hbp:b≠some p:=fun z=>by
  obtain ⟨o,e⟩:=W.B.dm p H (s.ok p z)
  rw [h] at e;cases e
 obtain ⟨h0,hm0⟩:=s.toSta.fresh0 h
 have s':=s.toSta.step kp ok
 refine s.add i ⟨⟨ok,fun q e=>.inl (s.bagM q e),fun c hc=>?_,fun c m=>.inl (s.m0 c m)⟩,s'.kp,s.new,fun j d e=>?_,by simp [s.len],fun q hq=>(s.pin q hq).to rep reps fun xs a vs _ _ m n hh'=>⟨.inl m,n,kp _ _ n hh'⟩⟩ fun c m=>by
  cases (show V.ref p=V.ref c from m)
  exact s.toHs.new h
 · rcases hc with hc|hc
   · exact s'.dom c hc
   · rw [hc];exact ⟨_,hh⟩
 · by_cases z:i=j
   · subst z
     rw [List.getElem?_set] at e
     simp at e
     obtain ⟨hl,rfl⟩:=e
     exact ⟨.ref p,by rw [List.getElem?_set];simp [<- s.len,hl],p,vs,rfl,.inr rfl,hbp,h0,hm0,hh,r'⟩
   · rw [List.getElem?_set_ne z] at e
     obtain ⟨w,e1,r1⟩:=s.env j d e
     refine ⟨w,by rw [List.getElem?_set_ne z];exact e1,?_⟩
     cases d
     case own ys =>
      obtain ⟨a,us,rfl,m1,m2,m3,m4,hha,r'⟩:=r1
      exact ⟨a,us,rfl,.inl m1,m2,m3,m4,kp _ _ m2 hha,reps _ _ r'⟩
     case bag=>exact r1
     case frg f _=>exact RepX.move r1 (fun c _ m n=>⟨.inl m,n⟩) (fun c o q e=>q.elim (fun n=>kk c o n e) fun m=>kp c o (r1.1 c m).2.1 e) hM
     all_goals exact rep _ _ r1
noncomputable def V1q (i:Nat)(S:DSO)(dA:DA):DS:=fun F ρ=>dA ρ fun ds=>S (ds.map bor) (fun ys=>GM ys=true/\GM ys=true/\F.nx (ρ.set i (some (.own ys)))) (fun _=>False)
end
def Q9e (lo:Int)(n:Nat):List V:=(List.range n).map fun (k:Nat)=>V.int (lo+k)
noncomputable def tLR (ta:TA):TE:=fun σ H Q=>ta σ H fun vs H1=>∃ i j,vs=[.int i,.int j]/\(-(2 ^ 20)<=i/\i<2 ^ 20/\-(2 ^ 20)<=j/\j<2 ^ 20/\j - i<=1000)/\∀ p,H1 p=none->Q (.ref p) (upd H1 p (.lst (Q9e i (j - i).toNat)))
noncomputable def Q5w (K:Fg):V->Hp->VK->Prop:=fun x H Q=>∃ a xs,x=.ref a/\SqL K H a xs/\∀ p,H p=none->Q (.ref p) (upd H p (.lst xs.reverse))
noncomputable def J9p (K:Fg)(te ts:TE):TE:=fun σ H Q=>te σ H fun x H1=>ts σ H1 fun y H2=>y=.int (-1)/\Q5w K x H2 Q
theorem Q1w {X:Cx}{e st:Expr}{te ts:TE}{p2 pos:Pos}(K:Fg)(hK:X.K=K)(he:PE X e te)(hst:PE X st ts){ops:Addr->Addr->List Value}(hsub:∀ l sl,subscripted (.Slice none none (some st) p2) false (.ref l) (.ref sl)=operate (ops l sl) (getItem (.ref l) (.ref sl))):PE X (.Subscript e (.Slice none none (some st) p2) pos) (J9p K te ts):=by
 subst hK
 intro pins s σ H Q I h
 refine Subscript_ (thn (he pins s σ H _ I h) fun v s1 ⟨x,H1,I1,r1,q1⟩=>?_)
 refine wpAny_Slice ?_
 rw [evalPart_none]
 refine B1 (B1 ?_)
 rw [evalPart_some]
 refine thn (hst pins s1 σ H1 _ I1 q1) fun u s2 ⟨y,H2,I2,r2,hy,q2⟩=>?_
 subst hy
 obtain ⟨t,rfl⟩:=r2
 obtain ⟨a,xs,rfl,hx,q⟩:=q2
 cases r1
 have I4:Inv X pins σ H2 { s2 with heap:=s2.heap.push { cls:=.type "slice",data:=.fields #[.none,.none,.int (-1) t] } }:=I2.kept (t':=s2.toks) fun b ob q=>B3 _ q
 obtain ⟨its,r,ht,hz⟩:=I4.list hx
 have hlen:=r.length
 refine tail_any (ops:=ops a s2.heap.objs.size) ht.isList.typeIs slot_list_getitem.lookup ?_ (hsub a _)
 refine wpAny_getItem_list_slice ht.isList (Heap.IsSliceOf.new ..) .none .none (.int _ _) (by simp) ?_ (by rw [List.size_toArray]<;>omega)
 rw [PySem.W.krv_pick]
 refine ⟨.ref _,_,I4.laid (t':=s2.toks) (o:=.lst xs.reverse) (fun b ob q=>B3 _ q) (Nat.le_refl _) ⟨by rw [List.length_reverse];exact hz,its.reverse,0,r.reverse,?_⟩,rfl,q _ (I4.hok.fresh (Nat.le_refl _))⟩
 rw [Heap.get?_push_size _ rfl]
section
variable {X:Cx}{W:Wd}{e a b st:Expr}{pos:Pos}{de ds:DE}
noncomputable def V1h:List D->(D->Prop)->Prop
 | [.int i,.int j],P=>(-(2 ^ 20)<=i/\i<2 ^ 20/\-(2 ^ 20)<=j/\j<2 ^ 20/\j - i<=1000)/\P (.lst (Y4 i (j - i).toNat))
 | _,_=>False
noncomputable def Q9x (de ds:DE):DE:=fun ρ P=>de ρ fun x=>ds ρ fun y=>match asL x,y with
 | some xs,.int (-1)=>P (.lst xs.reverse)
 | _,_=>False
theorem J7t {p2:Pos}(he:JE X W e de)(hst:JE X W st ds)(h:PE X (.Subscript e (.Slice none none (some st) p2) pos) (J9p W.K (dn W de) (dn W ds))):JE X W (.Subscript e (.Slice none none (some st) p2) pos) (Q9x de ds):=⟨h.mono fun σ H Q hh=>hh.elim fun pn M b ρ P st h k=>by
 refine ⟨pn,M,b,ρ,_,st,h,fun x v H1 hx rx k1 o1=>?_⟩
 refine ⟨pn,M,b,ρ,_,st.step k1 o1,hx,fun y u H2 hy ry k2 o2=>?_⟩
 have s2:=(st.step k1 o1).step k2 o2
 have rx:=rx.step st.bagM k2
 split at hy
 case h_2=>exact hy.elim
 case h_1 xs e1 =>
  cases (show _=_ from ry)
  obtain ⟨a,vs,rfl,hh,r⟩:=asL.rep rx e1
  exact ⟨rfl,a,vs,rfl,SqL.of hh,fun p hp=>k _ _ _ hy (DH s2.toHs r.reverse hp) ((k1.trans k2).trans (Kp.upd hp)) (s2.okU hp)⟩⟩
end
theorem HT.cat_tup0 {prog:Program}{w:World}{A:Around}{E:Value->Shared->Prop}{s:Shared}{t b:Addr}{ws:List Value}{Q:Value->Shared->Prop}(ht:IsTup s.heap t ([]:List Value).toArray)(hb:IsTup s.heap b ws.toArray)(h1:Q (.ref b) s):wpAny (model prog w) A (binaryOp .Add (.ref t) (.ref b)) Q E s:=by
 obtain ⟨⟨cls,dd,data,sl⟩,ho,hc,n,hd⟩:=id ht
 obtain ⟨⟨cls2,dd2,data2,sl2⟩,ho2,hc2,n2,hd2⟩:=id hb
 simp only at hc hd hc2 hd2
 subst hc hd hc2 hd2
 exact concat_meets ⟨_,ho,rfl⟩ ⟨_,ho2,rfl⟩ noFill_tuple_add seq_tuple_add PySem.F.slot_tuple_add PySem.F.entry_tuple_add (PySem.F.args_tuple_add_2 _ _)
  (tuple_addW0 t b _ ws.toArray n n2 dd dd2 sl sl2 rfl) ⟨ho,ho2,h1⟩
noncomputable def J2f (K:Fg):R2:=fun x y H Q=>(∃ a b ys,x=.ref a/\y=.ref b/\SqT K H a []/\SqT K H b ys/\Q (.ref b) H)\/J9u K x y H Q
theorem J2u {X:Cx}(K:Fg)(h:X.K=K):OpR X (binaryOp .Add) (J2f K):=by
 subst h
 intro pins s σ H x y v u Q I rx ry h
 rcases h with ⟨a,b,ys,rfl,rfl,ha,hb,q⟩|h
 · cases rx
   cases ry
   obtain ⟨its,r1,p1,_⟩:=I.tuple ha
   obtain ⟨its2,r2,p2,_⟩:=I.tuple hb
   cases r1
   exact HT.cat_tup0 p1 p2 ⟨.ref b,H,I,rfl,q⟩
 · exact J7d pins s σ H x y v u Q I rx ry h
noncomputable def Q2e:D->D->(D->Prop)->Prop
 | .tup xs,.tup ys,P=>xs.length+ys.length<=1000/\P (.tup (xs++ys))
 | _,_,_=>False
theorem J2w {W:Wd}:OpD W (J2f W.K) Q2e:=by
 intro M b H x y v u P Q hs rx ry ho k
 cases x<;>first|exact ho.elim|skip
 cases y<;>first|exact ho.elim|skip
 rename_i xs ys
 have rx0:=rx
 have ry0:=ry
 obtain ⟨a1,vs,rfl,h1,r1⟩:=rx
 obtain ⟨a2,us,rfl,h2,r2⟩:=ry
 obtain ⟨hl,hp⟩:=ho
 by_cases n1:xs=[]
 · subst n1
   cases (show vs=[] from r1)
   exact .inl ⟨a1,a2,us,rfl,rfl,h1.sq,h2.sq,k _ _ H hp ry0 (Kp.refl _ _) hs.ok⟩
 · refine .inr ⟨a1,a2,vs,us,rfl,rfl,h1.sq,h2.sq,r1.ne n1,by rw [r1.length,r2.length];exact Nat.le_trans hl AF,fun z=>?_,fun _ p hp'=>k _ _ _ hp (EZ hs (Reps.append r1 r2) hp') (Kp.upd hp') (hs.okU hp')⟩
   have:ys=[]:=by
    have:=r2.length
    rw [z] at this
    exact List.length_eq_zero_iff.mp this.symm
   subst this
   rw [List.append_nil] at hp
   exact k _ _ H hp rx0 (Kp.refl _ _) hs.ok
section
variable {dA:DA}{S:DSO}
noncomputable def V1u (dA:DA):DS:=fun F ρ=>dA ρ fun xs=>EI xs=true/\F.ro xs
noncomputable def Q8i (S:DSO)(Ed:Addr->Prop)(dA:DA):DE:=fun ρ P=>dA ρ fun ds=>S (ds.map bor) (fun ys=>GM ys=true/\P (.lst ys)) Ed
noncomputable def Q9v (i:Nat)(S:DSO)(Ed:Addr->Prop)(dA:DA):DS:=fun F ρ=>dA ρ fun ds=>S (ds.map bor) (fun ys=>GM ys=true/\GM ys=true/\F.nx (ρ.set i (some (.own ys)))) Ed
end
section
noncomputable def V2b (i:Nat)(gd:D->Ev->(Ev->Prop)->Prop)(db:DS):DS:=fun F ρ=>match ρ[i]? with
 | some (some (.own xs))=>∀ a:Addr,forI gd db { F with nx:=fun ρ'=>ρ'[i]?=some (some (.adr a))/\F.nx (ρ'.set i (some (.own xs))) } xs (ρ.set i (some (.adr a)))
 | _=>False
theorem J1w {σ:St}{i:Nat}{v:V}(e:σ[i]?=some (some v)):σ.set i (some v)=σ:=by
 apply List.ext_getElem?
 intro n
 by_cases z:i=n
 · subst z;rw [List.getElem?_set,e];simp;exact (List.getElem?_eq_some_iff.mp e).1
 · rw [List.getElem?_set_ne z]
end
section
noncomputable def V1i (le:Int->Int->Prop):List D->(D->Prop)->Prop
 | [.tup xs],P=>(EF xs).elim False fun ns=>0<ns.length/\∀ M:Int,M∈ns->(∀ a∈ns,le a M)->P (.int M)
 | _,_=>False
end
section
variable {dA:DA}
noncomputable def V3l (i:Nat)(dA:DA):DS:=fun F ρ=>match ρ[i]? with
 | some (some (.own ys))=>dA ρ fun xs=>(match xs with | [.lst zs]=>ys.length+zs.length<=1000/\F.nx (ρ.set i (some (.own (ys++zs))))|_=>False)
 | _=>False
end
section
variable {da db:DE}
noncomputable def Q8h (i:Nat)(da db:DE):DS:=fun F ρ=>da ρ fun x=>db ρ fun y=>match asL x,asL y with
 | some xs,some ys=>xs.length+ys.length<=1000/\F.nx (ρ.set i (some (.own (xs++ys))))
 | _,_=>False
end
section
variable {κ:Type} [DecidableEq κ]
def TV (kvs:List (κ×V))(k:κ):Option V:=(kvs.find? fun kv=>decide (kv.1=k)).map (·.2)
def J0b (kvs:List (κ×V))(k:κ)(v:V):List (κ×V) :=
 if (kvs.any fun kv=>decide (kv.1=k))=true then kvs.map (fun kv=>if kv.1=k then (kv.1,v) else kv) else kvs++[(k,v)]
def J4d (kvs:List (κ×V))(k:κ):List (κ×V):=kvs.filter fun kv=>decide (kv.1≠k)
theorem KV.length {kvs:List (κ×V)}{vs:List (κ×Value)}(r:KV kvs vs):kvs.length=vs.length:=Paired.length r
end
abbrev KT (H:Hp):List (List Key×V)->List (List Key×Addr×Value)->Prop:=Paired fun p q=>p.1=q.1/\H q.2.1=some (.tup (p.1.map kV))/\RelV p.2 q.2.2
def DGet (H:Hp)(a:Addr)(y:V)(r:Option V):Prop :=
 (∃ kvs k,Rd H a (.dK kvs)/\y=kV k/\r=TV kvs k)\/∃ kvs k b,Rd H a (.dT kvs)/\y=.ref b/\H b=some (.tup (k.map kV))/\r=TV kvs k
def DPut (H:Hp)(a:Addr)(y v:V)(H':Hp):Prop :=
 (∃ kvs k,H a=some (.dK kvs)/\y=kV k/\kvs.length<sizeLine/\H'=upd H a (.dK (J0b kvs k v))) \/
 ∃ kvs k b,H a=some (.dT kvs)/\y=.ref b/\H b=some (.tup (k.map kV))/\kvs.length<sizeLine/\H'=upd H a (.dT (J0b kvs k v))
theorem DGet.k {H:Hp}{a:Addr}{kvs:List (Key×V)}{k:Key}(e:H a=some (.dK kvs)):DGet H a (kV k) (TV kvs k):=.inl ⟨kvs,k,.inl e,rfl,rfl⟩
theorem DGet.t {H:Hp}{a b:Addr}{kvs:List (List Key×V)}{k:List Key}(e:H a=some (.dT kvs))(eb:H b=some (.tup (k.map kV))):DGet H a (.ref b) (TV kvs k):=.inr ⟨kvs,k,b,.inl e,rfl,eb,rfl⟩
theorem DPut.k {H:Hp}{a:Addr}{kvs:List (Key×V)}{k:Key}{v:V}(e:H a=some (.dK kvs))(hl:kvs.length<sizeLine):DPut H a (kV k) v (upd H a (.dK (J0b kvs k v))):=.inl ⟨kvs,k,e,rfl,hl,rfl⟩
theorem DPut.t {H:Hp}{a b:Addr}{kvs:List (List Key×V)}{k:List Key}{v:V}(e:H a=some (.dT kvs))(eb:H b=some (.tup (k.map kV)))(hl:kvs.length<sizeLine) :
 DPut H a (.ref b) v (upd H a (.dT (J0b kvs k v))):=.inr ⟨kvs,k,b,e,rfl,eb,hl,rfl⟩
def V3v (i:Expr):Prop:=∀ ov iv,subscripted i false ov iv=operate [ov,iv] (getItem ov iv)
noncomputable def V1b (td ty:TE):TE:=fun σ H Q=>td σ H fun x H1=>ty σ H1 fun y H2=>∃ a v,x=.ref a/\DGet H2 a y (some v)/\Q v H2
noncomputable def V2u (ty td:TE):TE:=fun σ H Q=>ty σ H fun y H1=>td σ H1 fun x H2=>∃ a o,x=.ref a/\DGet H2 a y o/\Q (.bl o.isSome) H2
noncomputable def Q7z (ty td:TE):TE:=fun σ H Q=>ty σ H fun y H1=>td σ H1 fun x H2=>∃ a o,x=.ref a/\DGet H2 a y o/\Q (.bl (!o.isSome)) H2
noncomputable def V1e (td ty tv:TE):TS:=fun D σ H=>tv σ H fun v H1=>td σ H1 fun x H2=>ty σ H2 fun y H3=>∃ a H4,x=.ref a/\DPut H3 a y v H4/\D.nx σ H4
noncomputable def V1g (td ty tv:TE)(rd:V->V->Hp->VK->Prop):TS:=fun D σ H=>td σ H fun x H1=>ty σ H1 fun y H2=>∃ a v,x=.ref a/\DGet H2 a y (some v) /\
 tv σ H2 fun y2 H3=>rd v y2 H3 fun z H4=>∃ H5,DPut H4 a y z H5/\D.nx σ H5
noncomputable def V1f (td ty:TE):TS:=fun D σ H=>td σ H fun x H1=>ty σ H1 fun y H2=>∃ a kvs k,x=.ref a/\H2 a=some (.dK kvs)/\y=kV k/\(TV kvs k).isSome=true/\D.nx σ (upd H2 a (.dK (J4d kvs k)))
noncomputable def Q8x:TE:=fun _ H Q=>∀ p,H p=none->Q (.ref p) (upd H p (.dK []))
noncomputable def Q8w:TE:=fun _ H Q=>∀ p,H p=none->Q (.ref p) (upd H p (.dT []))
noncomputable def RN:List (TE×TE)->St->Hp->(List (V×V)->Hp->Prop)->Prop
 | [],_,H,Q=>Q [] H
 | (tk,tv)::r,σ,H,Q=>tk σ H fun x H1=>tv σ H1 fun y H2=>RN r σ H2 fun ps H3=>Q ((x,y)::ps) H3
abbrev VV:List (V×V)->List (Value×Value)->Prop:=Paired fun p q=>RelV p.1 q.1/\RelV p.2 q.2
def PPs (X:Cx)(pos:Pos)(keys:List (Option Expr))(values:List Expr)(trs:List (TE×TE)):Prop :=
 ∀ (pins:List (Addr×Obj)) (s:Shared) (σ:St) (H:Hp) (Q:List (V×V)->Hp->Prop),Inv X pins σ H s->RN trs σ H Q ->
  wpAny (model X.prog X.w) X.A (evalPairs (pairTrees keys values X.env pos)) (fun vs s'=>∃ ps H',Inv X pins σ H' s'/\VV ps vs/\Q ps H') X.xe s
def Q2g (kvs more:List (Key×V)):List (Key×V):=more.foldl (fun acc kv=>J0b acc kv.1 kv.2) kvs
noncomputable def V1a (trs:List (TE×TE)):TE:=fun σ H Q=>∀ p,H p=none->RN trs σ (upd H p (.dK [])) fun ps H2=>H2 p=some (.dK [])/\∃ kvs:List (Key×V),ps=kvs.map (fun kv=>(kV kv.1,kv.2))/\kvs.length<=15/\Q (.ref p) (upd H2 p (.dK (Q2g [] kvs)))
structure M1 (X:Cx)(o:Expr)(m:Str)(apos:Pos)(e:Expr)(cpos:Pos):Prop where
 base:attributeBase o m X.env (eval o X.env)=eval o X.env
 few:((backTo cpos (starEach [e] X.env)).all (fun x=>!x.1)&&(backToKw cpos (keywordEach [] X.env)).all (fun x=>x.1.isSome)
  && decide (([e]:List Expr).length+([]:List Keyword).length+(if ([]:List Keyword).isEmpty then 0 else 1)<30))=true
 line:(apos.endLine==cpos.line)=true
 trees:backTo cpos (starEach [e] X.env)=[(false,eval e X.env)]
structure M2 (X:Cx)(o:Expr)(m:Str)(apos:Pos)(e f:Expr)(cpos:Pos):Prop where
 base:attributeBase o m X.env (eval o X.env)=eval o X.env
 few:((backTo cpos (starEach [e,f] X.env)).all (fun x=>!x.1)&&(backToKw cpos (keywordEach [] X.env)).all (fun x=>x.1.isSome)
  && decide (([e,f]:List Expr).length+([]:List Keyword).length+(if ([]:List Keyword).isEmpty then 0 else 1)<30))=true
 line:(apos.endLine==cpos.line)=true
 trees:backTo cpos (starEach [e,f] X.env)=[(false,eval e X.env),(false,eval f X.env)]
def IsD (H:Hp)(a:Addr):Prop:=(∃ kvs,Rd H a (.dK kvs))\/∃ kvs,Rd H a (.dT kvs)
noncomputable def Q8z (td ty:TE):TE:=fun σ H Q=>td σ H fun x H1=>∃ a,x=.ref a/\IsD H1 a/\ty σ H1 fun y H2=>∃ o,DGet H2 a y o/\Q (o.getD .non) H2
noncomputable def Q8y (td ty tx:TE):TE:=fun σ H Q=>td σ H fun x H1=>∃ a,x=.ref a/\IsD H1 a/\ty σ H1 fun y H2=>tx σ H2 fun z H3=>∃ o,DGet H3 a y o/\Q (o.getD z) H3
noncomputable def Q8v (td ty:TE):TE:=fun σ H Q=>td σ H fun x H1=>∃ a,x=.ref a/\IsD H1 a/\ty σ H1 fun y H2=>∃ kvs k v,H2 a=some (.dK kvs)/\y=kV k/\TV kvs k=some v/\Q v (upd H2 a (.dK (J4d kvs k)))
noncomputable def Q8u (td ty tx:TE):TE:=fun σ H Q=>td σ H fun x H1=>∃ a,x=.ref a/\IsD H1 a/\ty σ H1 fun y H2=>tx σ H2 fun z H3=>∃ kvs k,H3 a=some (.dK kvs)/\y=kV k /\
 (∀ v,TV kvs k=some v->Q v (upd H3 a (.dK (J4d kvs k))))/\(TV kvs k=none->Q z H3)
section
def Q2f (kvs:List (List Key×V))(more:List (List Key×Addr×V)):List (List Key×V):=more.foldl (fun acc x=>J0b acc x.1 x.2.2) kvs
end
noncomputable def Q8t (trs:List (TE×TE)):TE:=fun σ H Q=>∀ p,H p=none->RN trs σ (upd H p (.dT [])) fun ps H2=>H2 p=some (.dT [])/\∃ more:List (List Key×Addr×V),ps=more.map (fun x=>(.ref x.2.1,x.2.2))/\(∀ x∈more,H2 x.2.1=some (.tup (x.1.map kV)))/\more.length<=15/\Q (.ref p) (upd H2 p (.dT (Q2f [] more)))
def Q0e:List (List Int)->List D->List Int->Option D
 | k::ks,x::xs,n=>if k=n then some x else Q0e ks xs n
 | _,_,_=>none
section
variable {dA:DA}{df:DE}
noncomputable def V2a (i:Nat)(dA:DA)(df:DE):DE:=fun ρ P=>match ρ[i]? with
 | some (some (.dct ks xs))=>dA ρ fun ys=>(match EF ys with|some ns=>ys.length<=1000/\df ρ fun z=>plain z=true/\P ((Q0e ks xs ns).getD z)|none=>False)
 | _=>False
noncomputable def J4n:List (DA×DE)->Ev->(List (List Int×Int)->Prop)->Prop
 | [],_,P=>P []
 | (dk,dv)::r,ρ,P=>dk ρ fun ys=>match EF ys with
   | some ns=>ys.length<=1000/\dv ρ fun z=>(match z with|.int n=>J4n r ρ fun ps=>P ((ns,n)::ps)|_=>False)
   | none=>False
noncomputable def V2d (ps:List (DA×DE)):DE:=fun ρ P=>J4n ps ρ fun kx=>((kx.map (·.1)).Nodup/\kx.length<=15)/\P (.dct (kx.map (·.1)) (kx.map fun p=>.int p.2))
end
section
variable {dA:DA}
noncomputable def V1w (i:Nat)(gd:D->Ev->(Ev->Prop)->Prop)(dA:DA):DS:=fun F ρ=>match ρ[i]? with
 | some (some (.own ys))=>dA ρ fun xs=>(match xs with
   | [.int k]=>(0<=k/\k<ys.length/\ys.length<=1000)/\(ys[k.toNat]?).elim False fun y=>gd y (ρ.set i (some (.own (ys.eraseIdx k.toNat)))) F.nx
   | _=>False)
 | _=>False
end
section
variable {X:Cx}{e:Expr}{dA:DA}
noncomputable def YE:V->List V->Hp->VK->Prop:=fun x vs H Q=>∃ (l:Addr) (bs:List Bool) (c:Bool),x=.ref l/\vs=[.bl c]/\H l=some (.lst (bs.map V.bl))/\Q (.int ((bs.countP (·==c):Nat))) H
def isB (c:Bool):Value->Bool
 | .bool b=>b==c
 | _=>false
theorem VJ:∀ {bs:List Bool} {us:List Value},Vals (bs.map V.bl) us->us=bs.map Value.bool
 | [],us,r=>by cases r;rfl
 | b::bs,us,r=>by
   cases r with
   | cons r1 r2 =>
     cases (show _=_ from r1)
     rw [VJ r2];rfl
theorem J0k:MtM X "list.count" YE:=by
 intro pins s σ H x vs v us Q I rx rv h
 obtain ⟨l,bs,c,rfl,rfl,hH,q⟩:=h
 cases rx
 obtain ⟨u,rfl,ru⟩:=rv.one
 cases (show _=_ from ru)
 obtain ⟨z,its,n,r,hl,e⟩:=I.lstM hH
 have er:=VJ r
 subst er
 refine call_meets F.slot_list_count ⟨_,e,rfl⟩ F.entry_list_count (F.args_list_count_2 _ _) (PySem.SeqAt.list_countAt l _ n none #[] (.bool c) (isB c)) ⟨e,fun y hy=>?_,?_⟩
 · simp only [List.mem_toArray,List.mem_map] at hy
   obtain ⟨b,_,rfl⟩:=hy
   exact PySem.SeqAt.EqAt.bool_bool b c
 · refine ⟨.int _,H,I.tok _,⟨_,rfl⟩,?_⟩
   have:(List.countP (isB c) (bs.map Value.bool).toArray.toList)=bs.countP (·==c):=by
    simp only [List.countP_map]
    rfl
   rw [this]
   exact q
noncomputable def Q9z (i:Nat)(dA:DA):DE:=fun ρ P=>match ρ[i]? with
 | some (some x)=>(match asL x with
   | some xs=>(match HW xs with
     | some bs=>dA ρ fun ys=>(match ys with | [.bl c]=>P (.int ((bs.countP (·==c):Nat)))|_=>False)
     | none=>False)
   | none=>False)
 | _=>False
end
def J3q:Nat->List (Option Nat)->Bool
 | _,[]=>true
 | n,none::m=>J3q (n+1) m
 | n,some i::m=>(i==n)&&J3q (n+1) m
def VY:List (Option Nat)->List (Option Nat)->Bool
 | [],[]=>true
 | none::m,_::n=>VY m n
 | some _::m,some _::n=>VY m n
 | _,_=>false
structure DOk (X:Cx)(P0:List (Addr×Obj))(D:Addr):Prop where
 loc:D≠X.env.locals
 fs:D∉X.fs
 cell:∀ x c,X.env.cells.lookup x=some c->c≠D
 sz:X.s₀.heap.objs.size<=D
 pn:∀ p∈X.pn++P0,p.1≠D
abbrev V3h (its:List Value)(k:Nat):Obj:={ cls:=.type "list",data:=.seq (List.toArray its) k }
structure Blk2 (X:Cx)(N':List Str)(scope:Scope)(map mp2:List (Option Nat))(tg tg2 iter2 elt:Expr)(ifs:List Expr)(g:TG)(wi2:TI)(g2:TG)(tt:TT)(te:TE):Prop where
 calm:X.calm=true
 kind:scope.kind=.function
 loc:∀ x∈scope.names,x.2=.local->scope.names.lookup x.1=some .local
 free:(scope.names.all fun p=>!(p.2==NameKind.free)||(X.env.kindOf p.1==some .cell||X.env.kindOf p.1==some .free))=true
 cap:CapOk X scope map N'
 keep:LN g map
 keep2:LN g2 mp2
 ids:J3q 0 mp2=true
 sub:VY map mp2=true
 fold:∀ env x,foldedSetIterable iter2 env x=pure x
 run:∀ cells C fp s H,PG (Q9 X N' scope cells C fp s H).nox tg g/\PI (Q9 X N' scope cells C fp s H).nox tg2 iter2 wi2/\PG (Q9 X N' scope cells C fp s H).nox tg2 g2/\PIf (Q9 X N' scope cells C fp s H).nox ifs tt/\PE (Q9 X N' scope cells C fp s H).nox elt te
def J5u (J:It)(g:TG)(mp2:List (Option Nat))(wi2:TI)(g2:TG)(tt:TT)(te:TE)(σc:St)(Fin:List V->Hp->Prop)(W:Nat->Nat->List V->Hp->Prop):Prop :=
 ∀ i m acc H2,W i m acc H2->(J.stop i H2/\acc.length<=sizeLine/\Fin acc H2) \/
  (J.go i H2/\∃ N:List V->Hp->Prop,(∀ acc' H',N acc' H'->∃ m',m'<m/\W (i+1) m' acc' H')/\∀ x H3,J.yld i H2 x H3->g x σc H3 fun σ4 H4=>wi2 σ4 H4 fun J2 H5=>∃ W2:Nat->Nat->List V->Hp->Prop,(∃ m,W2 0 m acc H5)/\PQ J2 g2 tt te (capt σ4 mp2) N W2)
section
variable {X:Cx}{elt tg tg2 iter2:Expr}{ifs:List Expr}{scope:Scope}{N':List Str}{map mp2:List (Option Nat)}{wi wi2:TI}{g g2:TG}{tt:TT}{te:TE}
theorem Blk2.one (B:Blk2 X N' scope map mp2 tg tg2 iter2 elt ifs g wi2 g2 tt te):Blk X N' scope map tg elt ifs (fun _ _ _ _=>False) (fun _ _ _=>False) (fun _ _ _=>False) :=
 ⟨B.calm,B.kind,B.loc,B.free,B.cap,fun _ _ _ _ z=>z.elim,fun _ _ _ _ _=>⟨fun _ _ _ _ _ _ _ _ _ z=>z.elim,fun _ _ _ _ _ _ z=>z.elim,fun _ _ _ _ _ _ z=>z.elim⟩⟩
noncomputable def Q9a (wi:TI)(map mp2:List (Option Nat))(g:TG)(wi2:TI)(g2:TG)(tt:TT)(te:TE):TE:=fun σ H Q=>wi σ H fun J H1=>∃ W:Nat->Nat->List V->Hp->Prop,(∃ m,W 0 m [] H1) /\
 J5u J g mp2 wi2 g2 tt te (capt σ map) (fun acc H'=>∀ D,H' D=none->Q (.ref D) (upd H' D (.lst acc))) W
noncomputable def Q5d (i:Nat)(wi:TI)(map mp2:List (Option Nat))(g:TG)(wi2:TI)(g2:TG)(tt:TT)(te:TE):TS:=fun D σ H=>wi σ H fun J H1=>∃ W:Nat->Nat->List V->Hp->Prop,(∃ m,W 0 m [] H1) /\
 J5u J g mp2 wi2 g2 tt te (capt σ map) (fun acc H'=>∀ d,H' d=none->D.nx (σ.set i (some (.ref d))) (upd H' d (.lst acc))) W
end
inductive compG (gd:D->Ev->(Ev->Prop)->Prop)(dt:DT)(de:DE)(ρc:Ev)(items acc0:List D)(P:List D->Prop):Prop
 | mk (I:Nat->List D->Prop) (h0:I 0 acc0) (hs:∀ (i:Nat) x acc,items[i]?=some x->I i acc->gd x ρc fun ρ1=>dt ρ1 fun c=>IfP c (de ρ1 fun y=>plain y=true/\I (i+1) (acc++[y])) (I (i+1) acc)) (hd:∀ acc,I items.length acc->P acc):compG gd dt de ρc items acc0 P
inductive compI2 (gd:D->Ev->(Ev->Prop)->Prop)(mp2:List (Option Nat))(di2:DA)(gd2:D->Ev->(Ev->Prop)->Prop)(dt:DT)(de:DE)(ρc:Ev)(items:List D)(P:List D->Prop):Prop
 | mk (I:Nat->List D->Prop) (h0:I 0 []) (hs:∀ (i:Nat) x acc,items[i]?=some x->I i acc->gd x ρc fun ρ1=>di2 ρ1 fun ys=>ys.length<=31/\compG gd2 dt de (EX ρ1 mp2) ys acc (I (i+1))) (hd:∀ acc,I items.length acc->P acc):compI2 gd mp2 di2 gd2 dt de ρc items P
noncomputable def V0a (map mp2:List (Option Nat))(gd:D->Ev->(Ev->Prop)->Prop)(di:DA)(gd2:D->Ev->(Ev->Prop)->Prop)(di2:DA)(dt:DT)(de:DE):DE:=fun ρ P=>di ρ fun items=>items.length<=31/\compI2 gd mp2 di2 gd2 dt de (EX ρ map) items fun acc=>P (.lst acc)
noncomputable def Q8e (own:Bool)(i:Nat)(map mp2:List (Option Nat))(gd:D->Ev->(Ev->Prop)->Prop)(di:DA)(gd2:D->Ev->(Ev->Prop)->Prop)(di2:DA)(dt:DT)(de:DE):DS:=fun F ρ=>di ρ fun items=>items.length<=31/\compI2 gd mp2 di2 gd2 dt de (EX ρ map) items fun acc=>F.nx (ρ.set i (some (if own then .own acc else .lst acc)))
noncomputable def Q8g (map mp2:List (Option Nat))(gd:D->Ev->(Ev->Prop)->Prop)(di:DA)(gd2:D->Ev->(Ev->Prop)->Prop)(di2:DA)(dt:DT)(de:DE):DS:=fun F ρ=>di ρ fun items=>items.length<=31/\compI2 gd mp2 di2 gd2 dt de (EX ρ map) items fun acc=>F.ro acc
inductive whI (dc:DT)(db:DS)(F:DEnds)(ρ:Ev):Prop
 | mk (I:Nat->Ev->Prop) (m:Nat) (h0:I m ρ) (hs:∀ m ρ,I m ρ->dc ρ fun c=>IfP c (db { F with nx:=fun ρ'=>∃ m',m'<m/\I m' ρ',ct:=fun ρ'=>∃ m',m'<m/\I m' ρ',bk:=F.nx } ρ) (F.nx ρ)):whI dc db F ρ
noncomputable def J4j (dc:DT)(db:DS):DS:=fun F ρ=>whI dc db F ρ
section
variable {X:Cx}{W:Wd}{c:Expr}{dc:DT}{db:DS}{body:List Stmt}{pos:Pos}
theorem J1n:∀ E σ H,sn W (J4j dc db) E σ H->VX (dnT W dc) (sn W db) E σ H:=fun E σ H hh=>hh.elim fun pn M b ρ F s l h=>by
 obtain ⟨I,m0,i0,step⟩:=h
 refine ⟨fun m σ H=>∃ M b ρ,StS W pn M b H σ ρ/\I m ρ,⟨m0,M,b,ρ,s,i0⟩,?_⟩
 rintro m σ H ⟨M,b,ρ,s,i⟩
 refine ⟨pn,M,b,ρ,_,s.toSta,step m ρ i,fun c H1 h1 k1 o1=>?_⟩
 have s1:=s.step k1 o1
 cases h1 with
 | t e h1 =>
   dsimp only
   rw [if_pos e]
   exact ⟨fun σ' H'=>∃ m',m'<m/\∃ M b ρ,StS W pn M b H' σ' ρ/\I m' ρ,fun σ' H' n=>n,pn,M,b,ρ,{ F with nx:=fun ρ'=>∃ m',m'<m/\I m' ρ',ct:=fun ρ'=>∃ m',m'<m/\I m' ρ',bk:=F.nx },s1,⟨fun M b ρ σ H s' ⟨m',lt,h'⟩=>⟨m',lt,M,b,ρ,s',h'⟩,l.rt,fun M b ρ σ H s' h'=>l.nx _ _ _ _ _ s' h',fun M b ρ σ H s' ⟨m',lt,h'⟩=>⟨m',lt,M,b,ρ,s',h'⟩,l.ro⟩,h1⟩
 | f e h1 =>
   dsimp only
   rw [if_neg (by rw [e];exact Bool.false_ne_true)]
   exact l.nx _ _ _ _ _ s1 h1
theorem J0m (hp:PassesOwn (model X.prog X.w) X.A X.env X.xe)(hc:JT X W c dc)(hb:JSs X W body db):JS X W (.While c body [] pos) (J4j dc db):=⟨(UE hp hc.h hb.h).mono J1n⟩
noncomputable def Q8j (i j:Nat)(dA:DA):DS:=fun F ρ=>match ρ[i]?,ρ[j]? with
 | some (some (.own xs)),some (some (.own ys))=>i≠j/\dA ρ fun ks=>(match ks with
   | [.int k]=>(0<=k/\k<ys.length/\ys.length<=1000/\xs.length<1000)/\(ys[k.toNat]?).elim False fun y=>F.nx ((ρ.set j (some (.own (ys.eraseIdx k.toNat)))).set i (some (.own (xs++[y]))))
   | _=>False)
 | _,_=>False
end
def Q1n (a b c:Int):Nat:=if a<b then ((b - a - 1) / c+1).toNat else 0
def V0t (lo st:Int)(n:Nat):It:=⟨fun i _=>i<n,fun i H x H'=>H'=H/\x=.int (lo+i*st),fun i _=>n<=i⟩
section
noncomputable def V1m (ta:TA):TI:=fun σ H R=>ta σ H fun vs H1=>∃ i j k:Int,vs=[.int i,.int j,.int k]/\(0<=i/\i<=1000/\0<=j/\j<=1000/\1<=k/\k<=1000)/\R (V0t i k (Q1n i j k)) H1
end
def J2b (lo st:Int)(n:Nat):List D:=(List.range n).map fun (i:Nat)=>.int (lo+i*st)
section
variable {dA:DA}
noncomputable def Q8c (dA:DA):DA:=fun ρ P=>dA ρ fun xs=>match xs with
 | [.int i,.int j,.int k]=>(0<=i/\i<=1000/\0<=j/\j<=1000/\1<=k/\k<=1000)/\P (J2b i k (Q1n i j k))
 | _=>False
end
section
variable {W:Wd}{cs:List Expr}{dC dA:DA}{S:DSp}{pre:List D->Prop}
noncomputable def V0b (S:DSp)(pre:List D->Prop)(dC dA:DA):DE:=fun ρ P=>dC ρ fun cs=>cs.all CD=true/\pre cs/\dA ρ fun ds=>ds.all plain=true/\S (.bag::ds) P (fun _=>False)
theorem RepXs.asA {b':Option Addr}{H:Hp}:∀ (ds:List D) (vs:List V),RepXs W M b H ds vs->ds.all L2.plain=true->RepAs W.K M b' H ds vs
 | [],_,h,_=>h
 | d::ds,vs,h,q=>by
   obtain ⟨v,r,e,h1,h2⟩:=h
   simp only [List.all_cons,Bool.and_eq_true] at q
   refine ⟨v,r,e,?_,RepXs.asA ds r h2 q.2⟩
   cases d<;>first|exact h1|cases q.1
end
def Q5a (K:Fg)(n:Nat)(a:Addr):It:=⟨(Itv K n a).go,(Itv K n a).yld,fun i _=>n<=i⟩
theorem ZT {w:World} {tg:Expr}(n:Nat)(a it:Addr):Turn P w K tg (Q5a K n a) [it] it (fun i h=>i<=n/\h.IsRevIter it a ((n:Int) - 1 - i)) where
 mem:=by simp
 obj:=(HY (P:=P) (w:=w) (K:=K) (tg:=tg) n a it).obj
 keep:=(HY (P:=P) (w:=w) (K:=K) (tg:=tg) n a it).keep
 item:=(HY (P:=P) (w:=w) (K:=K) (tg:=tg) n a it).item
 done:=by
  intro X hP hw hK hc i pins s σ H E I hf st hg
  have hg:n<=i:=hg
  exact (HY (P:=P) (w:=w) (K:=K) (tg:=tg) n a it).done X hP hw hK hc i pins s σ H E I hf st (show i=n from Nat.le_antisymm st.1 hg)
 self:=(HY (P:=P) (w:=w) (K:=K) (tg:=tg) n a it).self
noncomputable def Q0b (K:Fg)(ta:TA):TI:=fun σ H R=>ta σ H fun vs H1=>∃ l xs,vs=[.ref l]/\SqL K H1 l xs/\R (Q5a K xs.length l) H1
theorem J7a {X:Cx}{tg:Expr}(K:Fg)(hK:X.K=K){e1:Expr}{ta:TA}{p pos:Pos}(hg:Gl X "reversed") (hm:X.mg "reversed" = none) (ha:PA X [e1] ta) (hs:starEach [e1] X.env=[(false,eval e1 X.env)]:=by rfl) :
 PI X tg (.Call (.Name "reversed" p) [e1] [] pos) (Q0b K ta):=by
 subst hK
 intro pins s σ H R I h
 refine Call_ (IM I hg hm VI (PyProof.Rows.callWith_type1 (thn (ha pos pins s σ H _ I h) fun us s1 ⟨vs,H1,I1,r1,q1⟩=>?_) hs rfl))
 obtain ⟨l,xs,e,hq,q⟩:=q1
 subst e
 obtain ⟨u,rfl,rx⟩:=KC r1
 cases rx
 obtain ⟨its,rv,pl,_⟩:=I1.list hq
 have hl:=rv.length
 refine call_reversed_list pl.isList ?_
 have e0:(s1.heap.push (revObj l ((its.toArray.size:Int) - 1))).get? s1.heap.objs.size=some (revObj l ((its.toArray.size:Int) - 1)):=Heap.get?_push_size _ rfl
 have r0:Heap.IsRevIter (s1.heap.push (revObj l ((its.toArray.size:Int) - 1))) s1.heap.objs.size l ((xs.length:Int) - 1 - (0:Nat)):=⟨_,e0,rfl,by
  simp only [revObj,List.size_toArray,<- hl]
  simp⟩
 refine wpAny_pyIter_revIter (s:={ s1 with heap:=s1.heap.push (revObj l ((its.toArray.size:Int) - 1)) }) r0 ?_
 refine ⟨s1.heap.objs.size,[s1.heap.objs.size],_,_,H1,rfl,I1.kept (t':=s1.toks) fun b o e=>B3 _ e,ZT xs.length l _,⟨Nat.zero_le _,r0⟩,fun b hb=>?_,q⟩
 have e:b=s1.heap.objs.size:=by simpa using hb
 subst e
 exact I1.fpOk (Nat.le_refl _) (I1.hok.fresh (Nat.le_refl _))
section
variable {X:Cx}{W:Wd}{a tg:Expr}{pos p:Pos}{dA:DA}{fz:Bool}
noncomputable def Q6q (fz:Bool)(dA:DA):DA:=fun ρ P=>dA ρ fun zs=>match zs with
 | [x]=>(asK fz false x).elim False fun xs=>P xs.reverse
 | _=>False
theorem Q2u {x:D}{xs:List D}{l1:Addr}(h1:asK fz false x=some xs):IW W (Q5a W.K xs.length l1) [(x,.ref l1)] xs.reverse:=by
 intro M b H hs hn
 obtain ⟨⟨a1,us,e1,q1,r1⟩,_⟩:=asK.rep (hn _ (.head _)) h1
 cases e1
 have q1:SqL W.K H l1 us:=q1
 have hlen:=r1.length
 refine ⟨fun i d e=>?_,fun i hi=>?_⟩
 · have hi:i<xs.length:=by rw [<- List.length_reverse];exact (List.getElem?_eq_some_iff.mp e).1
   rw [List.getElem?_reverse hi] at e
   obtain ⟨u,eu,ru⟩:=r1.get e
   refine ⟨⟨us,q1,hlen,hi⟩,fun v H3 ⟨eH,k1⟩=>?_⟩
   subst eH
   have z1:=k1 us q1
   rw [List.getElem?_reverse (by omega),hlen,eu] at z1
   cases z1
   exact ⟨Same.refl _,ru.x⟩
 · rw [List.length_reverse] at hi;exact hi
theorem J7s (hK:X.K=W.K)(ha:JA X W [a] dA)
 (h:PI X tg (.Call (.Name "reversed" p) [a] [] pos) (Q0b W.K (dnA W dA))):JI X W fz tg (.Call (.Name "reversed" p) [a] [] pos) (Q6q fz dA):=⟨h.mono fun σ H R hh=>hh.elim fun pn M b ρ P st h k=>by
 refine ⟨pn,M,b,ρ,_,st,h,fun zs vs H1 hx rx k1 o1=>?_⟩
 match zs,hx with
 | [x],hx =>
   obtain ⟨v,rfl,r⟩:=rx1 rx
   cases e1:asK fz false x with
   | none=>simp only [e1] at hx;exact hx.elim
   | some xs =>
     simp only [e1] at hx
     obtain ⟨⟨a1,us,z1,q1,r1⟩,f1⟩:=asK.rep r e1
     subst z1
     have hl:us.length=xs.length:=r1.length
     refine ⟨a1,us,rfl,q1,?_⟩
     rw [hl]
     exact k _ _ _ H1 hx (by rw [List.all_reverse];exact r1.plain) (Q2u e1) (fun q hq=>by
      have z:=List.mem_singleton.mp hq
      subst z;exact ⟨r,f1⟩) k1 o1⟩
end
abbrev Om:=Nat->Prop
def LG (p:Addr)(H:Hp):Nat:=match H p with|some (.lst [_,_,.int st])=>st.toNat|_=>0
def cnt (b:Option Addr)(H:Hp):Nat:=match b with|none=>0|some p=>LG p H
theorem BC {B:BagT} {H H':Hp}(o:okB B b H)(k:Kp none H H'):cnt b H'=cnt b H:=by
 cases b with
 | none=>rfl
 | some p =>
   obtain ⟨u,e⟩:=B.dm p H (o p rfl)
   have e':=k p u (by intro z;cases z) e
   show LG p H'=LG p H
   unfold LG
   rw [e,e']
theorem EL {H H':Hp}(k:Kp none H H'):Kp b H H':=fun c o _ e=>k c o (by intro z;cases z) e
theorem IJ {B:BagT}{H:Hp}:okB B none H:=fun p e=>by cases e
theorem BS {B:BagT} {H H':Hp}(o:okB B b H)(k:Kp none H H'):okB B b H':=fun p e=>B.st p H H' (o p e) fun u z=>k p u (by intro y;cases y) z
abbrev DE3:=Ev->(D->Om)->Om
abbrev DT3:=Ev->(Bool->Om)->Om
abbrev DA3:=Ev->(List D->Om)->Om
def cn (W:Wd)(d:DE3):TE:=fun σ H Q=>∃ pn M b ρ P,Sta W pn M b H σ ρ/\d ρ P (cnt b H)/\∀ x v H',P x (cnt b H')->RepX W M b H' x v->Kp b H H'->okB W.B b H'->Q v H'
def cnT (W:Wd)(d:DT3):TT:=fun σ H Q=>∃ pn M b ρ P,Sta W pn M b H σ ρ/\d ρ P (cnt b H)/\∀ x H',P x (cnt b H')->Kp b H H'->okB W.B b H'->Q x H'
def cnA (W:Wd)(d:DA3):TA:=fun σ H Q=>∃ pn M b ρ P,Sta W pn M b H σ ρ/\d ρ P (cnt b H)/\∀ xs vs H',P xs (cnt b H')->RepXs W M b H' xs vs->Kp b H H'->okB W.B b H'->Q vs H'
def cnI (W:Wd)(fz:Bool)(di:DA3):TI:=fun σ H R=>∃ pn M b ρ P,Sta W pn M b H σ ρ/\di ρ P (cnt b H)/\∀ items J need H',P items (cnt b H')->items.all plain=true->IW W J need items->(∀ q∈need,RepX W M b H' q.1 q.2/\(fz=true->plain q.1=true))->Kp b H H'->okB W.B b H'->R J H'
theorem cn.elim {W:Wd}{d:DE3}{σ:St}{H:Hp}{Q:VK}{R:Prop}(h:cn W d σ H Q)(f:∀ pn M b ρ P,Sta W pn M b H σ ρ->d ρ P (cnt b H)->(∀ x v H',P x (cnt b H')->RepX W M b H' x v->Kp b H H'->okB W.B b H'->Q v H')->R):R:=by
 obtain ⟨pn,M,b,ρ,P,st,h,k⟩:=h
 exact f pn M b ρ P st h k
theorem cnT.elim {W:Wd}{d:DT3}{σ:St}{H:Hp}{Q:Bool->Hp->Prop}{R:Prop}(h:cnT W d σ H Q)(f:∀ pn M b ρ P,Sta W pn M b H σ ρ->d ρ P (cnt b H)->(∀ x H',P x (cnt b H')->Kp b H H'->okB W.B b H'->Q x H')->R):R:=by
 obtain ⟨pn,M,b,ρ,P,st,h,k⟩:=h
 exact f pn M b ρ P st h k
theorem cnA.elim {W:Wd}{d:DA3}{σ:St}{H:Hp}{Q:List V->Hp->Prop}{R:Prop}(h:cnA W d σ H Q)(f:∀ pn M b ρ P,Sta W pn M b H σ ρ->d ρ P (cnt b H)->(∀ xs vs H',P xs (cnt b H')->RepXs W M b H' xs vs->Kp b H H'->okB W.B b H'->Q vs H')->R):R:=by
 obtain ⟨pn,M,b,ρ,P,st,h,k⟩:=h
 exact f pn M b ρ P st h k
theorem cnI.elim {W:Wd}{fz:Bool}{d:DA3}{σ:St}{H:Hp}{R:It->Hp->Prop}{Z:Prop}(h:cnI W fz d σ H R)(f:∀ pn M b ρ P,Sta W pn M b H σ ρ->d ρ P (cnt b H)->(∀ items J need H',P items (cnt b H')->items.all plain=true->IW W J need items->(∀ q∈need,RepX W M b H' q.1 q.2/\(fz=true->plain q.1=true))->Kp b H H'->okB W.B b H'->R J H')->Z):Z:=by
 obtain ⟨pn,M,b,ρ,P,st,h,k⟩:=h
 exact f pn M b ρ P st h k
structure CJE (X:Cx)(W:Wd)(e:Expr)(d:DE3):Prop where
 h:PE X e (cn W d)
structure CJT (X:Cx)(W:Wd)(e:Expr)(d:DT3):Prop where
 h:PT X e (cnT W d)
structure CJW (X:Cx)(W:Wd)(e:Expr)(d:DT3):Prop where
 h:PW X e (cnT W d)
structure CJA (X:Cx)(W:Wd)(es:List Expr)(d:DA3):Prop where
 h:PA X es (cnA W d)
structure CJIf (X:Cx)(W:Wd)(es:List Expr)(d:DT3):Prop where
 h:PIf X es (cnT W d)
structure CJI (X:Cx)(W:Wd)(fz:Bool)(tg l:Expr)(d:DA3):Prop where
 h:PI X tg l (cnI W fz d)
def noH (b:Option Addr)(H0:Hp):Hp:=fun c=>if b=some c then none else H0 c
abbrev Wn (W:Wd)(H0:Hp):Wd:=⟨W.K,W.B,H0,W.M0,none⟩
theorem UQ {H0:Hp}{c:Addr}(h:H0 c=none):noH b H0 c=none:=by unfold noH;split<;>first|rfl|exact h
theorem JG {W:Wd}{pn:List (D×V)} {H:Hp}{σ:St}{ρ:Ev}(s:Sta W pn M b H σ ρ):Sta (Wn W (noH b W.H0)) [] M none H σ (CG ρ):=by
 refine ⟨⟨IJ,fun p e=>(by cases e),s.dom,s.m0⟩,fun c o _ e=>?_,.inl rfl,fun i d e=>?_,by simp [CG,s.len],fun q hq=>(by cases hq)⟩
 · have e:noH b W.H0 c=some o:=e
   unfold noH at e
   split at e
   · cases e
   · rename_i nb
     refine s.kp c o (fun z=>?_) e
     rcases s.new with q|⟨q,_⟩
     · exact nb (q.trans z)
     · rw [q] at z;cases z
 · obtain ⟨e1,nb⟩:=MM e
   obtain ⟨v,e2,r⟩:=s.env i d e1
   refine ⟨v,e2,?_⟩
   cases d
   case own xs =>
    obtain ⟨a,vs,rfl,m1,m2,m3,m4,hh,r'⟩:=r
    exact ⟨a,vs,rfl,m1,(by intro z;cases z),UQ m3,m4,hh,r'⟩
   case bag=>exact absurd rfl nb
   case frg f _=>exact ⟨fun c m=>⟨(r.1 c m).1,(by intro z;cases z),UQ (r.1 c m).2.2.1,(r.1 c m).2.2.2⟩,r.2⟩
   all_goals exact r
theorem J1z {W W':Wd}(hK:W'.K=W.K) {b b':Option Addr}{H:Hp}{d:D}{v:V}(h:RepX W' M b H d v)(p:plain d=true):RepX W M b' H d v:=by
 have:=h.rep p
 rw [hK] at this
 exact Rep.x (W:=W) this
section
variable {X:Cx}{W:Wd}{e b l tg:Expr}{es:List Expr}{pos p:Pos}{fz:Bool}
noncomputable def cP (d:DE):DE3:=fun ρ P n=>d (CG ρ) fun x=>plain x=true/\P x n
noncomputable def cPT (d:DT):DT3:=fun ρ P n=>d (CG ρ) fun x=>P x n
noncomputable def cPA (d:DA):DA3:=fun ρ P n=>d (CG ρ) fun xs=>xs.all plain=true/\P xs n
noncomputable def cPI (d:DA):DA3:=fun ρ P n=>d (CG ρ) fun xs=>P xs n
theorem J7 {d:DE}(h:∀ H0,JE X (Wn W H0) e d):CJE X W e (cP d):=⟨fun pins s σ H Q I hh=>hh.elim fun pn M b ρ P st hd k=>by
 refine (h (noH b W.H0)).h pins s σ H Q I ⟨[],M,none,CG ρ,_,(JG st),hd,fun x v H' hx rx k' o'=>?_⟩
 exact k x v H' (by rw [BC st.ok k'];exact hx.2) (J1z (W:=W) (W':=Wn W (noH b W.H0)) rfl rx hx.1) (EL k') (BS st.ok k')⟩
theorem DN {d:DT}(h:∀ H0,JT X (Wn W H0) e d):CJT X W e (cPT d):=⟨fun pins s σ H Q I hh=>hh.elim fun pn M b ρ P st hd k=>by
 refine (h (noH b W.H0)).h pins s σ H Q I ⟨[],M,none,CG ρ,_,(JG st),hd,fun x H' hx k' o'=>?_⟩
 exact k x H' (by rw [BC st.ok k'];exact hx) (EL k') (BS st.ok k')⟩
theorem xsW {W W':Wd}(hK:W'.K=W.K) {b b':Option Addr}{H:Hp}:∀ (ds:List D) (vs:List V),RepXs W' M b H ds vs->ds.all L2.plain=true->RepXs W M b' H ds vs
 | [],_,h,_=>h
 | d::ds,vs,h,q=>by
   obtain ⟨v,r,e,h1,h2⟩:=h
   simp only [List.all_cons,Bool.and_eq_true] at q
   refine ⟨v,r,e,?_,xsW hK ds r h2 q.2⟩
   have:=h1.rep q.1
   rw [hK] at this
   exact Rep.x (W:=W) this
theorem PJ {d:DA}(h:∀ H0,JA X (Wn W H0) es d):CJA X W es (cPA d):=⟨fun pos pins s σ H Q I hh=>hh.elim fun pn M b ρ P st hd k=>by
 refine (h (noH b W.H0)).h pos pins s σ H Q I ⟨[],M,none,CG ρ,_,(JG st),hd,fun xs vs H' hx rx k' o'=>?_⟩
 exact k xs vs H' (by rw [BC st.ok k'];exact hx.2) (xsW (W:=W) (W':=Wn W (noH b W.H0)) (b':=b) rfl _ _ rx hx.1) (EL k') (BS st.ok k')⟩
theorem J7w {W:Wd}{H0:Hp}{J:It}{need:List (D×V)}{items:List D}(hI:IW (Wn W H0) J need items)(hn:∀ q∈need,plain q.1=true)(hp:items.all plain=true):IW W J need items:=fun M b H hs hq=>by
 obtain ⟨h1,h2⟩:=hI M none H ⟨IJ,fun p e=>(by cases e),hs.dom,hs.m0⟩ fun q hq'=>J1z (W:=Wn W H0) (W':=W) rfl (hq q hq') (hn q hq')
 refine ⟨fun i d e=>⟨(h1 i d e).1,fun x H3 y=>⟨((h1 i d e).2 x H3 y).1,?_⟩⟩,h2⟩
 have r:=((h1 i d e).2 x H3 y).2
 exact J1z (W:=W) (W':=Wn W H0) rfl r (List.all_eq_true.mp hp d (List.mem_of_getElem? e))
theorem GQ {d:DA}(h:∀ H0,JI X (Wn W H0) true tg l d):CJI X W fz tg l (cPI d):=⟨fun pins s σ H R I hh=>hh.elim fun pn M b ρ P st hd k=>by
 refine (h (noH b W.H0)).h pins s σ H R I ⟨[],M,none,CG ρ,_,(JG st),hd,fun items J need H' hx hp hI hn k' o'=>?_⟩
 exact k items J need H' (by rw [BC st.ok k'];exact hx) hp (J7w hI (fun q hq=>(hn q hq).2 rfl) hp) (fun q hq=>⟨J1z (W:=W) (W':=Wn W (noH b W.H0)) rfl (hn q hq).1 ((hn q hq).2 rfl),fun _=>(hn q hq).2 rfl⟩) (EL k') (BS st.ok k')⟩
end
def noB:D->Bool
 | .bag=>false
 | _=>true
theorem RepX.nob {W:Wd} {H:Hp}{d:D}{v:V}(h:RepX W M b H d v)(p:noB d=true):RepX W M none H d v:=by
 cases d
 case own xs =>
  obtain ⟨a,vs,e,m1,m2,m3,m4,hh,r⟩:=h
  exact ⟨a,vs,e,m1,(by intro z;cases z),m3,m4,hh,r⟩
 case bag=>cases p
 case frg f _=>exact ⟨fun c m=>⟨(h.1 c m).1,(by intro z;cases z),(h.1 c m).2.2⟩,h.2⟩
 all_goals exact h
theorem Hs.nob {W:Wd} {H:Hp}(s:Hs W M b H):Hs W M none H:=⟨IJ,fun p e=>(by cases e),s.dom,s.m0⟩
section
variable {X:Cx}{W:Wd}{e a b c tg:Expr}{es:List Expr}{pos p:Pos}{d da db dl:DE3}{dA:DA3}{x:Str}{k:Nat}{ps:List Str}
noncomputable def Q7k (i:Nat):DE3:=fun ρ P n=>match ρ[i]? with|some (some d)=>P d n|_=>False
theorem cjv (i:Nat) {x:Str} {pos:Pos} (hN:X.N[i]?=some x:=by rfl) (hv:Vis X.env.scope x:=by first|exact Or.inl rfl|exact Or.inr (Or.inl rfl)|exact Or.inr (Or.inr rfl)) (hd:(x==("__debug__" : Str))=false:=by decide)
 (hcd:(x==("__classdict__" : Str))=false:=by decide):CJE X W (.Name x pos) (Q7k i):=⟨(WK hN hv hd hcd).mono fun σ H Q hh=>hh.elim fun pn M b ρ P st h k=>by
 unfold Q7k at h
 split at h
 case h_1 d e =>
  obtain ⟨v,e1,r⟩:=st.env i d e
  exact ⟨v,e1,k d v H h r (Kp.refl _ _) st.ok⟩
 case h_2=>exact h.elim⟩
noncomputable def cOp (o:D->D->(D->Prop)->Prop)(da db:DE3):DE3:=fun ρ P=>da ρ fun x=>db ρ fun y n=>(noB x&&noB y)=true/\o x y fun z=>plain z=true/\P z n
theorem VT {r:R2}{o:D->D->(D->Prop)->Prop}(hd:OpD W r o):∀ σ H Q,cn W (cOp o da db) σ H Q->tOp r (cn W da) (cn W db) σ H Q:=by
 intro σ H Q hh
 refine hh.elim fun pn M b ρ P st h k=>?_
 refine ⟨pn,M,b,ρ,_,st,h,fun x v H1 hx rx k1 o1=>?_⟩
 refine ⟨pn,M,b,ρ,_,st.step k1 o1,hx,fun y u H2 hy ry k2 o2=>?_⟩
 have st2:=(st.step k1 o1).step k2 o2
 obtain ⟨n1,n2⟩:=(Bool.and_eq_true _ _).mp hy.1
 exact hd M none H2 x y v u _ Q st2.toHs.nob ((rx.step st.bagM k2).nob n1) (ry.nob n2) hy.2 fun z w H' hz rz k3 o3=>k z w H' (by rw [BC o2 k3];exact hz.2) (J1z (W:=W) (W':=W) rfl rz hz.1) ((k1.trans k2).trans (EL k3)) (BS o2 k3)
theorem BR {op:Operator}{r:R2}{o:D->D->(D->Prop)->Prop}(ho:OpR X (binaryOp op) r)(hd:OpD W r o)(ha:CJE X W a da)(hb:CJE X W b db):CJE X W (.BinOp a op b pos) (cOp o da db):=⟨(BE ho ha.h hb.h).mono (VT hd)⟩
theorem IV {r:R2}{o:D->D->(D->Prop)->Prop}(hr:IxR X r)(hd:OpD W r o)(ha:CJE X W a da)(hb:CJE X W b db)(hs:NQ b):CJE X W (.Subscript a b pos) (cOp o da db):=⟨(HS hr ha.h hb.h hs).mono (VT hd)⟩
noncomputable def Q7l (da:DE3):DT3:=fun ρ P=>da ρ fun x n=>match x with|.bl k=>P k n|_=>False
theorem J9b {op:CmpOp}{r:R2}{o:D->D->(D->Prop)->Prop}(ho:OpR X (compareOp op) r)(hd:OpD W r o)(ha:CJE X W a da)(hb:CJE X W b db)(hm:behindInMarks op b=false):CJT X W (.Compare a [op] [b] pos) (Q7l (cOp o da db)):=⟨(KQ ho ha.h hb.h hm).mono fun σ H Q hh=>hh.elim fun pn M b ρ P st h k=>by
 refine VT hd σ H _ ⟨pn,M,b,ρ,_,st,h,fun x v H1 hx rx k1 o1=>?_⟩
 cases x<;>first|exact hx.elim|skip
 case bl c =>
  cases (show _=_ from rx)
  exact ⟨c,rfl,k _ H1 hx k1 o1⟩⟩
noncomputable def V3q (da:DE3):DT3:=fun ρ P=>da ρ fun x n=>match x with
 | .bl k=>P k n
 | .int i=>P (i != 0) n
 | .non=>P false n
 | _=>False
noncomputable def V2h (t u:DT3):DT3:=fun ρ P=>t ρ fun c n=>IfP c (u ρ P n) (P false n)
noncomputable def V3r (t u:DT3):DT3:=fun ρ P=>t ρ fun c n=>IfP c (P true n) (u ρ P n)
noncomputable def V2g (t:DT3):DT3:=fun ρ P=>t ρ fun c=>P (!c)
noncomputable def cIf (t:DT3)(da db:DE3):DE3:=fun ρ P=>t ρ fun c n=>IfP c (da ρ P n) (db ρ P n)
noncomputable def Q7q:DA3:=fun _ P=>P []
noncomputable def Q4l (da:DE3)(dr:DA3):DA3:=fun ρ P=>da ρ fun x=>dr ρ fun xs=>P (x::xs)
theorem Q6:CJA X W [] Q7q:=⟨AA.mono fun σ H Q hh=>hh.elim fun pn M b ρ P st h k=>k [] [] H h rfl (Kp.refl _ _) st.ok⟩
theorem J6 {dr:DA3}(ha:CJE X W e da)(hr:CJA X W es dr)(hs:starEach (e::es) X.env=(false,eval e X.env)::starEach es X.env:=by rfl):CJA X W (e::es) (Q4l da dr):=⟨(V2 ha.h hr.h hs).mono fun σ H Q hh=>hh.elim fun pn M b ρ P st h k=>by
 refine ⟨pn,M,b,ρ,_,st,h,fun x v H1 hx rx k1 o1=>?_⟩
 refine ⟨pn,M,b,ρ,_,st.step k1 o1,hx,fun xs vs H2 hy ry k2 o2=>?_⟩
 exact k _ _ H2 hy ⟨v,vs,rfl,rx.step st.bagM k2,ry⟩ (k1.trans k2) o2⟩
theorem NO {B:BagT}{b:Option Addr}{H:Hp}{q:Addr}{o:HO}(ok:okB B b H)(h:H q=none):cnt b (upd H q o)=cnt b H:=BC ok (Kp.upd h)
noncomputable def V0d (dA:DA3):DE3:=fun ρ P=>dA ρ fun xs n=>EI xs=true/\P (.tup xs) n
noncomputable def V0e (dA:DA3):DE3:=fun ρ P=>dA ρ fun xs n=>EI xs=true/\P (.lst xs) n
theorem FW {x1}(h:CJA X W es dA):CJE X W (.Tuple es x1 pos) (V0d dA):=⟨(WM h.h).mono fun σ H Q hh=>hh.elim fun pn M b ρ P st h k=>by
 refine ⟨pn,M,b,ρ,_,st,h,fun xs vs H1 hx rx k1 o1=>?_⟩
 have rr:=rx.reps _ _ (EI.pl hx.1)
 refine ⟨by rw [rr.length];exact EI.len hx.1,fun p hp=>k _ _ _ (by rw [NO o1 hp];exact hx.2) (EZ (st.step k1 o1).toHs rr hp) (k1.trans (Kp.upd hp)) ((st.step k1 o1).okU hp)⟩⟩
theorem ZE (h:CJA X W es dA):CJE X W (.List es pos) (V0e dA):=⟨(HK h.h).mono fun σ H Q hh=>hh.elim fun pn M b ρ P st h k=>by
 refine ⟨pn,M,b,ρ,_,st,h,fun xs vs H1 hx rx k1 o1=>?_⟩
 have rr:=rx.reps _ _ (EI.pl hx.1)
 refine ⟨by rw [rr.length];exact EI.len hx.1,fun p hp=>k _ _ _ (by rw [NO o1 hp];exact hx.2) (DH (st.step k1 o1).toHs rr hp) (k1.trans (Kp.upd hp)) ((st.step k1 o1).okU hp)⟩⟩
abbrev MU:=List D->(D->Om)->Om
def Z2 (K:Fg)(B:BagT)(S:MU):Sp:=fun vs H Q E=>∃ (M:Addr->Prop) (b:Option Addr) (ds:List D) (P:D->Om),S ds P (cnt b H)/\RepAs K M b H ds vs/\okB B b H/\(∀ p,b=some p->M p)/\(∀ c,M c->∃ o,H c=some o) /\
 (∀ d v H',P d (cnt b H')->Rep K M H' d v->Kp b H H'->okB B b H'->Q v H')
noncomputable def Q7m (S:MU)(dA:DA3):DE3:=fun ρ P=>dA ρ fun ds n=>ds.all CD=true/\S ds P n
theorem V5 {S:MU}(G:Callee X.prog X.w X.K X.mg X.base CX0 x k ps (Z2 W.K W.B S))(hr:Room k X.A)(hg:Gl X x)(ha:CJA X W (e::es) dA)(hdb:(x==("__debug__" : Str))=false:=by decide) (he:starEach (e::es) X.env=(false,eval e X.env)::starEach es X.env:=by rfl) (hpl:(backTo pos (starEach es X.env)).any (·.1)=false:=by rfl) :
 CJE X W (.Call (.Name x p) (e::es) [] pos) (Q7m S dA):=⟨(MA G hr hg ha.h hdb he hpl).mono fun σ H Q hh=>hh.elim fun pn M b ρ P st h k=>by
 refine ⟨pn,M,b,ρ,_,st,h,fun xs vs H1 hx rx k1 o1=>?_⟩
 have st1:=st.step k1 o1
 refine ⟨M,b,xs,P,hx.2,?_,o1,st.bagM,st1.dom,fun d v H' hd rd k2 o2=>k d v H' hd rd.x (k1.trans k2) o2⟩
 rw [List.append_nil];exact rx.args _ _ hx.1⟩
noncomputable def Q4g (S:DSp)(dA:DA3):DE3:=fun ρ P=>dA ρ fun ds n=>ds.all plain=true/\S ds (fun x=>P x n) (fun _=>False)
theorem PF {S:DSp}(G:Callee X.prog X.w X.K X.mg X.base CX0 x k ps (Q3 W.K W.B S))(hr:Room k X.A)(hg:Gl X x)(ha:CJA X W (e::es) dA)(hdb:(x==("__debug__" : Str))=false:=by decide) (he:starEach (e::es) X.env=(false,eval e X.env)::starEach es X.env:=by rfl) (hpl:(backTo pos (starEach es X.env)).any (·.1)=false:=by rfl) :
 CJE X W (.Call (.Name x p) (e::es) [] pos) (Q4g S dA):=⟨(MA G hr hg ha.h hdb he hpl).mono fun σ H Q hh=>hh.elim fun pn M b ρ P st h k=>by
 refine ⟨pn,M,b,ρ,_,st,h,fun xs vs H1 hx rx k1 o1=>?_⟩
 have st1:=st.step k1 o1
 refine ⟨M,none,xs,_,fun _=>False,hx.2,?_,IJ,fun p e=>(by cases e),st1.dom,fun d v H' hd rd k2 o2=>k d v H' (by rw [BC o1 k2];exact hd) rd.x (k1.trans (EL k2)) (BS o1 k2),fun C H' hC=>hC.elim⟩
 rw [List.append_nil];exact RepXs.asA _ _ rx hx.1⟩
noncomputable def cCB (o:List D->(D->Prop)->Prop)(dA:DA3):DE3:=fun ρ P=>dA ρ fun xs n=>xs.all noB=true/\o xs fun z=>plain z=true/\P z n
variable {r:List V->Hp->VK->Prop}{o:List D->(D->Prop)->Prop}
variable {fz:Bool}
noncomputable def V2i (fz:Bool)(dl:DE3):DA3:=fun ρ P=>dl ρ fun x n=>match x with
 | .lst xs=>P xs n
 | .tup xs=>P xs n
 | _=>False
noncomputable def Q4h:DT3:=fun _ P=>P true
theorem PB:CJIf X W [] Q4h:=⟨fun pins s σ H Q I hh=>hh.elim fun pn M b ρ P st h k=>YG pins s σ H Q I (k true H h (Kp.refl _ _) st.ok)⟩
inductive compI3 (gd:D->Ev->(Ev->Prop)->Prop)(dt:DT3)(de:DE3)(ρc:Ev)(items:List D)(P:List D->Om)(n0:Nat):Prop
 | mk (I:Nat->List D->Om) (h0:I 0 [] n0) (hs:∀ (i:Nat) x acc n,items[i]?=some x->I i acc n->gd x ρc fun ρ1=>dt ρ1 (fun c n1=>IfP c (de ρ1 (fun y n2=>plain y=true/\I (i+1) (acc++[y]) n2) n1) (I (i+1) acc n1)) n) (hd:∀ acc n,I items.length acc n->P acc n):compI3 gd dt de ρc items P n0
noncomputable def NP (gd:D->Ev->(Ev->Prop)->Prop)(dt:DT3)(de:DE3)(ρc:Ev):List D->List D->(List D->Om)->Om
 | [],acc,P=>P acc
 | x::xs,acc,P=>fun n=>gd x ρc fun ρ1=>dt ρ1 (fun c n1=>IfP c (de ρ1 (fun y n2=>plain y=true/\NP gd dt de ρc xs (acc++[y]) P n2) n1) (NP gd dt de ρc xs acc P n1)) n
theorem J1b {gd:D->Ev->(Ev->Prop)->Prop}{dt:DT3}{de:DE3}{ρc:Ev}{items:List D}{P:List D->Om}{n0:Nat}(h:NP gd dt de ρc items [] P n0):compI3 gd dt de ρc items P n0:=by
 refine ⟨fun i acc n=>NP gd dt de ρc (items.drop i) acc P n,h,fun i x acc n e q=>?_,fun acc n q=>?_⟩
 · obtain ⟨hlt,rfl⟩:=List.getElem?_eq_some_iff.mp e
   try dsimp only at q
   rw [List.drop_eq_getElem_cons hlt] at q
   exact q
 · (try dsimp only at q);rw [List.drop_length] at q;exact q
theorem J5f {N':List Str} {scope:Scope} {map:List (Option Nat)} {elt:Expr} {ifs:List Expr} {g:TG} {dt:DT3} {de:DE3} (calm:X.calm=true) (kind:scope.kind=.function) (loc:∀ x∈scope.names,x.2=.local->scope.names.lookup x.1=some .local) (free:(scope.names.all fun p=>!(p.2==NameKind.free)||(X.env.kindOf p.1==some .cell||X.env.kindOf p.1==some .free))=true) (cap:CapOk X scope map N') (keep:LN g map)
 (run:∀ cells C fp s H,PG (Q9 X N' scope cells C fp s H) tg g/\CJIf (Q9 X N' scope cells C fp s H) W ifs dt/\CJE (Q9 X N' scope cells C fp s H) W elt de):Blk X N' scope map tg elt ifs g (cnT W dt) (cn W de) :=
 ⟨calm,kind,loc,free,cap,keep,fun cells C fp s H=>⟨(run cells C fp s H).1,(run cells C fp s H).2.1.h,(run cells C fp s H).2.2.h⟩⟩
theorem VG {pn:List (D×V)}{M:Addr->Prop}{b:Option Addr}{H:Hp}{σ:St}{ρ:Ev}{J:It}{need:List (D×V)}{items:List D}{g:TG}{gd:D->Ev->(Ev->Prop)->Prop}{dt:DT3}{de:DE3}{P:List D->Om}{Fin:List V->Hp->Prop}
 (hG:GD W g gd) (st:Sta W pn M b H σ ρ) (hp:items.all plain=true) (hI:IW W J need items) (hn:∀ q∈need,RepX W M b H q.1 q.2) (hl:items.length<=1000) (h:compI3 gd dt de ρ items P (cnt b H))
 (fin:∀ ds acc H',P ds (cnt b H')->Reps W.K M H' ds acc->acc.length<=sizeLine->Kp b H H'->okB W.B b H'->Fin acc H'):∃ Wf:Nat->Nat->List V->Hp->Prop,(∃ m,Wf 0 m [] H)/\PQ J g (cnT W dt) (cn W de) σ Fin Wf:=by
 obtain ⟨I,i0,istep,idone⟩:=h
 refine ⟨fun i m acc H2=>m=items.length - i/\i<=items.length/\acc.length<=i/\Kp b H H2/\okB W.B b H2/\∃ ds,Reps W.K M H2 ds acc/\I i ds (cnt b H2),⟨items.length,by simp,Nat.zero_le _,Nat.le_refl _,Kp.refl _ _,st.ok,[],rfl,i0⟩,?_⟩
 rintro i m acc H2 ⟨rfl,hi,ha,k2,o2,ds,r,q⟩
 have st2:=st.step k2 o2
 obtain ⟨hgo,hstop⟩:=hI M b H2 st2.toHs fun q hq=>(hn q hq).step st.bagM k2
 by_cases hlt:i<items.length
 · have ei:items[i]?=some items[i]:=List.getElem?_eq_getElem hlt
   replace q:=istep i _ ds _ ei q
   refine .inr ⟨(hgo i _ ei).1,by have:=AF;omega,fun acc' H'=>acc'.length<=i+1/\Kp b H H'/\okB W.B b H'/\∃ ds,Reps W.K M H' ds acc'/\I (i+1) ds (cnt b H'),fun acc' H' n=>⟨items.length - (i+1),by omega,rfl,hlt,n⟩,fun x H3 y=>?_⟩
   obtain ⟨S3,rx⟩:=(hgo i _ ei).2 x H3 y
   have o3:okB W.B b H3:=fun p e=>W.B.st p H2 H3 (o2 p e) fun o e'=>S3 p o e'
   have k3:Kp b H2 H3:=Kp.same S3
   have c3:cnt b H3=cnt b H2:=BC o2 (Kp.same S3)
   have st3:=st2.step k3 o3
   rw [<- c3] at q
   refine hG pn M b H3 σ ρ items[i] x _ _ st3 rx (List.all_eq_true.mp hp _ (List.getElem_mem hlt)) q fun ρ1 σ1 h1 st4 _=>?_
   refine ⟨pn,M,b,ρ1,_,st4,h1,fun c H5 h5 k5 o5=>?_⟩
   cases h5 with
   | t e h5 =>
     rw [if_pos e]
     refine ⟨pn,M,b,ρ1,_,st4.step k5 o5,h5,fun y v H6 h6 ry k6 o6=>?_⟩
     have kk:=((k3.trans k5).trans k6)
     refine ⟨by simp;omega,k2.trans kk,o6,ds++[y],Reps.append (Reps.keep (fun c o n e=>kk c o (fun z=>n (st.bagM c z)) e) _ _ r) ⟨v,[],rfl,ry.rep h6.1,rfl⟩,h6.2⟩
   | f e h5 =>
     rw [if_neg (by rw [e];exact Bool.false_ne_true)]
     have kk:=k3.trans k5
     exact ⟨by omega,k2.trans kk,o5,ds,Reps.keep (fun c o n e=>kk c o (fun z=>n (st.bagM c z)) e) _ _ r,h5⟩
 · have e:i=items.length:=by omega
   subst e
   exact .inl ⟨hstop _ (Nat.le_refl _),by have:=AF;omega,fin ds acc H2 (idone _ _ q) r (by have:=AF;omega) k2 o2⟩
noncomputable def Q4m (map:List (Option Nat))(gd:D->Ev->(Ev->Prop)->Prop)(di:DA3)(dt:DT3)(de:DE3):DE3:=fun ρ P=>di ρ fun items n=>items.length<=1000/\compI3 gd dt de (EX ρ map) items (fun acc=>P (.lst acc)) n
theorem PH {elt iter:Expr}{ifs:List Expr}{scope:Scope}{N':List Str}{map:List (Option Nat)}{g:TG}{gd:D->Ev->(Ev->Prop)->Prop}{di:DA3}{dt:DT3}{de:DE3}(hG:GD W g gd)(B:Blk X N' scope map tg elt ifs g (cnT W dt) (cn W de))(hi:CJI X W false tg iter di)(hs:∀ x,foldedSetIterable iter X.env x=pure x:=by intro _;rfl):CJE X W (.ListComp elt [⟨tg,iter,ifs,0⟩] scope pos) (Q4m map gd di dt de):=⟨(NL B hi.h hs).mono fun σ H Q hh=>hh.elim fun pn M b ρ P st h k=>by
 refine ⟨pn,M,b,ρ,_,st,h,fun items J need H1 hx hp hI hn k1 o1=>?_⟩
 have st1:=st.step k1 o1
 refine VG hG (st1.capt map) hp hI (fun q hq=>(hn q hq).1) hx.1 hx.2 fun ds acc H' hP r hl k2 o2 D hD=>?_
 exact k _ _ _ (by rw [NO o2 hD];exact hP) (DH (st1.step k2 o2).toHs r hD) ((k1.trans k2).trans (Kp.upd hD)) ((st1.step k2 o2).okU hD)⟩
end
structure DEnds3 where
 nx:Ev->Om
 rt:D->Om
 bk:Ev->Om:=fun _ _=>False
 ct:Ev->Om:=fun _ _=>False
 ro:List D->Om:=fun _ _=>False
abbrev DS3:=DEnds3->Ev->Om
structure Link3 (W:Wd)(pn:List (D×V))(E:Ends)(F:DEnds3):Prop where
 nx:∀ M b ρ σ H,StS W pn M b H σ ρ->F.nx ρ (cnt b H)->E.nx σ H
 rt:∀ d v H n,F.rt d n->(∀ p,W.b0=some p->n=cnt W.b0 H)->Rep W.K W.M0 H d v->Kp W.b0 W.H0 H->okB W.B W.b0 H->E.rt v H
 bk:∀ M b ρ σ H,StS W pn M b H σ ρ->F.bk ρ (cnt b H)->E.bk σ H
 ct:∀ M b ρ σ H,StS W pn M b H σ ρ->F.ct ρ (cnt b H)->E.ct σ H
 ro:∀ xs a vs H n,F.ro xs n->(∀ p,W.b0=some p->n=cnt W.b0 H)->W.H0 a=none->¬ W.M0 a->H a=some (.lst vs)->Reps W.K W.M0 H xs vs->Kp W.b0 W.H0 H->okB W.B W.b0 H->E.rt (.ref a) H
def sn3 (W:Wd)(d:DS3):TS:=fun E σ H=>∃ pn M b ρ F,StS W pn M b H σ ρ/\Link3 W pn E F/\d F ρ (cnt b H)
theorem sn3.elim {W:Wd}{d:DS3}{E:Ends}{σ:St}{H:Hp}{Z:Prop}(h:sn3 W d E σ H)(f:∀ pn M b ρ F,StS W pn M b H σ ρ->Link3 W pn E F->d F ρ (cnt b H)->Z):Z:=by
 obtain ⟨pn,M,b,ρ,F,s,l,h⟩:=h
 exact f pn M b ρ F s l h
structure CJS (X:Cx)(W:Wd)(st:Stmt)(d:DS3):Prop where
 h:PS X st (sn3 W d)
structure CJSs (X:Cx)(W:Wd)(st:List Stmt)(d:DS3):Prop where
 h:PSs X st (sn3 W d)
theorem Sta.cnt0 {W:Wd}{pn:List (D×V)} {H:Hp}{σ:St}{ρ:Ev}(s:Sta W pn M b H σ ρ):∀ p,W.b0=some p->cnt b H=cnt W.b0 H:=fun p e=>by
 rcases s.new with q|⟨q,_⟩
 · rw [q]
 · rw [q] at e;cases e
section
variable {X:Cx}{W:Wd}{e a b c tg iter l:Expr}{es:List Expr}{pos p:Pos}{d db de:DE3}{dA di:DA3}{dt:DT3}{st:Stmt}{rest sts:List Stmt}{d1 d2:DS3}{t:TS}
noncomputable def Q4k:DS3:=fun F ρ=>F.nx ρ
noncomputable def V0f (d1 d2:DS3):DS3:=fun F ρ=>d1 { F with nx:=d2 F } ρ
theorem DB:CJSs X W [] Q4k:=⟨NK.mono fun E σ H hh=>hh.elim fun pn M b ρ F s l h=>l.nx _ _ _ _ _ s h⟩
theorem Z1 (h:CJS X W st d1):CJSs X W [st] d1:=⟨EC h.h⟩
theorem V0 (h1:CJS X W st d1)(h2:CJSs X W rest d2):CJSs X W (st::rest) (V0f d1 d2):=⟨(AQ h1.h h2.h).mono fun E σ H hh=>hh.elim fun pn M b ρ F s l h=>⟨pn,M,b,ρ,{ F with nx:=d2 F },s,⟨fun M b ρ σ H s' h'=>⟨pn,M,b,ρ,F,s',l,h'⟩,l.rt,l.bk,l.ct,l.ro⟩,h⟩⟩
noncomputable def V2k:DS3:=fun F ρ=>F.bk ρ
noncomputable def V2j:DS3:=fun F ρ=>F.ct ρ
noncomputable def Q7o (de:DE3):DS3:=fun F ρ=>de ρ fun x n=>match x with|.own xs=>F.rt (.lst xs) n|.bag=>False|.frg _ _=>False|x=>F.rt x n
theorem CL (he:CJE X W e de):CJS X W (.Return (some e) pos) (Q7o de):=⟨(GG he.h).mono fun E σ H hh=>hh.elim fun pn M b ρ F s l h=>by
 refine ⟨pn,M,b,ρ,_,s.toSta,h,fun x v H' hx rx k o=>?_⟩
 have s':=s.toSta.step k o
 cases x
 case own xs =>
  obtain ⟨a,vs,rfl,m,n,n0,m0,hh,r⟩:=rx
  exact l.rt _ _ H' _ hx s'.cnt0 ⟨a,vs,rfl,⟨m0,hh⟩,Reps.avoid (fun c m=>.inl (s'.m0 c m)) _ _ r⟩ s'.kp s'.ok0
 case bag=>exact hx.elim
 case frg=>exact hx.elim
 all_goals exact l.rt _ _ H' _ hx s'.cnt0 (YD s'.toHs (RepX.rep rx rfl)) s'.kp s'.ok0⟩
noncomputable def V0k (de:DE3):DS3:=fun F ρ=>de ρ fun _=>F.nx ρ
noncomputable def Q7r (dt:DT3)(d1 d2:DS3):DS3:=fun F ρ=>dt ρ fun c n=>IfP c (d1 F ρ n) (d2 F ρ n)
theorem FS {s1 s2:List Stmt}(hc:CJT X W c dt)(ha:CJSs X W s1 d1)(hb:CJSs X W s2 d2):CJS X W (.If c s1 s2 pos) (Q7r dt d1 d2):=⟨(YF hc.h ha.h hb.h).mono fun E σ H hh=>hh.elim fun pn M b ρ F s l h=>by
 refine ⟨pn,M,b,ρ,_,s.toSta,h,fun x H' hx k o=>?_⟩
 cases hx with
 | t e hx=>rw [if_pos e];exact ⟨pn,M,b,ρ,F,s.step k o,l,hx⟩
 | f e hx=>rw [if_neg (by rw [e];exact Bool.false_ne_true)];exact ⟨pn,M,b,ρ,F,s.step k o,l,hx⟩⟩
noncomputable def J5l (de:DE3)(gd:D->Ev->(Ev->Prop)->Prop):DS3:=fun F ρ=>de ρ fun x n=>plain x=true/\gd x ρ fun ρ'=>F.nx ρ' n
theorem ZB {g:TG}{gd:D->Ev->(Ev->Prop)->Prop}(hG:GD W g gd):∀ E σ H,sn3 W (J5l de gd) E σ H->J6o (cn W de) g E σ H:=fun E σ H hh=>hh.elim fun pn M b ρ F s l h=>by
 refine ⟨pn,M,b,ρ,_,s.toSta,h,fun x v H' hx rx k o=>?_⟩
 exact hG pn M b H' σ ρ x v E.nx _ (s.toSta.step k o) rx hx.1 hx.2 fun ρ' σ' hp st' ho=>l.nx _ _ _ _ _ (s.of st' ho) hp
theorem AI {i:Nat} {x:Str} {pos':Pos} (hN:X.N.Nodup) (hi:X.N[i]?=some x) (hx:Loc X.env.scope x) (he:CJE X W e de) (hs:swapsWith e (some (.Name x pos')) pos.line X.env=pure false:=by rfl) (hf:X.fn x=true\/X.env.scope.names.lookup x=some .local:=by first|exact .inl rfl|exact .inr rfl|assumption) :
 CJS X W (.Assign [.Name x pos'] e pos) (J5l de (gdN i)):=⟨(CK hN hi hx he.h hs hf).mono (ZB (Y8 i))⟩
theorem ZD {g:TG}{gd:D->Ev->(Ev->Prop)->Prop}(hG:GD W g gd)(he:CJE X W e de)(hg:PG X tg g)(hs:swapsWithSole [tg] e pos.line X.env=pure false:=by rfl)(hw:swappedStores [tg] e X.env=pure none:=by rfl)
 (h1:(assignEach [tg] X.env).map (·.2)=[assign tg X.env]:=by rfl):CJS X W (.Assign [tg] e pos) (J5l de gd):=⟨(RU he.h hg hs hw h1).mono (ZB hG)⟩
noncomputable def Q4j (i:Nat)(dA:DA3):DS3:=fun F ρ=>dA ρ fun xs n=>EI xs=true/\F.nx (ρ.set i (some (.own xs))) n
theorem LH {i:Nat} {x:Str} {pos' lpos:Pos} (hN:X.N.Nodup) (hi:X.N[i]?=some x) (hx:Loc X.env.scope x) (ha:CJA X W es dA) (hs:swapsWith (.List es lpos) (some (.Name x pos')) pos.line X.env=pure false:=by rfl) (hf:X.fn x=true\/X.env.scope.names.lookup x=some .local:=by first|exact .inl rfl|exact .inr rfl|assumption) :
 CJS X W (.Assign [.Name x pos'] (.List es lpos) pos) (Q4j i dA):=⟨(CK hN hi hx (HK ha.h) hs hf).mono fun E σ H hh=>hh.elim fun pn M b ρ F s l h=>by
 refine ⟨pn,M,b,ρ,_,s.toSta,h,fun xs vs H' hx rx k o=>?_⟩
 have rr:=rx.reps _ _ (EI.pl hx.1)
 exact ⟨by rw [rr.length];exact EI.len hx.1,fun q hq=>l.nx _ _ _ _ _ ((s.step k o).newOwn i rr hq) (by rw [NO o hq];exact hx.2)⟩⟩
noncomputable def V0i (own:Bool)(i:Nat)(map:List (Option Nat))(gd:D->Ev->(Ev->Prop)->Prop)(di:DA3)(dt:DT3)(de:DE3):DS3:=fun F ρ=>di ρ fun items n=>items.length<=1000/\compI3 gd dt de (EX ρ map) items (fun acc=>F.nx (ρ.set i (some (if own then .own acc else .lst acc)))) n
theorem JC {b:Option Addr}{H:Hp}{q:Addr}{o:HO}(h:b≠some q):cnt b (upd H q o)=cnt b H:=by
 cases b with
 | none=>rfl
 | some p =>
   show LG p (upd H q o)=LG p H
   unfold LG
   rw [V8 (show p≠q from fun z=>h (by rw [z]))]
noncomputable def J5m (i:Nat)(dA:DA3):DS3:=fun F ρ n=>match ρ[i]? with
 | some (some (.own ys))=>dA ρ (fun xs n=>(match xs with | [y]=>(plain y&&decide (ys.length<1000))=true/\F.nx (ρ.set i (some (.own (ys++[y])))) n|_=>False)) n
 | _=>False
theorem J8z {i:Nat}:∀ E σ H,sn3 W (J5m i dA) E σ H->XZ (tBM W.K "list" EY (KG i) (cnA W dA)) E σ H:=fun E σ H hh=>hh.elim fun pn M b ρ F s l h=>by
 unfold J5m at h
 split at h
 case h_2=>exact h.elim
 case h_1 ys e =>
  obtain ⟨a,vs,ea,nb,hh,r⟩:=MB s.toSta e
  refine ⟨.ref a,ea,.inl ⟨rfl,vs,SqL.of hh⟩,pn,M,b,ρ,_,s.toSta,h,fun xs us H' hx rx k o=>?_⟩
  match xs,hx with
  | [y],hx =>
    obtain ⟨u,rfl,ru⟩:=rx1 rx
    obtain ⟨p1,p2⟩:=(Bool.and_eq_true _ _).mp hx.1
    have p2:=of_decide_eq_true p2
    have s':=s.step k o
    obtain ⟨a',vs',ea',nb',hh',r'⟩:=MB s'.toSta e
    rw [ea] at ea';cases ea'
    refine ⟨a,vs',u,rfl,rfl,hh',by rw [r'.length];have:=AF;omega,l.nx _ _ _ _ _ (s'.setOwn i e ea (Reps.append r' (show Reps W.K M H' [y] [u] from ⟨u,[],rfl,ru.rep p1,rfl⟩))) (by rw [JC nb];exact hx.2)⟩
theorem HN {i:Nat}{x:Str}{e:Expr}{npos apos cpos:Pos}(hK:X.K=W.K)(hN:X.N[i]?=some x)(hv:Vis X.env.scope x)(ha:CJA X W [e] dA)
 (h:PE X (.Call (.Attribute (.Name x npos) "append" apos) [e] [] cpos) (tBM X.K "list" EY (KG i) (cnA W dA))) (hs:swapsWith (.Call (.Attribute (.Name x npos) "append" apos) [e] [] cpos) none pos.line X.env=pure false:=by rfl) :
 CJS X W (.Expr (.Call (.Attribute (.Name x npos) "append" apos) [e] [] cpos) pos) (J5m i dA):=⟨(HJ (by rw [hK] at h;exact h) hs).mono J8z⟩
noncomputable def V0h (i:Nat)(de dk:DE3):DS3:=fun F ρ n=>match ρ[i]? with
 | some (some (.own ys))=>de ρ (fun x=>dk ρ fun k n=>(match k with|.int k=>plain x=true/\(ixN ys.length k).elim False fun j=>F.nx (ρ.set i (some (.own (ys.set j x)))) n|_=>False)) n
 | _=>False
noncomputable def J5j (gd:D->Ev->(Ev->Prop)->Prop)(db:DS3)(F:DEnds3):List D->Ev->Om
 | [],ρ=>F.nx ρ
 | x::xs,ρ=>fun n=>gd x ρ fun ρ1=>db { F with nx:=J5j gd db F xs,ct:=J5j gd db F xs,bk:=F.nx } ρ1 n
inductive forI3 (gd:D->Ev->(Ev->Prop)->Prop)(db:DS3)(F:DEnds3)(items:List D)(ρ:Ev)(n0:Nat):Prop
 | mk (I:Nat->Ev->Om) (h0:I 0 ρ n0) (hs:∀ (i:Nat) x ρ n,items[i]?=some x->I i ρ n->gd x ρ fun ρ1=>db { F with nx:=I (i+1),ct:=I (i+1),bk:=F.nx } ρ1 n) (hd:∀ ρ n,I items.length ρ n->F.nx ρ n):forI3 gd db F items ρ n0
noncomputable def Q0m (gd:D->Ev->(Ev->Prop)->Prop)(di:DA3)(db:DS3):DS3:=fun F ρ=>di ρ fun items n=>forI3 gd db F items ρ n
theorem J8y {g:TG}{gd:D->Ev->(Ev->Prop)->Prop}{db:DS3}(hG:GD W g gd):∀ E σ H,sn3 W (Q0m gd di db) E σ H->J6n (cnI W true di) g (sn3 W db) E σ H:=fun E σ H hh=>hh.elim fun pn M b ρ F s l h=>by
 refine ⟨pn,M,b,ρ,_,s.toSta,h,fun items J need H1 hx hp hI hn k1 o1=>?_⟩
 have s1:=s.step k1 o1
 have pins:∀ q∈need++pn,PinR W M b H1 q.1 q.2:=fun q hq=>(List.mem_append.mp hq).elim (fun z=>(hn q z).1.pin ((hn q z).2 rfl)) fun z=>s1.pin q z
 obtain ⟨I,i0,istep,idone⟩:=hx
 refine ⟨fun i m σ H=>m=items.length - i/\i<=items.length/\∃ M b ρ,StS W (need++pn) M b H σ ρ/\I i ρ (cnt b H),⟨items.length,by simp,Nat.zero_le _,M,b,ρ,⟨s1.toSta.pins pins,s1.dj,fun ys a hq=>(List.mem_append.mp hq).elim (fun z=>by have:=(hn _ z).2 rfl;cases this) fun z=>s1.lj ys a z⟩,i0⟩,?_⟩
 rintro i m σ2 H2 ⟨rfl,hi,M2,b2,ρ2,s2,q⟩
 have unp:∀ {M b ρ σ H},StS W (need++pn) M b H σ ρ->StS W pn M b H σ ρ:=fun s=>⟨s.toSta.pins fun q hq=>s.pin q (List.mem_append_right _ hq),s.dj,fun ys a hq=>s.lj ys a (List.mem_append_right _ hq)⟩
 obtain ⟨hgo,hstop⟩:=hI M2 b2 H2 s2.toHs fun q hq=>(s2.pin q (List.mem_append_left _ hq)).x
 by_cases hlt:i<items.length
 · have ei:items[i]?=some items[i]:=List.getElem?_eq_getElem hlt
   replace q:=istep i _ ρ2 _ ei q
   refine .inr ⟨(hgo i _ ei).1,fun σ' H'=>∃ M b ρ,StS W (need++pn) M b H' σ' ρ/\I (i+1) ρ (cnt b H'),fun σ' H' n=>⟨items.length - (i+1),by omega,rfl,hlt,n⟩,fun x H3 y=>?_⟩
   obtain ⟨S3,rx⟩:=(hgo i _ ei).2 x H3 y
   have o3:okB W.B b2 H3:=fun p e=>W.B.st p H2 H3 (s2.ok p e) fun o e'=>S3 p o e'
   have c3:cnt b2 H3=cnt b2 H2:=BC s2.ok (Kp.same S3)
   rw [<- c3] at q
   have s3:=s2.step (Kp.same S3) o3
   refine hG (need++pn) M2 b2 H3 σ2 ρ2 items[i] x _ _ s3.toSta rx (List.all_eq_true.mp hp _ (List.getElem_mem hlt)) q fun ρ1 σ1 h1 st4 ho=>?_
   exact ⟨need++pn,M2,b2,ρ1,{ F with nx:=I (i+1),ct:=I (i+1),bk:=F.nx },s3.of st4 ho,⟨fun M b ρ σ H s' h'=>⟨M,b,ρ,s',h'⟩,l.rt,fun M b ρ σ H s' h'=>l.nx _ _ _ _ _ (unp s') h',fun M b ρ σ H s' h'=>⟨M,b,ρ,s',h'⟩,l.ro⟩,h1⟩
 · have e:i=items.length:=by omega
   subst e
   exact .inl ⟨hstop _ (Nat.le_refl _),l.nx _ _ _ _ _ (unp s2) (idone _ _ q)⟩
theorem LJ {g:TG}{gd:D->Ev->(Ev->Prop)->Prop}{db:DS3}{body:List Stmt}(hG:GD W g gd)(hp:PassesOwn (model X.prog X.w) X.A X.env X.xe)(hc:X.calm=true)(hi:CJI X W true tg iter di)(hg:PG X tg g)(hb:CJSs X W body db)
 (hs:∀ x,foldedSetIterable iter X.env x=pure x:=by intro _;rfl):CJS X W (.For tg iter body [] pos) (Q0m gd di db):=⟨(WH hp hc hi.h hg hb.h hs).mono (J8y hG)⟩
noncomputable def Q0l (i:Nat)(d:DS3):DS3:=fun F ρ n=>match ρ[i]? with|some (some (.own xs))=>d F (ρ.set i (some (.lst xs))) n|_=>False
theorem OZ (i:Nat)(h:CJSs X W sts d1):CJSs X W sts (Q0l i d1):=⟨h.h.mono fun E σ H hh=>hh.elim fun pn M b ρ F s l h=>by
 unfold Q0l at h
 split at h
 case h_2=>exact h.elim
 case h_1 xs e =>
  obtain ⟨v,e1,a,us,rfl,m1,m2,m3,m4,hh,r⟩:=s.env i _ e
  have st:Sta W pn (fun c=>M c/\c≠a) b H σ (ρ.set i none):=by
   refine Sta.avoid (M:=M) ⟨s.toHs,s.kp,s.new,fun j d e'=>?_,by simp [s.len],s.pin⟩ (fun c m=>m.1) (fun p z=>⟨s.bagM p z,fun y=>m2 (by rw [<- y];exact z)⟩) (fun c m=>⟨s.m0 c m,fun y=>m4 (by rw [<- y];exact m)⟩) (fun j d' v' c' e' e2 mm=>?_) fun ys a' hq=>⟨by
    obtain ⟨a2,us2,ev,n1,_⟩:=(s.pin _ hq)
    cases ev;exact n1,fun y=>s.lk ys a' hq i xs e (by rw [y];exact e1)⟩
   · by_cases z:i=j
     · subst z;rw [List.getElem?_set] at e';simp at e'
     · rw [List.getElem?_set_ne z] at e';exact s.env j d e'
   · by_cases z:i=j
     · subst z;rw [List.getElem?_set] at e';simp at e'
     · rw [List.getElem?_set_ne z] at e'
       obtain ⟨v3,e3,r3⟩:=s.env j _ e'
       rw [e2] at e3;cases e3
       exact ⟨(r3.mine mm).1,fun y=>z (s.dj i j _ _ _ _ a e e' e1 e2 rfl (by rw [<- y];exact mm))⟩
  have st2:=st.set (x:=.lst xs) (v:=.ref a) i ⟨a,us,rfl,⟨fun m=>m.2 rfl,hh⟩,Reps.avoid (fun c m=>.inl m.1) _ _ r⟩
  have eσ:σ.set i (some (.ref a))=σ:=by
   apply List.ext_getElem?
   intro n
   by_cases z:i=n
   · subst z;rw [List.getElem?_set,e1];simp;exact (List.getElem?_eq_some_iff.mp e1).1
   · rw [List.getElem?_set_ne z]
  rw [eσ,List.set_set] at st2
  refine ⟨pn,_,b,_,F,s.of st2 fun j ys hm e'=>?_,l,h⟩
  by_cases z:i=j
  · subst z;rw [List.getElem?_set] at e';simp at e';rw [<- e'.2] at hm;cases hm
  · rw [List.getElem?_set_ne z] at e';exact ⟨e',rfl⟩⟩
def TL (K:Fg)(B:BagT)(pre:List D->Prop):Sp:=fun vs H Q _=>∃ (M:Addr->Prop) (b:Option Addr) (ds:List D),RepAs K M b H ds vs/\pre ds/\∀ p H1,H p=none->Same H H1->B.ok p H1->LG p H1=0->Q (.ref p) H1
noncomputable def Q7s (i:Nat)(pre:List D->Prop)(dA:DA3):DS3:=fun F ρ=>dA ρ fun ds _=>ds.all CD=true/\pre ds/\F.nx ((CG ρ).set i (some .bag)) 0
theorem J9c {spos:Pos}{x f:Str}{k:Nat}{ps:List Str}{pre:List D->Prop}{i:Nat}{pos':Pos}(hb0:W.b0=none)(hN:X.N.Nodup)(hi:X.N[i]?=some x)(hx:Loc X.env.scope x)(G:Callee X.prog X.w X.K X.mg X.base CX0 f k ps (TL W.K W.B pre))(hr:Room k X.A)(hg:Gl X f)(ha:CJA X W (e::es) dA)
 (hdb:(f==("__debug__" : Str))=false:=by decide) (he:starEach (e::es) X.env=(false,eval e X.env)::starEach es X.env:=by rfl) (hpl:(backTo pos (starEach es X.env)).any (·.1)=false:=by rfl)
 (hs:swapsWith (.Call (.Name f p) (e::es) [] pos) (some (.Name x pos')) spos.line X.env=pure false:=by rfl) (hf:X.fn x=true\/X.env.scope.names.lookup x=some .local:=by first|exact .inl rfl|exact .inr rfl|assumption) :
 CJS X W (.Assign [.Name x pos'] (.Call (.Name f p) (e::es) [] pos) spos) (Q7s i pre dA):=⟨(CK hN hi hx (MA G hr hg ha.h hdb he hpl) hs hf).mono fun E σ H hh=>hh.elim fun pn M b ρ F s l h=>by
 refine ⟨pn,M,b,ρ,_,s.toSta,h,fun ds vs H' hx rx k o=>?_⟩
 have s1:=s.step k o
 refine ⟨M,b,ds,by rw [List.append_nil];exact rx.args _ _ hx.1,hx.2.1,fun q H1 hq S ok c0=>?_⟩
 have rep:∀ d v,Rep W.K M H' d v->Rep W.K (fun c=>M c\/c=q) H1 d v:=fun d v r=>Rep.keep (fun c o _ e=>S c o e) _ _ (Rep.avoid (fun c hc=>hc.imp id fun z=>by rw [z];exact hq) _ _ r)
 have reps:∀ d v,Reps W.K M H' d v->Reps W.K (fun c=>M c\/c=q) H1 d v:=fun d v r=>Reps.keep (fun c o _ e=>S c o e) _ _ (Reps.avoid (fun c hc=>hc.imp id fun z=>by rw [z];exact hq) _ _ r)
 have h0:W.H0 q=none:=by
  cases z:W.H0 q with
  | none=>rfl
  | some o =>
    have:=s1.kp q o (by rw [hb0];intro y;cases y) z
    rw [hq] at this;cases this
 have st1:Sta W pn (fun c=>M c\/c=q) (some q) H1 σ (CG ρ):=by
  refine ⟨⟨fun p e=>by cases e;exact ok,fun p e=>by cases e;exact .inr rfl,fun c hc=>?_,fun c m=>.inl (s1.m0 c m)⟩,fun c o n e=>S c o (s1.kp c o n e),.inr ⟨hb0,fun p e=>by cases e;exact h0⟩,fun j d e=>?_,by simp [CG,s.len],fun q' hq'=>(s1.pin q' hq').to rep reps fun xs a vs _ _ m n hh=>⟨.inl m,(fun z=>by cases z;rw [hq] at hh;cases hh),S _ _ hh⟩⟩
  · rcases hc with hc|hc
    · obtain ⟨o,e⟩:=s1.dom c hc;exact ⟨o,S c o e⟩
    · rw [hc];exact W.B.dm q H1 ok
  · obtain ⟨e1,nb⟩:=MM e
    obtain ⟨v,e2,r⟩:=s1.env j d e1
    refine ⟨v,e2,?_⟩
    cases d
    case own xs =>
     obtain ⟨a,us,rfl,m1,m2,m3,m4,hh,r'⟩:=r
     have nq:some q≠some a:=fun z=>by
      cases z
      rw [hq] at hh
      cases hh
     exact ⟨a,us,rfl,.inl m1,nq,m3,m4,S _ _ hh,reps _ _ r'⟩
    case bag=>exact absurd rfl nb
    case frg f _=>exact RepX.move r (fun c _ m n=>⟨.inl m,fun z=>by cases z;exact s1.toHs.new hq m⟩) (fun c o _ e=>S c o e) fun c hc=>hc.imp id fun z=>by rw [z];exact hq
    all_goals exact rep _ _ r
 refine l.nx _ _ _ _ _ (s1.of (st1.set (x:=.bag) (v:=.ref q) i ⟨q,rfl,rfl⟩) fun j xs hm e=>?_) (by show F.nx _ (LG q H1);rw [c0];exact hx.2.2)
 by_cases z:i=j
 · subst z
   rw [List.getElem?_set] at e
   simp at e
   rw [<- e.2] at hm;cases hm
 · rw [List.getElem?_set_ne z] at e
   exact ⟨(MM e).1,by rw [List.getElem?_set_ne z]⟩⟩
end
theorem J3y {B:BagT} {N:List Str}{ds:List D}{vs:List V}{H:Hp}{Q:VK}{P:D->Om}{d:DS3}(hr:RepAs K M b H ds vs)(ho:okB B b H)(hb:∀ p,b=some p->M p)(hd:∀ c,M c->∃ o,H c=some o)(hq:∀ d v H' n,P d n->(∀ p,b=some p->n=cnt b H')->Rep K M H' d v->Kp b H H'->okB B b H'->Q v H')
 (h:d { nx:=fun _=>P .non,rt:=P } (CH N ds) (cnt b H)):sn3 ⟨K,B,H,M,b⟩ d { nx:=fun _ H'=>Q .non H',rt:=Q } (CP N vs) H :=
 ⟨[],M,b,CH N ds,{ nx:=fun _=>P .non,rt:=P },YW hr ho hb hd,⟨fun M b ρ σ H s h=>hq .non .non _ _ h s.cnt0 rfl s.kp s.ok0,fun d v H n h c r k o=>hq d v H n h c r k o,fun _ _ _ _ _ _ h=>h.elim,fun _ _ _ _ _ _ h=>h.elim,fun _ _ _ _ _ h=>h.elim⟩,h⟩
theorem Z2.len {B:BagT}{S:MU}{m:Nat}(h:∀ ds P n,S ds P n->ds.length=m):∀ vs H Q E,Z2 K B S vs H Q E->vs.length=m:=fun vs H Q E ⟨M,b,ds,P,hS,hr,_⟩=>by rw [hr.length];exact h _ _ _ hS
theorem Fun.okC {P:Program}{w:World} {mg:Str->Option Value}{base:Heap}{x qual:Str}{st:Stmt}{f:Addr} {N ps:List Str}{k:Nat}{B:BagT}{Sd:MU}(F:Fun K x qual st f fd)(S:FnScope N ps (J3 st))(len:∀ ds PP n,Sd ds PP n->ds.length=ps.length/\D.bag∈ds)
 (hbody:∀ (cdv:Value) (A:Around) (outer:List Env) (s:Shared) (H:Hp) (E:XK) (M:Addr->Prop) (bg:Option Addr) (ds:List D) (PP:D->Om) (n:Nat),Room k (A.deeper (envOfC qual (J3 st) s.heap.objs.size f cdv))->Sd ds PP n ->
  ∃ d,CJSs (V4 CX0 P w K mg base N qual (J3 st) f cdv A outer s H E).nox ⟨K,B,H,M,bg⟩ (BW st) d/\d { nx:=fun _=>PP .non,rt:=PP } (CH N ds) n):FnOk P w K mg base CX0 (k+1) f fd ps (Z2 K B Sd) :=
 F.ok S (Z2.len fun ds PP n h=>(len ds PP n h).1) fun cdv A outer s H vs Q E hr h=>by
  obtain ⟨M,bg,ds,PP,hS,hR,ho,hb,hd,hq⟩:=h
  obtain ⟨d,J,q⟩:=hbody cdv A outer s H E M bg ds PP _ hr hS
  have hbg:∃ p,bg=some p:=by
   have hm:=(len ds PP _ hS).2
   obtain ⟨i,hi,ei⟩:=List.getElem_of_mem hm
   obtain ⟨v,_,r⟩:=hR.get (i:=i) (d:=.bag) (by rw [List.getElem?_eq_getElem hi,ei])
   obtain ⟨p,e,_⟩:=r
   exact ⟨p,e⟩
  obtain ⟨p,ep⟩:=hbg
  exact ⟨_,J.h,J3y hR ho hb hd (fun d v H' n hP hc r k o=>hq d v H' (by rw [<- hc p ep];exact hP) r k o) q⟩
theorem Fun.okLC {P:Program}{w:World} {mg:Str->Option Value}{base:Heap}{x qual:Str}{st:Stmt}{f:Addr} {N:List Str}{p:Str}{k:Nat}(B:BagT)(F:Fun K x qual st f fd)(S:FnScope N [p] (J3 st))
 (hbody:∀ (cdv:Value) (A:Around) (outer:List Env) (s:Shared) (H:Hp) (E:XK) (ns:List Int),Room k (A.deeper (envOfC qual (J3 st) s.heap.objs.size f cdv))->ns.length<=63 ->
  ∃ d,CJSs (V4 CX0 P w K mg base N qual (J3 st) f cdv A outer s H E).nox ⟨K,B,H,fun _=>False,none⟩ (BW st) d/\d { nx:=fun _ _=>D.non=.bl true,rt:=fun d _=>d=.bl true } (CH N [.scr ns]) 0) :
 FnOk P w K mg base CX0 (k+1) f fd [p] (fun vs H Q _=>∃ (a:Addr) (ns:List Int),vs=[.ref a]/\SqL K H a (ns.map V.int)/\ns.length<=63/\∀ H',Q (.bl true) H') :=
 F.ok S (fun vs H Q E h=>by obtain ⟨a,ns,rfl,_⟩:=h;rfl) fun cdv A outer s H vs Q E hr h=>by
  obtain ⟨a,ns,rfl,hS,hlen,k⟩:=h
  have hR:RepAs K (fun _=>False) none H [.scr ns] [.ref a]:=⟨.ref a,[],rfl,⟨a,rfl,hS.imp (fun q=>⟨id,q⟩) id⟩,rfl⟩
  obtain ⟨d,J,q⟩:=hbody cdv A outer s H E ns hr hlen
  exact ⟨_,J.h,J3y (P:=fun d _=>d=.bl true) hR (fun p e=>by cases e) (fun p e=>by cases e) (fun c m=>m.elim) (fun d v H' n hd _ r _ _=>by cases hd;cases (show _=_ from r);exact k H') q⟩
abbrev Q5b:=List D->(List D->Om)->Om
def Q6l (K:Fg)(B:BagT)(S:Q5b):Sp:=fun vs H Q E=>∃ (M:Addr->Prop) (b:Option Addr) (ds:List D) (P:List D->Om),S ds P (cnt b H)/\RepAs K M b H ds vs/\okB B b H/\(∀ p,b=some p->M p)/\(∀ c,M c->∃ o,H c=some o) /\
 (∀ xs a us H',P xs (cnt b H')->H a=none->H' a=some (.lst us)->Reps K M H' xs us->Kp b H H'->okB B b H'->Q (.ref a) H')
section
variable {de:DE3}{dA:DA3}{x:Str}{S:Q5b}
noncomputable def V0j (de:DE3):DS3:=fun F ρ=>de ρ fun x n=>match x with|.own xs=>F.ro xs n|_=>False
noncomputable def V0g (i:Nat)(S:Q5b)(dA:DA3):DS3:=fun F ρ=>dA ρ fun ds n=>ds.all CD=true/\S ds (fun ys n'=>GM ys=true/\F.nx (ρ.set i (some (.own ys))) n') n
noncomputable def Q8k (i j:Nat)(lo hi:Option Int):DS3:=fun F ρ n=>match ρ[j]? with|some (some (.own xs))=>F.nx (ρ.set i (some (.own (VD xs lo hi)))) n|_=>False
end
def V2m (h:Heap)(x:Addr):Prop:=∃ (ox:Obj) (vs:Array Value),h.get? x=some ox/\ox.data=.fields vs/\vs[2]?=some .none
section
variable {X:Cx}{W:Wd}{a b c:Expr}{pos p:Pos}{dA:DA}{fz:Bool}
def HX:List D->List D->List D->List D
 | x::xs,y::ys,z::zs=>.tup [x,y,z]::HX xs ys zs
 | _,_,_=>[]
theorem MV:∀ (xs ys zs:List D),(HX xs ys zs).all plain=true
 | [],_,_=>rfl
 | _::_,[],_=>rfl
 | _::_,_::_,[]=>rfl
 | x::xs,y::ys,z::zs=>by
   show (plain (.tup [x,y,z])&&(HX xs ys zs).all plain)=true
   rw [MV xs ys zs];rfl
theorem QO:∀ (xs ys zs:List D),xs.length<=ys.length->xs.length<=zs.length->(HX xs ys zs).length=xs.length
 | [],_,_,_,_=>rfl
 | _::_,[],_,h,_=>by simp at h
 | _::_,_::_,[],_,h=>by simp at h
 | x::xs,y::ys,z::zs,h1,h2=>by
   show (HX xs ys zs).length+1=_
   rw [QO xs ys zs (by simpa using h1) (by simpa using h2)];rfl
theorem QP:∀ (xs ys zs:List D) (i:Nat) (d:D),(HX xs ys zs)[i]?=some d->∃ x y z,xs[i]?=some x/\ys[i]?=some y/\zs[i]?=some z/\d=.tup [x,y,z]
 | [],_,_,i,d,h=>by simp [HX] at h
 | _::_,[],_,i,d,h=>by simp [HX] at h
 | _::_,_::_,[],i,d,h=>by simp [HX] at h
 | x::xs,y::ys,z::zs,0,d,h=>⟨x,y,z,rfl,rfl,rfl,(Option.some.inj h).symm⟩
 | x::xs,y::ys,z::zs,i+1,d,h=>QP xs ys zs i d h
noncomputable def Q2v (fz t1 t2 t3:Bool)(dA:DA):DA:=fun ρ P=>dA ρ fun us=>match us with
 | [x,y,z]=>(match asK fz t1 x,asK fz t2 y,asK fz t3 z with|some xs,some ys,some zs=>(xs.length<=ys.length/\xs.length<=zs.length)/\P (HX xs ys zs)|_,_,_=>False)
 | _=>False
theorem J7v {t1 t2 t3:Bool}{x y z:D}{xs ys zs:List D}{l1 l2 l3:Addr}(h1:asK fz t1 x=some xs)(h2:asK fz t2 y=some ys)(h3:asK fz t3 z=some zs)(hl:xs.length<=ys.length)(hl':xs.length<=zs.length):IW W (Q4y W.K t1 t2 t3 l1 l2 l3) [(x,.ref l1),(y,.ref l2),(z,.ref l3)] (HX xs ys zs):=by
 intro M b H hs hn
 obtain ⟨⟨a1,us,e1,q1,r1⟩,_⟩:=asK.rep (hn _ (.head _)) h1
 obtain ⟨⟨a2,ws,e2,q2,r2⟩,_⟩:=asK.rep (hn _ (.tail _ (.head _))) h2
 obtain ⟨⟨a3,vs,e3,q3,r3⟩,_⟩:=asK.rep (hn _ (.tail _ (.tail _ (.head _)))) h3
 cases e1
 cases e2
 cases e3
 have hlen:=QO xs ys zs hl hl'
 refine ⟨fun i d e=>?_,fun i hi=>⟨⟨us,q1,by rw [r1.length,<- hlen];exact hi⟩,⟨ws,q2⟩,⟨vs,q3⟩⟩⟩
 obtain ⟨x',y',z',g1,g2,g3,rfl⟩:=QP _ _ _ _ _ e
 obtain ⟨u,eu,ru⟩:=r1.get g1
 obtain ⟨w,ew,rw'⟩:=r2.get g2
 obtain ⟨v,ev,rv⟩:=r3.get g3
 refine ⟨⟨us,ws,vs,u,w,v,q1,eu,q2,ew,q3,ev⟩,fun v' H3 ⟨t,y1,y2,y3,ev',ht,eH,k1,k2,k3⟩=>?_⟩
 subst ev' eH
 have z1:=k1 us q1
 have z2:=k2 ws q2
 have z3:=k3 vs q3
 rw [eu] at z1;cases z1
 rw [ew] at z2;cases z2
 rw [ev] at z3;cases z3
 exact ⟨Same.upd ht,EZ hs ⟨u,[w,v],rfl,ru,w,[v],rfl,rw',v,[],rfl,rv,rfl⟩ ht⟩
theorem J3i {elts:List Expr}{c1}{tpos:Pos}(hK:X.K=W.K)(t1 t2 t3:Bool)(ha:JA X W [a,b,c] dA)
 (h:PI X (.Tuple elts c1 tpos) (.Call (.Name "zip" p) [a,b,c] [] pos) (Q0a W.K t1 t2 t3 (dnA W dA))):JI X W fz (.Tuple elts c1 tpos) (.Call (.Name "zip" p) [a,b,c] [] pos) (Q2v fz t1 t2 t3 dA):=⟨h.mono fun σ H R hh=>hh.elim fun pn M b ρ P st h k=>by
 refine ⟨pn,M,b,ρ,_,st,h,fun zs vs H1 hx rx k1 o1=>?_⟩
 match zs,hx with
 | [x,y,z],hx =>
   obtain ⟨v,_,rfl,r,u,_,rfl,r',w,_,rfl,r'',rfl⟩:=rx
   dsimp only at hx
   split at hx
   case h_2=>exact hx.elim
   case h_1 xs ys zs e1 e2 e3 =>
    obtain ⟨⟨a1,us,z1,q1,r1⟩,f1⟩:=asK.rep r e1
    obtain ⟨⟨a2,ws,z2,q2,r2⟩,f2⟩:=asK.rep r' e2
    obtain ⟨⟨a3,ts,z3,q3,r3⟩,f3⟩:=asK.rep r'' e3
    subst z1 z2 z3
    refine ⟨a1,a2,a3,rfl,⟨us,q1⟩,⟨ws,q2⟩,⟨ts,q3⟩,k _ _ _ H1 hx.2 (MV _ _ _) (J7v e1 e2 e3 hx.1.1 hx.1.2) (fun q hq=>?_) k1 o1⟩
    rcases List.mem_cons.mp hq with z|z
    · subst z;exact ⟨r,f1⟩
    · rcases List.mem_cons.mp z with z|z
      · subst z;exact ⟨r',f2⟩
      · have z:=List.mem_singleton.mp z
        subst z;exact ⟨r'',f3⟩⟩
end
noncomputable def V3f (neg:Bool):D->D->(D->Prop)->Prop
 | .bl b,.bl c,P=>P (.bl ((b==c)!=neg))
 | _,_,_=>False
section
variable {X:Cx}{W:Wd}{tg a b:Expr}{pos p:Pos}{dA:DA3}{fz:Bool}
noncomputable def Q7p (dA:DA3):DA3:=fun ρ P=>dA ρ fun xs n=>match xs with
 | [.int i,.int j,.int k]=>(0<=i/\i<=1000/\0<=j/\j<=1000/\1<=k/\k<=1000)/\P (J2b i k (Q1n i j k)) n
 | _=>False
noncomputable def J5i (dA:DA3):DA3:=fun ρ P=>dA ρ fun xs n=>match xs with
 | [.int i]=>(-(2 ^ 62)<=i/\i<2 ^ 62)/\P (Y4 0 i.toNat) n
 | _=>False
theorem PD (hg:Gl X "range") (hm:X.mg "range" = none) (ha:CJA X W [a] dA) (hs:starEach [a] X.env=[(false,eval a X.env)]:=by rfl):CJI X W fz tg (.Call (.Name "range" p) [a] [] pos) (J5i dA):=⟨(QT hg hm ha.h hs).mono fun σ H R hh=>hh.elim fun pn M b ρ P st h k=>by
 refine ⟨pn,M,b,ρ,_,st,h,fun xs vs H1 hx rx k1 o1=>?_⟩
 match xs,hx with
 | [.int i],hx =>
   obtain ⟨v1,r1,rfl,e1,rfl⟩:=rx
   cases (show _=_ from e1)
   exact ⟨i,rfl,hx.1.1,hx.1.2,k _ _ _ H1 hx.2 (KP _ _) UX (fun q hq=>by cases hq) k1 o1⟩⟩
end
def J7z (k:Nat)(y:Value)(xs:Array Value):Array Value:=(xs.extract 0 (min k xs.size)).push y++xs.extract (min k xs.size)
theorem SO (l:Addr)(items:Array Value)(n:Nat)(k:Nat)(u:Tok)(y:Value)(hc0:¬(!Builtin.List.listFitsIndex (k:Int))=true)(hs1:items.size<=sizeLine) :
 Meets (Builtin.«list.insert» ⟨[.ref l,.int k u,y],[]⟩) (fun _ R s=>s.heap.get? l=some { cls:=.type "list",dict:=none,data:=.seq items n,slots:=#[] }/\R (.ok (.ret Value.none)) { s with heap:=s.heap.update l (Obj.mapSeq (J7z k y)),toks:=s.toks }):=by
 have e:(fun xs:Array Value=>have j:=if (k:Int)<0 then ((k:Int)+(xs.size:Int)).toNat else min (k:Int).toNat xs.size;(xs.extract 0 j).push y++xs.extract j)=J7z k y:=by
  funext xs
  show ((xs.extract 0 (if (k:Int)<0 then ((k:Int)+(xs.size:Int)).toNat else min (k:Int).toNat xs.size)).push y++xs.extract (if (k:Int)<0 then ((k:Int)+(xs.size:Int)).toNat else min (k:Int).toNat xs.size))=_
  rw [if_neg (by omega),Int.toNat_natCast]
  rfl
 rw [<- e]
 exact @AutoSeq1.list_insert_list_int_val_1 l items n (k:Int) u y hc0 hs1
theorem J0t (k:Nat)(u:Value)(its:List Value)(h:k<=its.length):J7z k u its.toArray=(its.take k++u::its.drop k).toArray:=by
 unfold J7z
 rw [List.size_toArray,Nat.min_eq_left h]
 apply Array.ext'
 simp
 exact List.take_of_length_le (by rw [List.length_drop];exact Nat.le_refl _)
section
variable {X:Cx}{W:Wd}{e e1 e2:Expr}{pos:Pos}{dA:DA}{x:Str}{k:Nat}{S:DSO}
noncomputable def RT:V->List V->Hp->VK->Prop:=fun x vs H Q=>∃ (l:Addr) (xs:List V) (k:Nat) (y:V),x=.ref l/\vs=[.int k,y]/\H l=some (.lst xs)/\k<=xs.length/\xs.length<1000/\Q .non (upd H l (.lst (xs.take k++y::xs.drop k)))
theorem ME:MtM X "list.insert" RT:=by
 intro pins s σ H x vs v us Q I rx rv h
 obtain ⟨l,xs,k,y,rfl,rfl,hH,hk,hz,q⟩:=h
 cases rx
 obtain ⟨u1,u,rfl,r1,ru⟩:=MW rv
 obtain ⟨t,rfl⟩:=r1
 obtain ⟨z,its,n,r,hl,e⟩:=I.lstM hH
 have hf:=fitsIndex_both (k:=(k:Int)) (by omega) (by omega)
 have hfit:¬(!Builtin.List.listFitsIndex (k:Int))=true:=by rw [show Builtin.List.listFitsIndex (k:Int)=true from hf];decide
 have hs1000:=AF
 have hsz:its.toArray.size<=sizeLine:=by rw [List.size_toArray];omega
 have hm:=@SO l its.toArray n k t u hfit hsz
 refine call_meets F.slot_list_insert ⟨_,e,rfl⟩ F.entry_list_insert (F.args_list_insert_3 _ _ _) @hm ⟨e,?_⟩
 refine ⟨.non,_,I.lset (its':=its.take k++u::its.drop k) hH e ?_ ((r.take k).append (.cons ru (r.drop k))) ?_,rfl,q⟩
 · exact J0t k u its (by omega)
 · rw [List.length_append,List.length_cons,List.length_take,List.length_drop]
   omega
noncomputable def Q4a (i:Nat)(dA:DA):DS:=fun F ρ=>match ρ[i]? with
 | some (some (.own ys))=>dA ρ fun xs=>(match xs with | [.int k,y]=>(plain y=true/\0<=k/\k<=ys.length/\ys.length<1000)/\F.nx (ρ.set i (some (.own (ys.take k.toNat++y::ys.drop k.toNat))))|_=>False)
 | _=>False
theorem Q0u {i:Nat}:∀ E σ H,sn W (Q4a i dA) E σ H->XZ (tBM W.K "list" RT (KG i) (dnA W dA)) E σ H:=fun E σ H hh=>hh.elim fun pn M b ρ F s l h=>by
 unfold Q4a at h
 split at h
 case h_2=>exact h.elim
 case h_1 ys e =>
  obtain ⟨a,vs,ea,nb,hh,r⟩:=MB s.toSta e
  refine ⟨.ref a,ea,.inl ⟨rfl,vs,SqL.of hh⟩,pn,M,b,ρ,_,s.toSta,h,fun xs us H' hx rx k o=>?_⟩
  match xs,hx with
  | [.int n,y],hx =>
    obtain ⟨v1,u,rfl,r1,ru⟩:=rx2 rx
    cases (show _=_ from r1)
    obtain ⟨⟨p1,n0,n1,n2⟩,hx⟩:=hx
    have s':=s.step k o
    obtain ⟨a',vs',ea',nb',hh',r'⟩:=MB s'.toSta e
    rw [ea] at ea';cases ea'
    have hlen:=r'.length
    refine ⟨a,vs',n.toNat,u,rfl,by rw [show ((n.toNat:Nat):Int)=n by omega],hh',by omega,by omega,l.nx _ _ _ _ _ (s'.setOwn i e ea (Reps.append (Reps.take n.toNat r') (show Reps W.K M H' (y::ys.drop n.toNat) (u::vs'.drop n.toNat) from ⟨u,_,rfl,ru.rep p1,Reps.drop n.toNat r'⟩))) hx⟩
theorem JU {i:Nat}{y:Str}{npos apos cpos:Pos}(hK:X.K=W.K)(ha:JA X W [e1,e2] dA)
 (h:PE X (.Call (.Attribute (.Name y npos) "insert" apos) [e1,e2] [] cpos) (tBM X.K "list" RT (KG i) (dnA W dA))) (hs:swapsWith (.Call (.Attribute (.Name y npos) "insert" apos) [e1,e2] [] cpos) none pos.line X.env=pure false:=by rfl) :
 JS X W (.Expr (.Call (.Attribute (.Name y npos) "insert" apos) [e1,e2] [] cpos) pos) (Q4a i dA):=⟨(HJ (by rw [hK] at h;exact h) hs).mono Q0u⟩
noncomputable def iOr (d1 d2:DA):DA:=fun ρ P=>d1 ρ P\/d2 ρ P
theorem Q2n {fz:Bool}{tg l:Expr}{d1 d2:DA}(h1:JI X W fz tg l d1)(h2:JI X W fz tg l d2):JI X W fz tg l (iOr d1 d2):=⟨fun pins s σ H R I hh=>hh.elim fun pn M b ρ P st h k=>h.elim (fun q=>h1.h pins s σ H R I ⟨pn,M,b,ρ,P,st,q,k⟩) (fun q=>h2.h pins s σ H R I ⟨pn,M,b,ρ,P,st,q,k⟩)⟩
noncomputable def V1x (i:Nat):DS:=fun F ρ=>match ρ[i]? with
 | some (some (.own ys))=>0<ys.length/\F.nx (ρ.set i (some (.own (ys.take (ys.length - 1)))))
 | _=>False
noncomputable def V1r (i:Nat)(S:DSO)(dA:DA):DS:=fun F ρ=>dA ρ fun ds=>ds.all L2.plain=true/\S ds (fun ys=>F.nx (ρ.set i (some (.own ys)))) (fun _=>False)
end
def RowsR (K:Fg)(M:Addr->Prop)(H:Hp):List Addr->List (List D)->Prop
 | [],rows=>rows=[]
 | r::rs,rows=>∃ row rest us,rows=row::rest/\H r=some (.lst us)/\Reps K M H row us/\RowsR K M H rs rest
section
variable {K:Fg}{M M':Addr->Prop}{H H':Hp}
theorem RowsR.keep:∀ (rs:List Addr) (rows:List (List D)),(∀ c o,(¬ M c\/c∈rs)->H c=some o->H' c=some o)->RowsR K M H rs rows->RowsR K M H' rs rows
 | [],_,_,h=>h
 | r::rs,rows,k,h=>by
   obtain ⟨row,rest,us,e,h1,h2,h3⟩:=h
   exact ⟨row,rest,us,e,k _ _ (.inr (List.mem_cons_self ..)) h1,Reps.keep (fun c o n e=>k c o (.inl n) e) _ _ h2,RowsR.keep rs rest (fun c o q e=>k c o (q.imp id (List.mem_cons_of_mem _)) e) h3⟩
theorem RowsR.avoid (k:∀ c,M' c->M c\/H c=none):∀ (rs:List Addr) (rows:List (List D)),RowsR K M H rs rows->RowsR K M' H rs rows
 | [],_,h=>h
 | r::rs,rows,h=>by
   obtain ⟨row,rest,us,e,h1,h2,h3⟩:=h
   exact ⟨row,rest,us,e,h1,Reps.avoid k _ _ h2,RowsR.avoid k rs rest h3⟩
theorem RowsR.length:∀ {rs:List Addr} {rows:List (List D)},RowsR K M H rs rows->rows.length=rs.length
 | [],_,h=>by rw [show _=[] from h];rfl
 | r::rs,rows,h=>by
   obtain ⟨row,rest,us,rfl,h1,h2,h3⟩:=h
   simp [RowsR.length h3]
theorem RowsR.lst:∀ {rs:List Addr} {rows:List (List D)},RowsR K M H rs rows->∀ r∈rs,∃ us,H r=some (.lst us)
 | [],_,_,r,m=>by cases m
 | r::rs,rows,h,r',m=>by
   obtain ⟨row,rest,us,rfl,h1,h2,h3⟩:=h
   rcases List.mem_cons.mp m with z|z
   · rw [z];exact ⟨us,h1⟩
   · exact RowsR.lst h3 r' z
theorem RowsR.at:∀ {rs:List Addr} {rows:List (List D)} {k:Nat} {r:Addr},RowsR K M H rs rows->rs[k]?=some r->∃ row us,rows[k]?=some row/\H r=some (.lst us)/\Reps K M H row us
 | [],_,_,_,_,e=>by simp at e
 | _::rs,rows,0,r,h,e=>by
   obtain ⟨row,rest,us,rfl,h1,h2,h3⟩:=h
   simp at e;subst e
   exact ⟨row,us,rfl,h1,h2⟩
 | _::rs,rows,k+1,r,h,e=>by
   obtain ⟨row,rest,us,rfl,h1,h2,h3⟩:=h
   obtain ⟨row',us',e1,e2⟩:=RowsR.at (k:=k) h3 (by simpa using e)
   exact ⟨row',us',by simpa using e1,e2⟩
theorem RowsR.set:∀ {rs:List Addr} {rows:List (List D)} {k:Nat} {r:Addr} {row:List D} {us:List V},rs.Nodup->(∀ c∈rs,M c)->RowsR K M H rs rows->rs[k]?=some r->Reps K M H row us->RowsR K M (upd H r (.lst us)) rs (rows.set k row)
 | [],_,_,_,_,_,_,_,_,e,_=>by simp at e
 | r0::rs,rows,0,r,row,us,nd,hm,h,e,hr=>by
   obtain ⟨row0,rest,us0,rfl,h1,h2,h3⟩:=h
   simp at e;subst e
   have kk:∀ c o,¬ M c->H c=some o->upd H r0 (.lst us) c=some o:=fun c o n q=>by rw [V8 (fun z=>n (by rw [z];exact hm r0 (List.mem_cons_self ..)))];exact q
   refine ⟨row,rest,us,rfl,Y3,Reps.keep kk _ _ hr,RowsR.keep rs rest (fun c o q e=>?_) h3⟩
   rcases q with q|q
   · exact kk c o q e
   · rw [V8 (fun z=>(List.nodup_cons.mp nd).1 (by rw [<- z];exact q))];exact e
 | r0::rs,rows,k+1,r,row,us,nd,hm,h,e,hr=>by
   obtain ⟨row0,rest,us0,rfl,h1,h2,h3⟩:=h
   have er:rs[k]?=some r:=by simpa using e
   have ne:r0≠r:=fun z=>(List.nodup_cons.mp nd).1 (by rw [z];exact List.mem_of_getElem? er)
   have kk:∀ c o,¬ M c->H c=some o->upd H r (.lst us) c=some o:=fun c o n q=>by rw [V8 (fun z=>n (by rw [z];exact hm r (List.mem_cons_of_mem _ (List.mem_of_getElem? er))))];exact q
   exact ⟨row0,rest.set k row,us0,rfl,by rw [V8 ne];exact h1,Reps.keep kk _ _ h2,RowsR.set (List.nodup_cons.mp nd).2 (fun c m=>hm c (List.mem_cons_of_mem _ m)) h3 er hr⟩
theorem RowsR.reps {A:List Addr}:∀ (rs:List Addr) (rows:List (List D)),(∀ r∈rs,r∈A)->RowsR K M H rs rows->Reps K (fun c=>M c/\c∉A) H (rows.map D.lst) (rs.map V.ref)
 | [],rows,_,h=>by rw [show rows=[] from h];exact rfl
 | r::rs,rows,hA,h=>by
   obtain ⟨row,rest,us,rfl,h1,h2,h3⟩:=h
   exact ⟨.ref r,_,rfl,⟨r,us,rfl,⟨fun m=>m.2 (hA r (List.mem_cons_self ..)),h1⟩,Reps.avoid (fun c m=>.inl m.1) _ _ h2⟩,RowsR.reps rs rest (fun c m=>hA c (List.mem_cons_of_mem _ m)) h3⟩
end
def QW (K:Fg)(a:Addr)(rs:List Addr)(rows:List (List D)):Frg where
 ads:=a::rs
 R:=fun M H v=>v=.ref a/\(a::rs).Nodup/\H a=some (.lst (rs.map V.ref))/\RowsR K M H rs rows
 keep:=fun M H H' v k h=>⟨h.1,h.2.1,k _ _ (.inr (List.mem_cons_self ..)) h.2.2.1,RowsR.keep rs rows (fun c o q e=>k c o (q.imp id (List.mem_cons_of_mem _)) e) h.2.2.2⟩
 avoid:=fun M M' H v k h=>⟨h.1,h.2.1,h.2.2.1,RowsR.avoid k rs rows h.2.2.2⟩
 ref:=fun M H v h=>⟨a,h.1⟩
 nt:=fun M H v h c m=>by
  rcases List.mem_cons.mp m with z|z
  · rw [z];exact ⟨_,h.2.2.1,fun _ y=>by cases y⟩
  · obtain ⟨us,e⟩:=h.2.2.2.lst c z
    exact ⟨_,e,fun _ y=>by cases y⟩
def KO (rows:List (List D)):D:=.lst (rows.map D.lst)
def grd (K:Fg)(a:Addr)(rs:List Addr)(rows:List (List D)):D:=.frg (QW K a rs rows) (KO rows)
theorem SS {W:Wd} {H:Hp}{a:Addr}{rs:List Addr}{rows:List (List D)}(ho:∀ c∈a::rs,M c/\b≠some c/\W.H0 c=none/\¬ W.M0 c)(nd:(a::rs).Nodup)(ha:H a=some (.lst (rs.map V.ref)))(hr:RowsR W.K M H rs rows):RepX W M b H (grd W.K a rs rows) (.ref a) :=
 ⟨ho,⟨rfl,nd,ha,hr⟩,⟨a,_,rfl,⟨fun m=>m.2 (List.mem_cons_self ..),ha⟩,RowsR.reps (A:=a::rs) rs rows (fun r m=>List.mem_cons_of_mem _ m) hr⟩⟩
theorem OX {W:Wd} {H:Hp}{a:Addr}{rs:List Addr}{rows:List (List D)}{v:V}(h:RepX W M b H (grd W.K a rs rows) v):v=.ref a/\(∀ c∈a::rs,M c/\b≠some c/\W.H0 c=none/\¬ W.M0 c)/\(a::rs).Nodup/\H a=some (.lst (rs.map V.ref))/\RowsR W.K M H rs rows:=⟨h.2.1.1,h.1,h.2.1.2.1,h.2.1.2.2.1,h.2.1.2.2.2⟩
theorem StS.setFrg {W:Wd}{pn:List (D×V)} {H:Hp}{σ:St}{ρ:Ev}{f f':Frg}{d d':D}{v:V}{a:Addr}{o:HO}(s:StS W pn M b H σ ρ)(i:Nat)(e:ρ[i]?=some (some (.frg f d)))(ev:σ[i]?=some (some v))(ha:a∈f.ads)(hads:∀ c,c∈f'.ads->c∈f.ads)(r:RepX W M b (upd H a o) (.frg f' d') v) :
 StS W pn M b (upd H a o) σ (ρ.set i (some (.frg f' d'))):=by
 obtain ⟨v0,e1,r0⟩:=s.env i _ e
 rw [ev] at e1;cases e1
 obtain ⟨m1,m2,m3,m4⟩:=r0.1 a ha
 have kk:∀ c u,¬ M c->H c=some u->upd H a o c=some u:=fun c u n q=>by rw [V8 (show c≠a from fun z=>n (by rw [z];exact m1))];exact q
 have kb:∀ c u,c≠a->H c=some u->upd H a o c=some u:=fun c u n q=>by rw [V8 n];exact q
 refine s.of2 ⟨⟨fun q z=>W.B.st q H _ (s.ok q z) fun u h=>kb q u (fun w=>m2 (w▸z)) h,s.bagM,fun c hc=>?_,s.m0⟩,fun c u n q=>kb c u (fun z=>by rw [z,m3] at q;cases q) (s.kp c u n q),s.new,fun j d2 e'=>?_,by simp [s.len],fun q hq=>(s.pin q hq).to (fun _ _ r=>Rep.keep kk _ _ r) (fun _ _ r=>Reps.keep kk _ _ r) fun zs a2 us ed ev2 m n hh2=>⟨m,n,kb _ _ (fun y=>s.lj zs a2 (by rw [<- ed,<- ev2];exact hq) i _ _ e ev (show a2∈f.ads by rw [y];exact ha)) hh2⟩⟩ (fun _ _ q=>q) fun j d2 v2 c e' e2 m=>?_
 · by_cases z:c=a
   · rw [z];exact ⟨_,Y3⟩
   · obtain ⟨u,q⟩:=s.dom c hc;exact ⟨u,kb c u z q⟩
 · by_cases z:i=j
   · subst z
     rw [List.getElem?_set] at e'
     simp at e'
     obtain ⟨hl,rfl⟩:=e'
     exact ⟨v,ev,r⟩
   · rw [List.getElem?_set_ne z] at e'
     obtain ⟨w,e1,r1⟩:=s.env j d2 e'
     refine ⟨w,e1,?_⟩
     have na:¬ GO d2 w a:=fun y=>z (s.dj i j _ _ _ _ a e e' ev e1 ha y)
     cases d2
     case own zs =>
      obtain ⟨a2,us2,rfl,n1,n2,n3,n4,hh2,r2⟩:=r1
      exact ⟨a2,us2,rfl,n1,n2,n3,n4,kb _ _ (fun y=>na (by rw [y];rfl)) hh2,Reps.keep kk _ _ r2⟩
     case bag=>exact r1
     case frg f2 _=>exact RepX.move r1 (fun c _ m n=>⟨m,n⟩) (fun c u q h=>kb c u (fun y=>q.elim (fun n=>n (by rw [y];exact m1)) (fun n=>na (by show a∈f2.ads;rw [<- y];exact n))) h) fun c m=>.inl m
     all_goals exact Rep.keep kk _ _ r1
 · by_cases z:i=j
   · subst z
     rw [List.getElem?_set] at e'
     simp at e'
     obtain ⟨_,rfl⟩:=e'
     exact ⟨_,e,e2,hads c m⟩
   · rw [List.getElem?_set_ne z] at e'
     exact ⟨d2,e',e2,m⟩
theorem RepX.grow {W:Wd}{M M':Addr->Prop} {H H':Hp}{d:D}{v:V}(hM:∀ c,M' c->M c\/H c=none)(sub:∀ c,M c->M' c)(hb:∀ p,b=some p->M p)(kp:Kp b H H')(r:RepX W M b H d v):RepX W M' b H' d v:=by
 have kk:∀ c o,¬ M' c->H c=some o->H' c=some o:=fun c o n e=>kp c o (fun z=>n (sub c (hb c z))) e
 cases d
 case own ys =>
  obtain ⟨a,us,rfl,m1,m2,m3,m4,hha,r'⟩:=r
  exact ⟨a,us,rfl,sub a m1,m2,m3,m4,kp _ _ m2 hha,Reps.keep kk _ _ (Reps.avoid hM _ _ r')⟩
 case bag=>exact r
 case frg f _=>exact RepX.move r (fun c _ m n=>⟨sub c m,n⟩) (fun c o q e=>q.elim (fun n=>kk c o n e) fun m=>kp c o (r.1 c m).2.1 e) hM
 all_goals exact Rep.keep kk _ _ (Rep.avoid hM _ _ r)
theorem Sta.grow {W:Wd}{pn:List (D×V)}{M M':Addr->Prop} {H H':Hp}{σ:St}{ρ:Ev}(s:Sta W pn M b H σ ρ)(hM:∀ c,M' c->M c\/H c=none)(sub:∀ c,M c->M' c)(kp:Kp b H H')(ok:okB W.B b H')(dom:∀ c,M' c->∃ o,H' c=some o):Sta W pn M' b H' σ ρ:=by
 have kk:∀ c o,¬ M' c->H c=some o->H' c=some o:=fun c o n e=>kp c o (fun z=>n (sub c (s.bagM c z))) e
 refine ⟨⟨ok,fun q e=>sub q (s.bagM q e),dom,fun c m=>sub c (s.m0 c m)⟩,(s.step kp ok).kp,s.new,fun j d e=>?_,s.len,fun q hq=>(s.pin q hq).to (fun _ _ r=>Rep.keep kk _ _ (Rep.avoid hM _ _ r)) (fun _ _ r=>Reps.keep kk _ _ (Reps.avoid hM _ _ r)) fun xs a vs _ _ m n hh'=>⟨sub a m,n,kp _ _ n hh'⟩⟩
 obtain ⟨w,e1,r1⟩:=s.env j d e
 exact ⟨w,e1,r1.grow hM sub s.bagM kp⟩
def dnF (W:Wd)(d:DA):TE:=fun σ H Q=>∃ pn M b ρ P,Sta W pn M b H σ ρ/\d ρ P/\∀ xs vs p H',P xs->H p=none->H' p=some (.lst vs)->Reps W.K (fun c=>M c\/c=p) H' xs vs->Kp b H H'->okB W.B b H'->Q (.ref p) H'
structure JF (X:Cx)(W:Wd)(e:Expr)(d:DA):Prop where
 h:PE X e (dnF W d)
theorem RL {B:BagT} {H H':Hp}{p:Addr}(k:Kp b H H')(o:okB B b H')(h:H' p=none):H p=none:=by
 cases q:H p with
 | none=>rfl
 | some u =>
   by_cases z:b=some p
   · obtain ⟨w,e⟩:=B.dm p H' (o p z)
     rw [h] at e;cases e
   · have:=k p u z q
     rw [h] at this;cases this
section
variable {X:Cx}{W:Wd}{elt iter tg:Expr}{ifs:List Expr}{scope:Scope}{pos:Pos}{N':List Str}{map:List (Option Nat)}{g:TG}{gd:D->Ev->(Ev->Prop)->Prop}{di:DA}{dt:DT}{de:DE}
noncomputable def Q4c (map:List (Option Nat))(gd:D->Ev->(Ev->Prop)->Prop)(di:DA)(dt:DT)(de:DE):DA:=fun ρ P=>di ρ fun items=>items.length<=1000/\compI gd dt de (EX ρ map) items P
theorem J3k (hG:GD W g gd)(B:Blk X N' scope map tg elt ifs g (dnT W dt) (dn W de))(hi:JI X W false tg iter di)(hs:∀ x,foldedSetIterable iter X.env x=pure x:=by intro _;rfl):JF X W (.ListComp elt [⟨tg,iter,ifs,0⟩] scope pos) (Q4c map gd di dt de):=⟨(NL B hi.h hs).mono fun σ H Q hh=>by
 obtain ⟨pn,M,b,ρ,P,st,h,k⟩:=hh
 refine ⟨pn,M,b,ρ,_,st,h,fun items J need H1 hx hp hI hn k1 o1=>?_⟩
 have st1:=st.step k1 o1
 refine JY hG (st1.capt map) hp hI (fun q hq=>(hn q hq).1) hx.1 hx.2 fun ds acc H' hP r hl k2 o2 D hD=>?_
 exact k ds acc D _ hP (RL (k1.trans k2) o2 hD) Y3 (Reps.keep (fun c o _ e=>Same.upd hD c o e) _ _ (Reps.avoid (fun c z=>z.imp id fun y=>by rw [y];exact hD) _ _ r)) ((k1.trans k2).trans (Kp.upd hD)) ((st1.step k2 o2).okU hD)⟩
end
inductive compR (gd:D->Ev->(Ev->Prop)->Prop)(dt:DT)(de:DA)(ρc:Ev)(items:List D)(P:List (List D)->Prop):Prop
 | mk (I:Nat->List (List D)->Prop) (h0:I 0 []) (hs:∀ (i:Nat) x acc,items[i]?=some x->I i acc->gd x ρc fun ρ1=>dt ρ1 fun c=>IfP c (de ρ1 fun y=>I (i+1) (acc++[y])) (I (i+1) acc)) (hd:∀ acc,I items.length acc->P acc):compR gd dt de ρc items P
theorem RowsR.append {H:Hp}{p:Addr}{row:List D}{us:List V}(hp:H p=some (.lst us))(hr:Reps K M H row us):∀ {rs:List Addr} {rows:List (List D)},RowsR K M H rs rows->RowsR K M H (rs++[p]) (rows++[row])
 | [],rows,h=>by rw [show rows=[] from h];exact ⟨row,[],us,rfl,hp,hr,rfl⟩
 | r::rs,rows,h=>by
   obtain ⟨row0,rest,us0,rfl,h1,h2,h3⟩:=h
   exact ⟨row0,rest++[row],us0,rfl,h1,h2,RowsR.append hp hr h3⟩
theorem VF {W:Wd}{pn:List (D×V)}{M:Addr->Prop}{b:Option Addr}{H:Hp}{σ:St}{ρ:Ev}{J:It}{need:List (D×V)}{items:List D}{g:TG}{gd:D->Ev->(Ev->Prop)->Prop}{dt:DT}{de:DA}{P:List (List D)->Prop}{Fin:List V->Hp->Prop}
 (hG:GD W g gd) (st:Sta W pn M b H σ ρ) (hp:items.all plain=true) (hI:IW W J need items) (hn:∀ q∈need,RepX W M b H q.1 q.2) (hl:items.length<=1000) (h:compR gd dt de ρ items P)
 (fin:∀ rows rs H',P rows->RowsR W.K (fun c=>M c\/c∈rs) H' rs rows->rs.Nodup->(∀ r∈rs,H r=none)->rs.length<=1000->Kp b H H'->okB W.B b H'->Fin (rs.map V.ref) H'):∃ Wf:Nat->Nat->List V->Hp->Prop,(∃ m,Wf 0 m [] H)/\PQ J g (dnT W dt) (dnF W de) σ Fin Wf:=by
 obtain ⟨I,i0,istep,idone⟩:=h
 refine ⟨fun i m acc H2=>m=items.length - i/\i<=items.length/\∃ rs rows,acc=rs.map V.ref/\rs.length<=i/\Kp b H H2/\okB W.B b H2/\rs.Nodup/\(∀ r∈rs,H r=none)/\RowsR W.K (fun c=>M c\/c∈rs) H2 rs rows/\I i rows,⟨items.length,by simp,Nat.zero_le _,[],[],rfl,Nat.le_refl _,Kp.refl _ _,st.ok,List.nodup_nil,(fun r m=>by cases m),rfl,i0⟩,?_⟩
 rintro i m acc H2 ⟨rfl,hi,rs,rows,rfl,ha,k2,o2,nd,hnew,hr,q⟩
 have hM:∀ c,(M c\/c∈rs)->M c\/H c=none:=fun c z=>z.imp id (hnew c)
 have st2:Sta W pn (fun c=>M c\/c∈rs) b H2 σ ρ:=st.grow hM (fun c z=>.inl z) k2 o2 fun c z=>z.elim ((st.step k2 o2).dom c) fun y=>by
  obtain ⟨us,e⟩:=hr.lst c y
  exact ⟨_,e⟩
 have le:=AF
 obtain ⟨hgo,hstop⟩:=hI (fun c=>M c\/c∈rs) b H2 st2.toHs fun q hq=>(hn q hq).grow hM (fun c z=>.inl z) st.bagM k2
 by_cases hlt:i<items.length
 · have ei:items[i]?=some items[i]:=List.getElem?_eq_getElem hlt
   replace q:=istep i _ rows ei q
   refine .inr ⟨(hgo i _ ei).1,by rw [List.length_map];omega,fun acc' H'=>∃ rs rows,acc'=rs.map V.ref/\rs.length<=i+1/\Kp b H H'/\okB W.B b H'/\rs.Nodup/\(∀ r∈rs,H r=none)/\RowsR W.K (fun c=>M c\/c∈rs) H' rs rows/\I (i+1) rows,fun acc' H' n=>⟨items.length - (i+1),by omega,rfl,hlt,n⟩,fun x H3 y=>?_⟩
   obtain ⟨S3,rx⟩:=(hgo i _ ei).2 x H3 y
   have o3:okB W.B b H3:=fun p e=>W.B.st p H2 H3 (o2 p e) fun o e'=>S3 p o e'
   have k3:Kp b H2 H3:=Kp.same S3
   have st3:=st2.step k3 o3
   have nb:∀ r∈rs,b≠some r:=fun r hr' z=>by
    obtain ⟨w,e⟩:=W.B.dm r H (st.ok r z)
    rw [hnew r hr'] at e;cases e
   have kR:∀ {H'},Kp b H2 H'->RowsR W.K (fun c=>M c\/c∈rs) H' rs rows:=fun kk=>RowsR.keep rs rows (fun c o z e=>kk c o (fun w=>z.elim (fun n=>n (.inl (st.bagM c w))) fun n=>nb c n w) e) hr
   refine hG pn _ b H3 σ ρ items[i] x _ _ st3 rx (List.all_eq_true.mp hp _ (List.getElem_mem hlt)) q fun ρ1 σ1 h1 st4 _=>?_
   refine ⟨pn,_,b,ρ1,_,st4,h1,fun c H5 h5 k5 o5=>?_⟩
   cases h5 with
   | t e h5 =>
     rw [if_pos e]
     refine ⟨pn,_,b,ρ1,_,st4.step k5 o5,h5,fun xs vs p H6 h6 p0 p1 r6 k6 o6=>?_⟩
     have k25:=k3.trans k5
     have p2:H2 p=none:=RL k25 o5 p0
     have pH:H p=none:=RL k2 o2 p2
     have np:p∉rs:=fun z=>by
      obtain ⟨us,e⟩:=hr.lst p z
      rw [p2] at e;cases e
     have hm':∀ c,(M c\/c∈rs++[p])->(M c\/c∈rs)\/c=p:=fun c z=>z.elim (fun y=>.inl (.inl y)) fun y=>(List.mem_append.mp y).elim (fun w=>.inl (.inr w)) fun w=>.inr (List.mem_singleton.mp w)
     refine ⟨rs++[p],rows++[xs],by rw [List.map_append];rfl,by simp;omega,k2.trans (k25.trans k6),o6,?_,fun r z=>?_,?_,h6⟩
     · rw [List.nodup_append]
       refine ⟨nd,by simp,fun a ha' b' hb' e=>?_⟩
       rw [List.mem_singleton.mp hb'] at e
       rw [e] at ha';exact np ha'
     · rcases List.mem_append.mp z with w|w
       · exact hnew r w
       · rw [List.mem_singleton.mp w];exact pH
     · refine RowsR.append p1 (Reps.avoid (fun c z=>.inl (hm' c z)) _ _ r6) ?_
       have r1:=RowsR.avoid (M':=fun c=>M c\/c∈rs++[p]) (fun c z=>(hm' c z).imp id fun w=>by rw [w];exact p2) rs rows hr
       exact RowsR.keep rs rows (fun c o z e=>(k25.trans k6) c o (fun w=>z.elim (fun n=>n (.inl (st.bagM c w))) fun n=>nb c n w) e) r1
   | f e h5 =>
     rw [if_neg (by rw [e];exact Bool.false_ne_true)]
     have kk:=k3.trans k5
     exact ⟨rs,rows,rfl,by omega,k2.trans kk,o5,nd,hnew,kR kk,h5⟩
 · have e:i=items.length:=by omega
   subst e
   exact .inl ⟨hstop _ (Nat.le_refl _),by rw [List.length_map];omega,fin rows rs H2 (idone _ q) hr nd hnew (by omega) k2 o2⟩
abbrev DSG:=List D->(List (List D)->Prop)->(Addr->Prop)->Prop
structure GNew (K:Fg)(M:Addr->Prop)(H H':Hp)(a:Addr)(rs:List Addr)(rows:List (List D)):Prop where
 a0:H a=none
 r0:∀ r∈rs,H r=none
 nd:(a::rs).Nodup
 ha:H' a=some (.lst (rs.map V.ref))
 hr:RowsR K (fun c=>M c\/c∈a::rs) H' rs rows
def DU (K:Fg)(B:BagT)(S:DSG):Sp:=fun vs H Q E=>∃ (M:Addr->Prop) (b:Option Addr) (ds:List D) (P:List (List D)->Prop) (Ed:Addr->Prop),S ds P Ed/\RepAs K M b H ds vs/\okB B b H/\(∀ p,b=some p->M p)/\(∀ c,M c->∃ o,H c=some o) /\
 (∀ rows a rs H',P rows->GNew K M H H' a rs rows->Kp b H H'->okB B b H'->Q (.ref a) H')/\∀ C H',Ed C->Kp b H H'->okB B b H'->E (.ref C) none H'
theorem DU.len {B:BagT}{S:DSG}{n:Nat}(h:∀ ds P Ed,S ds P Ed->ds.length=n):∀ vs H Q E,DU K B S vs H Q E->vs.length=n:=fun vs H Q E ⟨M,b,ds,P,Ed,hS,hr,_⟩=>by rw [hr.length];exact h _ _ _ hS
abbrev DG:=(List (List D)->Prop)->DS
def snG (W:Wd)(d:DG):TS:=fun E σ H=>∃ pn M b ρ F P,StS W pn M b H σ ρ/\Link W pn E F/\(∀ rows a rs H',P rows->GNew W.K W.M0 W.H0 H' a rs rows->Kp W.b0 W.H0 H'->okB W.B W.b0 H'->E.rt (.ref a) H')/\d P F ρ
structure JGs (X:Cx)(W:Wd)(sts:List Stmt)(d:DG):Prop where
 h:PSs X sts (snG W d)
theorem UT {X:Cx}{W:Wd}{st:Stmt}{rest:List Stmt}{d1:DS}{d2:DG}(h1:JS X W st d1)(h2:JGs X W rest d2):JGs X W (st::rest) (fun P F=>d1 { F with nx:=d2 P F }):=⟨(AQ h1.h h2.h).mono fun E σ H hh=>by
 obtain ⟨pn,M,b,ρ,F,P,s,l,lg,h⟩:=hh
 exact ⟨pn,M,b,ρ,{ F with nx:=d2 P F },s,⟨fun M b ρ σ H s' h'=>⟨pn,M,b,ρ,F,P,s',l,lg,h'⟩,l.rt,l.bk,l.ct,l.ro⟩,h⟩⟩
theorem V0l {X:Cx} {W:Wd} {N':List Str} {scope:Scope} {map:List (Option Nat)} {tg elt:Expr} {ifs:List Expr} {g:TG} {dt:DT} {de:DA} (calm:X.calm=true) (kind:scope.kind=.function) (loc:∀ x∈scope.names,x.2=.local->scope.names.lookup x.1=some .local) (free:(scope.names.all fun p=>!(p.2==NameKind.free)||(X.env.kindOf p.1==some .cell||X.env.kindOf p.1==some .free))=true) (cap:CapOk X scope map N') (keep:LN g map)
 (run:∀ cells C fp s H,PG (Q9 X N' scope cells C fp s H) tg g/\JIf (Q9 X N' scope cells C fp s H) W ifs dt/\JF (Q9 X N' scope cells C fp s H) W elt de):Blk X N' scope map tg elt ifs g (dnT W dt) (dnF W de) :=
 ⟨calm,kind,loc,free,cap,keep,fun cells C fp s H=>⟨(run cells C fp s H).1,(run cells C fp s H).2.1.h,(run cells C fp s H).2.2.h⟩⟩
noncomputable def Q7g (map:List (Option Nat))(gd:D->Ev->(Ev->Prop)->Prop)(di:DA)(dt:DT)(de:DA):DG:=fun P F ρ=>di ρ fun items=>items.length<=1000/\compR gd dt de (EX ρ map) items P
theorem J7p {X:Cx}{W:Wd}{elt iter tg:Expr}{ifs:List Expr}{scope:Scope}{pos:Pos}{N':List Str}{map:List (Option Nat)}{g:TG}{gd:D->Ev->(Ev->Prop)->Prop}{di:DA}{dt:DT}{de:DA}{cpos:Pos}(hG:GD W g gd)(B:Blk X N' scope map tg elt ifs g (dnT W dt) (dnF W de))(hi:JI X W false tg iter di)
 (hs:∀ x,foldedSetIterable iter X.env x=pure x:=by intro _;rfl):JGs X W [.Return (some (.ListComp elt [⟨tg,iter,ifs,0⟩] scope cpos)) pos] (Q7g map gd di dt de):=⟨(EC (GG (NL B hi.h hs))).mono fun E σ H hh=>by
 obtain ⟨pn,M,b,ρ,F,P,s,l,lg,h⟩:=hh
 refine ⟨pn,M,b,ρ,_,s.toSta,h,fun items J need H1 hx hp hI hn k1 o1=>?_⟩
 have s1:=s.step k1 o1
 refine VF hG (s1.toSta.capt map) hp hI (fun q hq=>(hn q hq).1) hx.1 hx.2 fun rows rs H' hP hr nd hnew hl k2 o2 q hq=>?_
 have s2:=s1.step k2 o2
 have nq:q∉rs:=fun z=>by
  obtain ⟨us,e⟩:=hr.lst q z
  rw [hq] at e;cases e
 have s3:=s2.step (Kp.upd (o:=.lst (rs.map V.ref)) hq) (s2.toHs.okU hq)
 refine lg rows q rs _ hP ⟨(s2.toSta.fresh0 hq).1,fun r z=>(s1.toSta.fresh0 (hnew r z)).1,List.nodup_cons.mpr ⟨nq,nd⟩,Y3,?_⟩ s3.kp s3.ok0
 refine RowsR.keep rs rows (fun c o z e=>Same.upd hq c o e) (RowsR.avoid (fun c z=>?_) rs rows hr)
 rcases z with z|z
 · exact .inl (.inl (s2.m0 c z))
 · rcases List.mem_cons.mp z with y|y
   · exact .inr (by rw [y];exact hq)
   · exact .inl (.inr y)⟩
theorem Fun.okDXG {P:Program}{w:World} {mg:Str->Option Value}{base:Heap}{CX:CXT}{x qual:Str}{st:Stmt}{f:Addr} {N ps:List Str}{k:Nat}{B:BagT}{Sd:DSG}(F:Fun K x qual st f fd)(S:FnScope N ps (J3 st))(len:∀ ds PP Ed,Sd ds PP Ed->ds.length=ps.length)
 (hbody:∀ (cdv:Value) (A:Around) (outer:List Env) (s:Shared) (H:Hp) (E:XK) (M:Addr->Prop) (bg:Option Addr) (ds:List D) (PP:List (List D)->Prop) (Ed:Addr->Prop),Room k (A.deeper (envOfC qual (J3 st) s.heap.objs.size f cdv))->GU ⟨K,B,H,M,bg⟩ E Ed->Sd ds PP Ed ->
  ∃ d:DG,JGs (V4 CX P w K mg base N qual (J3 st) f cdv A outer s H E) ⟨K,B,H,M,bg⟩ (BW st) d/\d PP { nx:=fun _=>False,rt:=fun _=>False } (CH N ds)):FnOk P w K mg base CX (k+1) f fd ps (DU K B Sd) :=
 F.okX S (DU.len len) fun cdv A outer s H vs Q E hr h=>by
  obtain ⟨M,bg,ds,PP,Ed,hS,hR,ho,hb,hd,hq,hx⟩:=h
  obtain ⟨d,J,q⟩:=hbody cdv A outer s H E M bg ds PP Ed hr (fun C H' e k o=>hx C H' e k o) hS
  exact ⟨_,J.h,[],M,bg,CH N ds,{ nx:=fun _=>False,rt:=fun _=>False },PP,YW hR ho hb hd,⟨fun _ _ _ _ _ _ h=>h.elim,fun _ _ _ h=>h.elim,fun _ _ _ _ _ _ h=>h.elim,fun _ _ _ _ _ _ h=>h.elim,fun _ _ _ _ h=>h.elim⟩,fun rows a rs H' hp gn k o=>hq rows a rs H' hp gn k o,q⟩
theorem RowsR.unbor {M M':Addr->Prop}{H:Hp}(k:∀ c,M c->M' c\/∃ o,H c=some o/\∀ vs,o≠.tup vs):∀ (rs:List Addr) (rows:List (List D)),(∀ r∈rows,GM r=true)->RowsR K M' H rs rows->RowsR K M H rs rows
 | [],_,_,h=>h
 | r::rs,rows,n,h=>by
   obtain ⟨row,rest,us,rfl,h1,h2,h3⟩:=h
   exact ⟨row,rest,us,rfl,h1,Reps.unbor k _ _ (n row (List.mem_cons_self ..)) h2,RowsR.unbor k rs rest (fun r m=>n r (List.mem_cons_of_mem _ m)) h3⟩
section
variable {X:Cx}{W:Wd}{e a b c:Expr}{es:List Expr}{pos p:Pos}{db:DE}{dA:DA}{x:Str}{k:Nat}{ps:List Str}{S:DSG}
theorem PL {pn:List (D×V)} {b:Option Addr}{H1:Hp}{σ:St}{ρ:Ev}{xs:List D}{vs:List V}{P:List (List D)->Prop}{Q:VK}{E:XK}{Ed:Addr->Prop}(hE:GU W E Ed)(st1:Sta W pn M b H1 σ ρ)(rx:RepXs W M b H1 xs vs)(hS:S (xs.map bor) (fun rows=>(∀ r∈rows,GM r=true)/\P rows) Ed)
 (k:∀ rows a rs H',P rows->GNew W.K M H1 H' a rs rows->Kp b H1 H'->okB W.B b H'->Q (.ref a) H'):DU W.K W.B S vs H1 Q E:=by
 refine ⟨fun c=>M c/\¬ BorAt xs vs c,b,xs.map bor,_,Ed,hS,RepXs.bor2 (fun c h=>h.1) _ _ (fun c h z=>z.2 h) rx,st1.ok,fun p h=>⟨st1.bagM p h,fun z=>(BorAt.lst xs vs rx z).1 h⟩,fun c hc=>st1.dom c hc.1,fun rows a rs H' hp gn k2 o2=>?_,fun C H' hC k2 o2=>?_⟩
 · refine k rows a rs H' hp.2 ⟨gn.a0,gn.r0,gn.nd,gn.ha,RowsR.unbor (fun c m=>?_) rs rows hp.1 gn.hr⟩ k2 o2
   rcases m with m|m
   · by_cases z:BorAt xs vs c
     · obtain ⟨nb,us',e,nt⟩:=BorAt.lst xs vs rx z
       exact .inr ⟨us',k2 c _ nb e,nt⟩
     · exact .inl (.inl ⟨m,z⟩)
   · exact .inl (.inr m)
 · have st2:=st1.step k2 o2
   exact hE C H' hC st2.kp st2.ok0
noncomputable def J8w (S:DSG)(Ed:Addr->Prop)(dA:DA):DE:=fun ρ P=>dA ρ fun ds=>S (ds.map bor) (fun rows=>(∀ r∈rows,GM r=true)/\P (KO rows)) Ed
theorem J3t {H H':Hp}{a:Addr}{rs:List Addr}{rows:List (List D)}(gn:GNew K M H H' a rs rows)(dom:∀ c,M c->∃ o,H c=some o):Rep K M H' (KO rows) (.ref a):=by
 have nA:∀ c,M c->c∉a::rs:=fun c m z=>by
  obtain ⟨o,e⟩:=dom c m
  rcases List.mem_cons.mp z with y|y
  · rw [y,gn.a0] at e;cases e
  · rw [gn.r0 c y] at e;cases e
 exact ⟨a,_,rfl,⟨fun m=>nA a m (List.mem_cons_self ..),gn.ha⟩,Reps.avoid (fun c m=>.inl ⟨.inl m,nA c m⟩) _ _ (RowsR.reps (A:=a::rs) rs rows (fun r m=>List.mem_cons_of_mem _ m) gn.hr)⟩
theorem J0o {CX:CXT}{E:XK}{Ed:Addr->Prop}(hE:GU W E Ed)(hp:EU CX X E)(G:Callee X.prog X.w X.K X.mg X.base CX x k ps (DU W.K W.B S))(hr:Room k X.A)(hg:Gl X x)(ha:JA X W (e::es) dA)(hdb:(x==("__debug__" : Str))=false:=by decide) (he:starEach (e::es) X.env=(false,eval e X.env)::starEach es X.env:=by rfl) (hpl:(backTo pos (starEach es X.env)).any (·.1)=false:=by rfl) :
 JE X W (.Call (.Name x p) (e::es) [] pos) (J8w S Ed dA):=⟨(RX hp G hr hg ha.h hdb he hpl).mono fun σ H Q hh=>hh.elim fun pn M b ρ P st h k=>by
 refine ⟨pn,M,b,ρ,_,st,h,fun xs vs H1 hx rx k1 o1=>?_⟩
 have st1:=st.step k1 o1
 show DU W.K W.B S (vs++[]) H1 Q E
 rw [List.append_nil]
 exact PL (P:=fun rows=>P (KO rows)) hE st1 rx hx fun rows a rs H' hp gn k2 o2=>k _ _ H' hp (Rep.x (J3t gn st1.dom)) (k1.trans k2) o2⟩
noncomputable def Q9w (K:Fg)(i:Nat)(S:DSG)(Ed:Addr->Prop)(dA:DA):DS:=fun F ρ=>dA ρ fun ds=>S (ds.map bor) (fun rows=>(∀ r∈rows,GM r=true)/\∀ a rs,rs.length=rows.length->F.nx (ρ.set i (some (grd K a rs rows)))) Ed
theorem StS.gotGrid {pn:List (D×V)} {b:Option Addr}{H H':Hp}{σ:St}{ρ:Ev}{a:Addr}{rs:List Addr}{rows:List (List D)}(s:StS W pn M b H σ ρ)(i:Nat)(kp:Kp b H H')(ok:okB W.B b H')(gn:GNew W.K M H H' a rs rows):StS W pn (fun c=>M c\/c∈a::rs) b H' (σ.set i (some (.ref a))) (ρ.set i (some (grd W.K a rs rows))):=by
 have new:∀ c,c∈a::rs->H c=none:=fun c m=>by
  rcases List.mem_cons.mp m with z|z
  · rw [z];exact gn.a0
  · exact gn.r0 c z
 have t:Sta W pn (fun c=>M c\/c∈a::rs) b H' σ ρ:=s.toSta.grow (fun c z=>z.imp id (new c)) (fun c z=>.inl z) kp ok fun c z=>z.elim ((s.toSta.step kp ok).dom c) fun y=>by
  rcases List.mem_cons.mp y with w|w
  · rw [w];exact ⟨_,gn.ha⟩
  · obtain ⟨us,e⟩:=gn.hr.lst c w
    exact ⟨_,e⟩
 refine s.add i (t.set i (SS (fun c m=>?_) gn.nd gn.ha gn.hr)) fun c m=>s.toHs.new (new c m)
 refine ⟨.inr m,fun z=>?_,s.toSta.fresh0 (new c m)⟩
 obtain ⟨o,e⟩:=W.B.dm c H (s.ok c z)
 rw [new c m] at e;cases e
noncomputable def V2f (K:Fg)(i j:Nat)(dA:DA):DS:=fun F ρ=>∃ a rs rows r k row,ρ[i]?=some (some (grd K a rs rows))/\ρ[j]?=some (some (.adr r))/\rs[k]?=some r/\rows[k]?=some row/\dA ρ fun ys=>(match ys with | [y]=>(plain y&&decide (row.length<1000))=true/\F.nx (ρ.set i (some (grd K a rs (rows.set k (row++[y])))))|_=>False)
noncomputable def V2c (K:Fg)(i:Nat)(gd:D->Ev->(Ev->Prop)->Prop)(db:DS):DS:=fun F ρ=>∃ a rs rows,ρ[i]?=some (some (grd K a rs rows))/\∃ I:Nat->Ev->Prop,I 0 ρ/\(∀ n ρ,I n ρ->∃ rows',ρ[i]?=some (some (grd K a rs rows'))) /\
 (∀ n r ρ,rs[n]?=some r->I n ρ->gd (.tup [.int n,.adr r]) ρ fun ρ1=>db { F with nx:=I (n+1),ct:=I (n+1),bk:=F.nx } ρ1)/\∀ ρ,I rs.length ρ->F.nx ρ
noncomputable def V2e (K:Fg)(i:Nat):DS:=fun F ρ=>∃ a rs rows,ρ[i]?=some (some (grd K a rs rows))/\F.nx (ρ.set i (some (grd K a [] [])))
end
section
variable {X:Cx}{W:Wd}{e a b c l:Expr}{es:List Expr}{pos p:Pos}{dA:DA}{x:Str}{k:Nat}{ps:List Str}{S:DSG}{So:DSO}
noncomputable def J9f (K:Fg)(i:Nat)(S:DSG)(Ed:Addr->Prop)(dA:DA):DS3:=fun F ρ n=>dA (CG ρ) fun ds=>S (ds.map bor) (fun rows=>(∀ r∈rows,GM r=true)/\∀ a rs,rs.length=rows.length->F.nx (ρ.set i (some (grd K a rs rows))) n) Ed
theorem RC {CX:CXT}{E:XK}{Ed:Addr->Prop}(hE:∀ H0,GU (Wn W H0) E Ed)(hp:EU CX X E){i:Nat}{y:Str}{pos' cpos:Pos}(hN:X.N.Nodup)(hi:X.N[i]?=some y)(hx:Loc X.env.scope y)(G:Callee X.prog X.w X.K X.mg X.base CX x k ps (DU W.K W.B S))(hr:Room k X.A)(hg:Gl X x)(ha:∀ H0,JA X (Wn W H0) (e::es) dA)
 (hs:swapsWith (.Call (.Name x p) (e::es) [] cpos) (some (.Name y pos')) pos.line X.env=pure false:=by rfl) (hf:X.fn y=true\/X.env.scope.names.lookup y=some .local:=by first|exact .inl rfl|exact .inr rfl|assumption)
 (hdb:(x==("__debug__" : Str))=false:=by decide) (he:starEach (e::es) X.env=(false,eval e X.env)::starEach es X.env:=by rfl) (hpl:(backTo cpos (starEach es X.env)).any (·.1)=false:=by rfl) :
 CJS X W (.Assign [.Name y pos'] (.Call (.Name x p) (e::es) [] cpos) pos) (J9f W.K i S Ed dA):=⟨fun pins sh σ H E' I hh=>hh.elim fun pn M b ρ F s l h=>by
 refine CK hN hi hx (RX hp G hr hg ((ha (noH b W.H0)).h) hdb he hpl) hs hf pins sh σ H E' I ?_
 refine ⟨[],M,none,CG ρ,_,JG s.toSta,h,fun xs vs H1 hx rx k1 o1=>?_⟩
 have t1:=(JG s.toSta).step k1 o1
 have c1:=BC s.ok k1
 have ok1:=BS s.ok k1
 have s1:=s.step (EL k1) ok1
 show DU W.K W.B S (vs++[]) H1 _ E
 rw [List.append_nil]
 exact PL (W:=Wn W (noH b W.H0)) (P:=fun rows=>∀ a rs,rs.length=rows.length->F.nx (ρ.set i (some (grd W.K a rs rows))) (cnt b H)) (hE _) t1 rx hx fun rows a rs H' hp gn k2 o2=>l.nx _ _ _ _ _ (s1.gotGrid i (EL k2) (BS ok1 k2) gn) (by rw [BC ok1 k2,c1];exact hp a rs gn.hr.length.symm)⟩
noncomputable def Q4i (i:Nat)(S:DSO)(dA:DA):DS3:=fun F ρ n=>dA (CG ρ) fun ds=>ds.all L2.plain=true/\S ds (fun ys=>F.nx (ρ.set i (some (.own ys))) n) (fun _=>False)
theorem J4y {i:Nat}{y:Str}{pos' cpos:Pos}(hN:X.N.Nodup)(hi:X.N[i]?=some y)(hx:Loc X.env.scope y)(G:Callee X.prog X.w X.K X.mg X.base CX0 x k ps (DR W.K W.B So))(hr:Room k X.A)(hg:Gl X x)(ha:∀ H0,JA X (Wn W H0) (e::es) dA)
 (hs:swapsWith (.Call (.Name x p) (e::es) [] cpos) (some (.Name y pos')) pos.line X.env=pure false:=by rfl) (hf:X.fn y=true\/X.env.scope.names.lookup y=some .local:=by first|exact .inl rfl|exact .inr rfl|assumption)
 (hdb:(x==("__debug__" : Str))=false:=by decide) (he:starEach (e::es) X.env=(false,eval e X.env)::starEach es X.env:=by rfl) (hpl:(backTo cpos (starEach es X.env)).any (·.1)=false:=by rfl) :
 CJS X W (.Assign [.Name y pos'] (.Call (.Name x p) (e::es) [] cpos) pos) (Q4i i So dA):=⟨fun pins sh σ H E' I hh=>hh.elim fun pn M b ρ F s l h=>by
 refine CK hN hi hx (MA G hr hg ((ha (noH b W.H0)).h) hdb he hpl) hs hf pins sh σ H E' I ?_
 refine ⟨[],M,none,CG ρ,_,JG s.toSta,h,fun xs vs H1 hx rx k1 o1=>?_⟩
 have c1:=BC s.ok k1
 have ok1:=BS s.ok k1
 have s1:=s.step (EL k1) ok1
 refine ⟨M,none,xs,_,fun _=>False,hx.2,?_,IJ,fun p e=>(by cases e),s1.dom,fun ys a us H' hp h0 hh r k2 o2=>l.nx _ _ _ _ _ (s1.gotOwn2 i (EL k2) (BS ok1 k2) h0 hh r) (by rw [BC ok1 k2,c1];exact hp),fun C H' hC=>hC.elim⟩
 rw [List.append_nil];exact RepXs.asA (W:=Wn W (noH b W.H0)) _ _ rx hx.1⟩
noncomputable def Q4n (K:Fg)(i j:Nat)(dA:DA):DS3:=fun F ρ n=>∃ a rs rows r k row,ρ[i]?=some (some (grd K a rs rows))/\ρ[j]?=some (some (.adr r))/\rs[k]?=some r/\rows[k]?=some row/\dA (CG ρ) fun ys=>(match ys with | [y]=>(plain y&&decide (row.length<1000))=true/\F.nx (ρ.set i (some (grd K a rs (rows.set k (row++[y]))))) n|_=>False)
theorem J5a {i j:Nat}{x:Str}{e:Expr}{npos apos cpos:Pos}(hK:X.K=W.K)
 (h:∀ H0,PE X (.Call (.Attribute (.Name x npos) "append" apos) [e] [] cpos) (tBM X.K "list" EY (KG j) (dnA (Wn W H0) dA))) (hs:swapsWith (.Call (.Attribute (.Name x npos) "append" apos) [e] [] cpos) none pos.line X.env=pure false:=by rfl) :
 CJS X W (.Expr (.Call (.Attribute (.Name x npos) "append" apos) [e] [] cpos) pos) (Q4n W.K i j dA):=⟨fun pins sh σ H E' I hh=>hh.elim fun pn M b ρ F s l hd=>by
 refine HJ (h (noH b W.H0)) hs pins sh σ H E' I ?_
 rw [hK]
 obtain ⟨a,rs,rows,r,k,row,e1,e2,ek,er,hd⟩:=hd
 obtain ⟨w,ew,rw'⟩:=s.env j _ e2
 cases (show w=.ref r from rw')
 have at':∀ {H':Hp},StS W pn M b H' σ ρ->σ[i]?=some (some (.ref a))/\(∀ c∈a::rs,M c/\b≠some c/\W.H0 c=none/\¬ W.M0 c)/\(a::rs).Nodup/\H' a=some (.lst (rs.map V.ref))/\RowsR W.K M H' rs rows/\∃ us,H' r=some (.lst us)/\Reps W.K M H' row us:=fun {H'} s=>by
  obtain ⟨v,ev,rg⟩:=s.env i _ e1
  obtain ⟨rfl,ho,nd,ha,hr⟩:=OX rg
  obtain ⟨row',us,er',hh,rr⟩:=hr.at ek
  rw [er] at er';cases er'
  exact ⟨ev,ho,nd,ha,hr,us,hh,rr⟩
 obtain ⟨_,_,_,_,_,us0,hh0,_⟩:=at' s
 refine ⟨.ref r,ew,.inl ⟨rfl,us0,SqL.of hh0⟩,[],M,none,CG ρ,_,JG s.toSta,hd,fun xs us H' hx rx k' o=>?_⟩
 match xs,hx with
 | [y],hx =>
   obtain ⟨u,rfl,ru⟩:=rx1 rx
   obtain ⟨p1,p2⟩:=(Bool.and_eq_true _ _).mp hx.1
   have p2:=of_decide_eq_true p2
   have s':=s.step (EL k') (BS s.ok k')
   obtain ⟨ev,ho,nd,ha,hr,us',hh',rr⟩:=at' s'
   have mr:r∈rs:=List.mem_of_getElem? ek
   have nar:a≠r:=fun z=>(List.nodup_cons.mp nd).1 (by rw [z];exact mr)
   refine ⟨r,us',u,rfl,rfl,hh',by rw [rr.length];have:=AF;omega,l.nx _ _ _ _ _ (s'.setFrg (f':=QW W.K a rs (rows.set k (row++[y]))) (d':=KO (rows.set k (row++[y]))) i (show ρ[i]?=some (some (.frg (QW W.K a rs rows) (KO rows))) from e1) ev (List.mem_cons_of_mem _ mr) (fun c m=>m) (SS ho nd (by rw [V8 nar];exact ha) (RowsR.set (List.nodup_cons.mp nd).2 (fun c m=>(ho c (List.mem_cons_of_mem _ m)).1) hr ek (Reps.append rr (show Reps W.K M H' [y] [u] from ⟨u,[],rfl,ru.rep p1,rfl⟩))))) (by rw [JC (ho r (List.mem_cons_of_mem _ mr)).2.1,BC s.ok k'];exact hx.2)⟩⟩
end
section
variable {X:Cx}{W:Wd}{e a b c l:Expr}{pos p:Pos}
noncomputable def J5k (K:Fg)(i:Nat)(gd:D->Ev->(Ev->Prop)->Prop)(db:DS3):DS3:=fun F ρ n=>∃ a rs rows,ρ[i]?=some (some (grd K a rs rows))/\∃ I:Nat->Ev->Om,I 0 ρ n/\(∀ j ρ n,I j ρ n->∃ rows',ρ[i]?=some (some (grd K a rs rows'))) /\
 (∀ j r ρ n,rs[j]?=some r->I j ρ n->gd (.tup [.int j,.adr r]) ρ fun ρ1=>db { F with nx:=I (j+1),ct:=I (j+1),bk:=F.nx } ρ1 n)/\∀ ρ n,I rs.length ρ n->F.nx ρ n
theorem J4t {i:Nat}{g:TG}{gd:D->Ev->(Ev->Prop)->Prop}{db:DS3}(hG:GD W g gd):∀ E σ H,sn3 W (J5k W.K i gd db) E σ H->J6n (YU W.K (J1s (KG i) Q1d)) g (sn3 W db) E σ H:=fun E σ H hh=>hh.elim fun pn M b ρ F s l h=>by
 obtain ⟨a,rs,rows,e,I,i0,ig,istep,idone⟩:=h
 obtain ⟨v,ev,r⟩:=s.env i _ e
 obtain ⟨rfl,_,_,ha,_⟩:=OX r
 have hI:IW W (Ite W.K a) [(.own (rs.map D.adr),.ref a)] (enumD (rs.map D.adr)):=YS (fz:=false) (x:=.own (rs.map D.adr)) rfl
 have hlen:(enumD (rs.map D.adr)).length=rs.length:=by simp [enumD]
 refine ⟨.ref a,ev,a,rfl,⟨_,SqL.of ha⟩,fun i m σ H=>m=rs.length - i/\i<=rs.length/\∃ M b ρ,StS W pn M b H σ ρ/\I i ρ (cnt b H),⟨rs.length,by simp,Nat.zero_le _,M,b,ρ,s,i0⟩,?_⟩
 rintro j m σ2 H2 ⟨rfl,hj,M2,b2,ρ2,s2,q⟩
 obtain ⟨rows2,e2⟩:=ig j ρ2 _ q
 obtain ⟨v2,ev2,r2⟩:=s2.env i _ e2
 obtain ⟨rfl,ho2,nd2,ha2,hr2⟩:=OX r2
 have radr:∀ rs:List Addr,Reps W.K M2 H2 (rs.map D.adr) (rs.map V.ref):=fun rs=>by
  induction rs with
  | nil=>exact rfl
  | cons r rs ih=>exact ⟨.ref r,_,rfl,rfl,ih⟩
 obtain ⟨hgo,hstop⟩:=hI M2 b2 H2 s2.toHs fun q hq=>by
  have:=List.mem_singleton.mp hq
  subst this
  obtain ⟨z1,z2,z3,z4⟩:=ho2 a (List.mem_cons_self ..)
  exact ⟨a,_,rfl,z1,z2,z3,z4,ha2,radr rs⟩
 by_cases hlt:j<rs.length
 · have er:rs[j]?=some rs[j]:=List.getElem?_eq_getElem hlt
   have ei:(enumD (rs.map D.adr))[j]?=some (.tup [.int j,.adr rs[j]]):=by simp [enumD,hlt]
   replace q:=istep j _ ρ2 _ er q
   refine .inr ⟨(hgo j _ ei).1,fun σ' H'=>∃ M b ρ,StS W pn M b H' σ' ρ/\I (j+1) ρ (cnt b H'),fun σ' H' n=>⟨rs.length - (j+1),by omega,rfl,hlt,n⟩,fun x H3 y=>?_⟩
   obtain ⟨S3,rx⟩:=(hgo j _ ei).2 x H3 y
   have k3:Kp none H2 H3:=Kp.same S3
   have o3:=BS s2.ok k3
   have s3:=s2.step (Kp.same S3) o3
   refine hG pn M2 b2 H3 σ2 ρ2 _ x _ _ s3.toSta rx rfl q fun ρ1 σ1 h1 st4 ho=>?_
   exact ⟨pn,M2,b2,ρ1,{ F with nx:=I (j+1),ct:=I (j+1),bk:=F.nx },s3.of st4 ho,⟨fun M b ρ σ H s' h'=>⟨M,b,ρ,s',h'⟩,l.rt,fun M b ρ σ H s' h'=>l.nx _ _ _ _ _ s' h',fun M b ρ σ H s' h'=>⟨M,b,ρ,s',h'⟩,l.ro⟩,by rw [BC s2.ok k3];exact h1⟩
 · have e:j=rs.length:=by omega
   subst e
   exact .inl ⟨hstop _ (by rw [hlen];exact Nat.le_refl _),l.nx _ _ _ _ _ s2 (idone _ _ q)⟩
theorem J4z {i:Nat}{g:TG}{gd:D->Ev->(Ev->Prop)->Prop}{db:DS3}{body:List Stmt}{elts:List Expr}{c1}{tpos:Pos}(hG:GD W g gd)(hp:PassesOwn (model X.prog X.w) X.A X.env X.xe)(hc:X.calm=true)(hi:PI X (.Tuple elts c1 tpos) (.Call (.Name "enumerate" p) [a] [] pos) (YU W.K (J1s (KG i) Q1d))) (hg:PG X (.Tuple elts c1 tpos) g) (hb:CJSs X W body db)
 (hs:∀ x,foldedSetIterable (.Call (.Name "enumerate" p) [a] [] pos) X.env x=pure x:=by intro _;rfl) {fpos:Pos}:CJS X W (.For (.Tuple elts c1 tpos) (.Call (.Name "enumerate" p) [a] [] pos) body [] fpos) (J5k W.K i gd db):=⟨(WH hp hc hi hg hb.h hs).mono (J4t hG)⟩
noncomputable def V1p (i:Nat)(ρ:Ev)(P:Ev->Prop):Prop:=match ρ[i]? with|some (some (.frg _ d))=>P (ρ.set i (some d))|_=>False
theorem StS.thaw {pn:List (D×V)} {b:Option Addr}{H:Hp}{σ:St}{ρ:Ev}{i:Nat}{f:Frg}{d:D}(s:StS W pn M b H σ ρ)(e:ρ[i]?=some (some (.frg f d))):StS W pn (fun c=>M c/\c∉f.ads) b H σ (ρ.set i (some d)):=by
 obtain ⟨v,e1,r⟩:=s.env i _ e
 have pd:plain d=true:=by
  have:=r.2.2
  cases d<;>first|rfl|exact this.elim
 have st:Sta W pn (fun c=>M c/\c∉f.ads) b H σ (ρ.set i none):=by
  refine Sta.avoid (M:=M) ⟨s.toHs,s.kp,s.new,fun j d' e'=>?_,by simp [s.len],s.pin⟩ (fun c m=>m.1) (fun p z=>⟨s.bagM p z,fun y=>(r.1 p y).2.1 z⟩) (fun c m=>⟨s.m0 c m,fun y=>(r.1 c y).2.2.2 m⟩) (fun j d' v' c' e' e2 mm=>?_) fun ys a' hq=>⟨by
   obtain ⟨a2,us2,ev,n1,_⟩:=(s.pin _ hq)
   cases ev;exact n1,fun y=>s.lj ys a' hq i _ _ e e1 y⟩
  · by_cases z:i=j
    · subst z;rw [List.getElem?_set] at e';simp at e'
    · rw [List.getElem?_set_ne z] at e';exact s.env j d' e'
  · by_cases z:i=j
    · subst z;rw [List.getElem?_set] at e';simp at e'
    · rw [List.getElem?_set_ne z] at e'
      obtain ⟨v3,e3,r3⟩:=s.env j _ e'
      rw [e2] at e3;cases e3
      exact ⟨(r3.mine mm).1,fun y=>z (s.dj i j _ _ _ _ c' e e' e1 e2 y mm)⟩
 have st2:=st.set (x:=d) (v:=v) i (Rep.x r.2.2)
 rw [J1w e1,List.set_set] at st2
 refine s.of st2 fun j d' hm e'=>?_
 by_cases z:i=j
 · subst z
   rw [List.getElem?_set] at e'
   simp at e'
   rw [<- e'.2] at hm
   cases d<;>first|(cases hm;done)|(cases pd;done)
 · rw [List.getElem?_set_ne z] at e';exact ⟨e',rfl⟩
noncomputable def J5h (i:Nat)(d:DS3):DS3:=fun F ρ n=>match ρ[i]? with|some (some (.frg _ x))=>d F (ρ.set i (some x)) n|_=>False
theorem J1c {sts:List Stmt}{d:DS3}(i:Nat)(h:CJSs X W sts d):CJSs X W sts (J5h i d):=⟨h.h.mono fun E σ H hh=>hh.elim fun pn M b ρ F s l q=>by
 unfold J5h at q
 split at q
 case h_2=>exact q.elim
 case h_1 f x e=>exact ⟨pn,_,b,_,F,s.thaw e,l,q⟩⟩
noncomputable def Q9u (i:Nat)(d:DS):DS:=fun F ρ=>match ρ[i]? with|some (some (.frg _ x))=>d F (ρ.set i (some x))|_=>False
end
section
variable {X:Cx}{W:Wd}{e a b c l:Expr}{pos p:Pos}{dA:DA}
theorem StS.dropFrg {pn:List (D×V)} {b:Option Addr}{H:Hp}{σ:St}{ρ:Ev}{f:Frg}{d:D}{v:V}{a:Addr}{o:HO}(s:StS W pn M b H σ ρ)(i:Nat)(e:ρ[i]?=some (some (.frg f d)))(ev:σ[i]?=some (some v))(ha:a∈f.ads) :
 StS W pn M b (upd H a o) σ (ρ.set i none):=by
 obtain ⟨v0,e1,r0⟩:=s.env i _ e
 rw [ev] at e1;cases e1
 obtain ⟨m1,m2,m3,m4⟩:=r0.1 a ha
 have kk:∀ c u,¬ M c->H c=some u->upd H a o c=some u:=fun c u n q=>by rw [V8 (show c≠a from fun z=>n (by rw [z];exact m1))];exact q
 have kb:∀ c u,c≠a->H c=some u->upd H a o c=some u:=fun c u n q=>by rw [V8 n];exact q
 refine s.of2 ⟨⟨fun q z=>W.B.st q H _ (s.ok q z) fun u h=>kb q u (fun w=>m2 (w▸z)) h,s.bagM,fun c hc=>?_,s.m0⟩,fun c u n q=>kb c u (fun z=>by rw [z,m3] at q;cases q) (s.kp c u n q),s.new,fun j d2 e'=>?_,by simp [s.len],fun q hq=>(s.pin q hq).to (fun _ _ r=>Rep.keep kk _ _ r) (fun _ _ r=>Reps.keep kk _ _ r) fun zs a2 us ed ev2 m n hh2=>⟨m,n,kb _ _ (fun y=>s.lj zs a2 (by rw [<- ed,<- ev2];exact hq) i _ _ e ev (show a2∈f.ads by rw [y];exact ha)) hh2⟩⟩ (fun _ _ q=>q) fun j d2 v2 c e' e2 m=>?_
 · by_cases z:c=a
   · rw [z];exact ⟨_,Y3⟩
   · obtain ⟨u,q⟩:=s.dom c hc;exact ⟨u,kb c u z q⟩
 · by_cases z:i=j
   · subst z
     rw [List.getElem?_set] at e'
     simp at e'
   · rw [List.getElem?_set_ne z] at e'
     obtain ⟨w,e1,r1⟩:=s.env j d2 e'
     refine ⟨w,e1,?_⟩
     have na:¬ GO d2 w a:=fun y=>z (s.dj i j _ _ _ _ a e e' ev e1 ha y)
     cases d2
     case own zs =>
      obtain ⟨a2,us2,rfl,n1,n2,n3,n4,hh2,r2⟩:=r1
      exact ⟨a2,us2,rfl,n1,n2,n3,n4,kb _ _ (fun y=>na (by rw [y];rfl)) hh2,Reps.keep kk _ _ r2⟩
     case bag=>exact r1
     case frg f2 _=>exact RepX.move r1 (fun c _ m n=>⟨m,n⟩) (fun c u q h=>kb c u (fun y=>q.elim (fun n=>n (by rw [y];exact m1)) (fun n=>na (by show a∈f2.ads;rw [<- y];exact n))) h) fun c m=>.inl m
     all_goals exact Rep.keep kk _ _ r1
 · by_cases z:i=j
   · subst z
     rw [List.getElem?_set] at e'
     simp at e'
   · rw [List.getElem?_set_ne z] at e'
     exact ⟨d2,e',e2,m⟩
noncomputable def Q4p (K:Fg)(i:Nat)(dA:DA):DS3:=fun F ρ n=>∃ a rs rows,ρ[i]?=some (some (grd K a rs rows))/\rs.length<1000/\dA (CG ρ) fun ys=>(match ys with | [y]=>F.nx (ρ.set i none) n|_=>False)
theorem J5c {i:Nat}{x:Str}{e:Expr}{npos apos cpos:Pos}(hK:X.K=W.K)
 (h:∀ H0,PE X (.Call (.Attribute (.Name x npos) "append" apos) [e] [] cpos) (tBM X.K "list" EY (KG i) (dnA (Wn W H0) dA))) (hs:swapsWith (.Call (.Attribute (.Name x npos) "append" apos) [e] [] cpos) none pos.line X.env=pure false:=by rfl) :
 CJS X W (.Expr (.Call (.Attribute (.Name x npos) "append" apos) [e] [] cpos) pos) (Q4p W.K i dA):=⟨fun pins sh σ H E' I hh=>hh.elim fun pn M b ρ F s l hd=>by
 refine HJ (h (noH b W.H0)) hs pins sh σ H E' I ?_
 rw [hK]
 obtain ⟨a,rs,rows,e1,hl,hd⟩:=hd
 have at':∀ {H':Hp},StS W pn M b H' σ ρ->σ[i]?=some (some (.ref a))/\b≠some a/\H' a=some (.lst (rs.map V.ref)):=fun {H'} s=>by
  obtain ⟨v,ev,rg⟩:=s.env i _ e1
  obtain ⟨rfl,ho,nd,ha,hr⟩:=OX rg
  exact ⟨ev,(ho a (List.mem_cons_self ..)).2.1,ha⟩
 obtain ⟨ev0,_,ha0⟩:=at' s
 refine ⟨.ref a,ev0,.inl ⟨rfl,_,SqL.of ha0⟩,[],M,none,CG ρ,_,JG s.toSta,hd,fun xs us H' hx rx k' o=>?_⟩
 match xs,hx with
 | [y],hx =>
   obtain ⟨u,rfl,ru⟩:=rx1 rx
   have s':=s.step (EL k') (BS s.ok k')
   obtain ⟨ev,nb,ha⟩:=at' s'
   exact ⟨a,_,u,rfl,rfl,ha,by rw [List.length_map];have:=AF;omega,l.nx _ _ _ _ _ (s'.dropFrg i (show ρ[i]?=some (some (.frg (QW W.K a rs rows) (KO rows))) from e1) ev (List.mem_cons_self ..)) (by rw [JC nb,BC s.ok k'];exact hx)⟩⟩
noncomputable def Q6g:D->D->(D->Prop)->Prop:=fun x y P=>match asL x,y with
 | some xs,.int k=>(-(2 ^ 63)<=k/\k<2 ^ 63/\xs.length*k.toNat<=1000)/\P (.lst (List.replicate k.toNat xs).flatten)
 | _,_=>False
theorem Reps.times {H:Hp}{ds:List D}{vs:List V}(h:Reps K M H ds vs):∀ n:Nat,Reps K M H (List.replicate n ds).flatten (List.replicate n vs).flatten
 | 0=>rfl
 | n+1=>by
   rw [List.replicate_succ,List.replicate_succ,List.flatten_cons,List.flatten_cons]
   exact Reps.append h (Reps.times h n)
theorem WX:OpD W Q5x Q6g:=by
 intro M b H x y v u P Q hs rx ry ho k
 unfold Q6g at ho
 split at ho
 case h_2=>exact ho.elim
 case h_1 xs n e1 =>
  obtain ⟨a1,vs,rfl,h1,r1⟩:=asL.rep rx e1
  cases (show u=.int n from ry)
  exact ⟨a1,n,vs,rfl,rfl,h1,ho.1.1,ho.1.2.1,by rw [r1.length];exact Nat.le_trans ho.1.2.2 AF,fun p hp=>k _ _ _ ho.2 (DH hs (Reps.times r1 n.toNat) hp) (Kp.upd hp) (hs.okU hp)⟩
end
section
variable {X:Cx}{W:Wd}{pos:Pos}{dA:DA}
noncomputable def Q4o (K:Fg)(i k:Nat)(dA:DA):DS3:=fun F ρ n=>∃ a rs rows row,ρ[i]?=some (some (grd K a rs rows))/\rs.length=rows.length/\rows[k]?=some row/\dA (CG ρ) fun ys=>(match ys with | [y]=>(plain y&&decide (row.length<1000))=true/\F.nx (ρ.set i (some (grd K a rs (rows.set k (row++[y]))))) n|_=>False)
theorem J5b {i k:Nat}{r e:Expr}{apos cpos:Pos}(hK:X.K=W.K)
 (h:∀ H0,PE X (.Call (.Attribute r "append" apos) [e] [] cpos) (tBM X.K "list" EY (tOp (J0a X.K) (KG i) (tC (.int (k:Int)))) (dnA (Wn W H0) dA))) (hs:swapsWith (.Call (.Attribute r "append" apos) [e] [] cpos) none pos.line X.env=pure false:=by rfl) :
 CJS X W (.Expr (.Call (.Attribute r "append" apos) [e] [] cpos) pos) (Q4o W.K i k dA):=⟨fun pins sh σ H E' I hh=>hh.elim fun pn M b ρ F s l hd=>by
 refine HJ (h (noH b W.H0)) hs pins sh σ H E' I ?_
 rw [hK]
 obtain ⟨a,rs,rows,row,e1,hl,er,hd⟩:=hd
 obtain ⟨r,ek⟩:∃ r,rs[k]?=some r:=by
  have:=(List.getElem?_eq_some_iff.mp er).1
  exact ⟨rs[k]'(by omega),List.getElem?_eq_getElem _⟩
 have at':∀ {H':Hp},StS W pn M b H' σ ρ->σ[i]?=some (some (.ref a))/\(∀ c∈a::rs,M c/\b≠some c/\W.H0 c=none/\¬ W.M0 c)/\(a::rs).Nodup/\H' a=some (.lst (rs.map V.ref))/\RowsR W.K M H' rs rows/\∃ us,H' r=some (.lst us)/\Reps W.K M H' row us:=fun {H'} s=>by
  obtain ⟨v,ev,rg⟩:=s.env i _ e1
  obtain ⟨rfl,ho,nd,ha,hr⟩:=OX rg
  obtain ⟨row',us,er',hh,rr⟩:=hr.at ek
  rw [er] at er';cases er'
  exact ⟨ev,ho,nd,ha,hr,us,hh,rr⟩
 obtain ⟨ev0,_,_,ha0,_,us0,hh0,_⟩:=at' s
 refine ⟨.ref a,ev0,a,rs.map V.ref,k,.ref r,rfl,rfl,SqL.of ha0,LM (by rw [List.getElem?_map,ek];rfl),.inl ⟨rfl,us0,SqL.of hh0⟩,[],M,none,CG ρ,_,JG s.toSta,hd,fun xs us H' hx rx k' o=>?_⟩
 match xs,hx with
 | [y],hx =>
   obtain ⟨u,rfl,ru⟩:=rx1 rx
   obtain ⟨p1,p2⟩:=(Bool.and_eq_true _ _).mp hx.1
   have p2:=of_decide_eq_true p2
   have s':=s.step (EL k') (BS s.ok k')
   obtain ⟨ev,ho,nd,ha,hr,us',hh',rr⟩:=at' s'
   have mr:r∈rs:=List.mem_of_getElem? ek
   have nar:a≠r:=fun z=>(List.nodup_cons.mp nd).1 (by rw [z];exact mr)
   refine ⟨r,us',u,rfl,rfl,hh',by rw [rr.length];have:=AF;omega,l.nx _ _ _ _ _ (s'.setFrg (f':=QW W.K a rs (rows.set k (row++[y]))) (d':=KO (rows.set k (row++[y]))) i (show ρ[i]?=some (some (.frg (QW W.K a rs rows) (KO rows))) from e1) ev (List.mem_cons_of_mem _ mr) (fun c m=>m) (SS ho nd (by rw [V8 nar];exact ha) (RowsR.set (List.nodup_cons.mp nd).2 (fun c m=>(ho c (List.mem_cons_of_mem _ m)).1) hr ek (Reps.append rr (show Reps W.K M H' [y] [u] from ⟨u,[],rfl,ru.rep p1,rfl⟩))))) (by rw [JC (ho r (List.mem_cons_of_mem _ mr)).2.1,BC s.ok k'];exact hx.2)⟩⟩
end
section
variable {X:Cx}{W:Wd}{a b:Expr}{rest:List Expr}{pos:Pos}{da db:DE3}
noncomputable def Q7n (da db:DE3):DE3:=fun ρ P=>da ρ fun x n=>match x with|.bl k=>IfP k (db ρ P n) (P (.bl false) n)|_=>False
noncomputable def V3s (da db:DE3):DE3:=fun ρ P=>da ρ fun x n=>match x with|.bl k=>IfP k (P (.bl true) n) (db ρ P n)|_=>False
theorem J9d {op}(h:CJE X W a da):CJE X W (.BoolOp op [a] pos) da:=⟨WN h.h⟩
theorem J9e (ha:CJE X W a da)(hb:CJE X W (.BoolOp .And (b::rest) pos) db):CJE X W (.BoolOp .And (a::b::rest) pos) (Q7n da db):=⟨(RZ ha.h hb.h).mono fun σ H Q hh=>hh.elim fun pn M b ρ P st h k=>by
 refine ⟨pn,M,b,ρ,_,st,h,fun x v H1 hx rx k1 o1=>?_⟩
 cases x<;>first|exact hx.elim|skip
 case bl c =>
  cases (show _=_ from rx)
  refine ⟨c,rfl,?_⟩
  cases hx with
  | f e hx=>subst e;rw [if_neg Bool.false_ne_true];exact k _ _ H1 hx (show _=_ from rfl) k1 o1
  | t e hx=>subst e;rw [if_pos rfl];exact ⟨pn,M,b,ρ,P,st.step k1 o1,hx,fun x v H' hp r k2 o2=>k x v H' hp r (k1.trans k2) o2⟩⟩
end
theorem XM {B:BagT}{H0:Hp}{M0:Addr->Prop}{b0:Option Addr}:FT ⟨K,B,H0,M0,b0⟩ (fun xs H Q=>∃ y c t b,xs=[y,.ty c]/\(TyOf K H y t\/∃ a vs,y=.ref a/\KTp K a vs/\t=.type "tuple")/\PySem.W.kitOne K t (.type c)=some b/\Q (.bl b) H) (Q2c K):=GR (W:=⟨K,B,H0,M0,b0⟩)
end L2
namespace K
open PySem PySem.Spec PyProof.Rows L2
local macro_rules | `(tactic| walk_at "o") => `(tactic| first | exact Or.inl rfl | exact Or.inr rfl)
local macro_rules | `(tactic| walk_at "v") => `(tactic| first | exact Or.inl rfl | exact Or.inr (Or.inl rfl) | exact Or.inr (Or.inr rfl))
local macro_rules | `(tactic| walk_at "bg") => `(tactic| first | assumption | exact Bag.same (by walk_at "bg") (Same.upd (by assumption)) | exact Bag.same (by walk_at "bg") (by assumption))
local macro_rules | `(tactic| walk_at "hp") => `(tactic| first | assumption | exact Y3 | (refine Same.get (Same.upd (by assumption)) ?_; walk_at "hp") | (refine Same.get (by assumption) ?_; walk_at "hp") | (refine Keep.tup (by assumption) (by walk_at "bg") ?_; (walk_at "hp")))
local macro_rules | `(tactic| walk_at "sm") => `(tactic| first | exact Same.refl _ | assumption | (refine Same.trans ?_ (Same.upd (by assumption)); walk_at "sm") | (refine Same.trans ?_ (by assumption); walk_at "sm"))
local macro_rules | `(tactic| walk_at "kp") => `(tactic| first | exact Keep.refl _ _ | assumption | (refine Keep.trans ?_ (Same.keep (Same.upd (by assumption))); walk_at "kp") | (refine Keep.trans ?_ (by assumption); walk_at "kp") | (refine Keep.trans ?_ (Same.keep (by assumption)); walk_at "kp"))
local macro_rules | `(tactic| walk_at "bd") => `(tactic| first | assumption | exact Bd.mul (by walk_at "bd") (by walk_at "bd") | exact Bd.add (by walk_at "bd") (by walk_at "bd") | exact Bd.sub (by walk_at "bd") (by walk_at "bd") | exact Bd.neg (by walk_at "bd") | exact Bd.num _ (by decide))
local macro_rules | `(tactic| walk_at "rd1") => `(tactic| first | refine ⟨_,_,rfl,rfl,?_⟩ | refine ⟨_,rfl,?_⟩ | (refine' ⟨_,?xs,_,?vv,rfl,rfl,SqT.of ?ia,?ib,?_⟩; (case ia => walk_at "hp"); (case ib => rfl)) | refine And.intro (CMulB.right (Bd.num _ (by decide))) ?_ | (refine' rd_mul ?m1 ?m2 ?m3 ?_; (case m1 => walk_at "bd"); (case m2 => walk_at "bd"); (case m3 => first | decide | omega)) | refine ⟨rfl,?_⟩)
local macro_rules | `(tactic| walk_at "rd") => `(tactic| repeat (walk_at "rd1"))
local macro_rules | `(tactic| walk_at "al") => `(tactic| (refine ⟨(Nat.le_trans (Nat.le_of_ble_eq_true rfl) AF),?_⟩; intro p en))
local macro_rules | `(tactic| walk_at "w") => `(tactic| (conv => whnf))
local macro_rules | `(tactic| walk_at "go1") => `(tactic| first | refine And.intro (by exact rfl) ?_ | refine IfP.t (by exact rfl) ?_ | refine IfP.f (by exact rfl) ?_ | refine And.intro (by exact Nat.le_of_ble_eq_true rfl) ?_ | refine And.intro (by decide) ?_ | refine And.intro (by dsimp only; decide) ?_ | refine And.intro (CMulB.right (Bd.num _ (by decide))) ?_ | refine And.intro (Or.inl ⟨_,_,by walk_at "bd",by walk_at "bd",by first | decide | omega⟩) ?_| refine And.intro ⟨by decide,by decide⟩ ?_)
local macro_rules | `(tactic| walk_at "g") => `(tactic| ((conv => whnf); repeat (walk_at "go1"; (conv => whnf))))
local macro_rules | `(tactic| walk_at "nz") => `(tactic| simp only [CH,List.map_cons,List.map_nil,List.length_cons,List.length_nil,List.replicate,List.cons_append,List.nil_append,List.set_cons_succ,List.set_cons_zero,EX,List.getElem?_cons_succ,List.getElem?_cons_zero,Option.bind_some,Option.bind_none,Option.join_some,Option.join_none,NV,Nat.reduceAdd,Nat.reduceSub,Int.reduceAdd,Nat.zero_add])
local macro_rules | `(tactic| walk_at "gr") => `(tactic| ((try walk_at "nz"); refine J8c ?_; walk_at "g"))
local macro_rules | `(tactic| walk_at "gc") => `(tactic| ((try walk_at "nz"); refine J4u ?_; walk_at "g"))
local macro_rules | `(tactic| walk_at "sp") => `(tactic| (refine IfP.of (fun h => ?_) (fun h => ?_) <;> (try simp only [decide_eq_true_eq,Bool.bne_false,Bool.bne_true,Bool.not_eq_true',decide_eq_false_iff_not,Bool.not_true,Bool.not_false,Bool.not_eq_false',bne_iff_ne,ne_eq,Bool.not_not] at h)))
local macro_rules | `(tactic| walk_at "gr3") => `(tactic| ((try walk_at "nz"); refine for_rec3 ?_; walk_at "g"))
local macro_rules | `(tactic| walk_at "gc3") => `(tactic| ((try walk_at "nz"); refine J1b ?_; walk_at "g"))
def top (i:Nat):Stmt:=PySem.Challenge.pw_onceshade_k46_coloured_boards.main.body.getD i (.Pass ⟨0,0,0,0⟩)
structure Bi (mg:Str->Option Value):Prop where
 abs_:mg "abs" = none
 len_:mg "len" = none
 max_:mg "max" = none
 min_:mg "min" = none
 range_:mg "range" = none
 isinstance_:mg "isinstance" = none
 int_:mg "int" = none
 bool_:mg "bool" = none
 tuple_:mg "tuple" = none
 zip_:mg "zip" = none
 sum_:mg "sum" = none
 list_:mg "list" = none
 all_:mg "all" = none
 str_:mg "str" = none
 reversed_:mg "reversed" = none
 enumerate_:mg "enumerate" = none
 ValueError_:mg "ValueError" = none
 LONGEST_:∃ t,mg "LONGEST" = some (.int 16 t)
 FULL_COVER_:∃ t,mg "FULL_COVER" = some (.int 8 t)
structure Cs where
 ShadeError:Addr
 NoFraction:Addr
 NoSpot:Addr
 NoBody:Addr
 NoMove:Addr
 NoFlat:Addr
 NoFace:Addr
 NoBoard:Addr
 NoLight:Addr
 NoDeed:Addr
 NoText:Addr
 NoName:Addr
 NoRow:Addr
 Behind:Addr
 TooMany:Addr
structure Ex (K:Fg)(mg:Str->Option Value)(base:Heap)(c:Cs):Prop where
 g_ShadeError:mg "ShadeError" = some (.ref c.ShadeError)
 g_NoFraction:mg "NoFraction" = some (.ref c.NoFraction)
 g_NoSpot:mg "NoSpot" = some (.ref c.NoSpot)
 g_NoBody:mg "NoBody" = some (.ref c.NoBody)
 g_NoMove:mg "NoMove" = some (.ref c.NoMove)
 g_NoFlat:mg "NoFlat" = some (.ref c.NoFlat)
 g_NoFace:mg "NoFace" = some (.ref c.NoFace)
 g_NoBoard:mg "NoBoard" = some (.ref c.NoBoard)
 g_NoLight:mg "NoLight" = some (.ref c.NoLight)
 g_NoDeed:mg "NoDeed" = some (.ref c.NoDeed)
 g_NoText:mg "NoText" = some (.ref c.NoText)
 g_NoName:mg "NoName" = some (.ref c.NoName)
 g_NoRow:mg "NoRow" = some (.ref c.NoRow)
 g_Behind:mg "Behind" = some (.ref c.Behind)
 g_TooMany:mg "TooMany" = some (.ref c.TooMany)
 o_NoBoard:OwnCls "NoBoard" c.NoBoard bmV "ValueError.__new__" mg base
 x_NoBoard:XCls K c.NoBoard
 v_NoBoard:PySem.W.subIn K (.ref c.NoBoard) (.type "ValueError")=some true
 s_NoBoard:PySem.W.subIn K (.ref c.NoBoard) (.ref c.ShadeError)=some true
 n_NoBoard_NoFraction:PySem.W.kin_not K c.NoBoard c.NoFraction=true
 n_NoBoard_NoSpot:PySem.W.kin_not K c.NoBoard c.NoSpot=true
 n_NoBoard_NoBody:PySem.W.kin_not K c.NoBoard c.NoBody=true
 n_NoBoard_NoMove:PySem.W.kin_not K c.NoBoard c.NoMove=true
 n_NoBoard_NoFlat:PySem.W.kin_not K c.NoBoard c.NoFlat=true
 n_NoBoard_NoFace:PySem.W.kin_not K c.NoBoard c.NoFace=true
 n_NoBoard_NoLight:PySem.W.kin_not K c.NoBoard c.NoLight=true
 n_NoBoard_NoDeed:PySem.W.kin_not K c.NoBoard c.NoDeed=true
 n_NoBoard_NoText:PySem.W.kin_not K c.NoBoard c.NoText=true
 n_NoBoard_NoName:PySem.W.kin_not K c.NoBoard c.NoName=true
 n_NoBoard_NoRow:PySem.W.kin_not K c.NoBoard c.NoRow=true
 n_NoBoard_Behind:PySem.W.kin_not K c.NoBoard c.Behind=true
 n_NoBoard_TooMany:PySem.W.kin_not K c.NoBoard c.TooMany=true
 o_NoFace:OwnCls "NoFace" c.NoFace bmV "ValueError.__new__" mg base
 x_NoFace:XCls K c.NoFace
 v_NoFace:PySem.W.subIn K (.ref c.NoFace) (.type "ValueError")=some true
 s_NoFace:PySem.W.subIn K (.ref c.NoFace) (.ref c.ShadeError)=some true
 n_NoFace_NoFraction:PySem.W.kin_not K c.NoFace c.NoFraction=true
 n_NoFace_NoSpot:PySem.W.kin_not K c.NoFace c.NoSpot=true
 n_NoFace_NoBody:PySem.W.kin_not K c.NoFace c.NoBody=true
 n_NoFace_NoMove:PySem.W.kin_not K c.NoFace c.NoMove=true
 n_NoFace_NoFlat:PySem.W.kin_not K c.NoFace c.NoFlat=true
 n_NoFace_NoBoard:PySem.W.kin_not K c.NoFace c.NoBoard=true
 n_NoFace_NoLight:PySem.W.kin_not K c.NoFace c.NoLight=true
 n_NoFace_NoDeed:PySem.W.kin_not K c.NoFace c.NoDeed=true
 n_NoFace_NoText:PySem.W.kin_not K c.NoFace c.NoText=true
 n_NoFace_NoName:PySem.W.kin_not K c.NoFace c.NoName=true
 n_NoFace_NoRow:PySem.W.kin_not K c.NoFace c.NoRow=true
 n_NoFace_Behind:PySem.W.kin_not K c.NoFace c.Behind=true
 n_NoFace_TooMany:PySem.W.kin_not K c.NoFace c.TooMany=true
 sh:XBase K c.ShadeError
def Bag3 (n:Nat)(H:Hp)(p:Addr):Prop:=∃ f m st:Int,H p=some (.lst [.int f,.int m,.int st])/\0<=f/\0<=m/\m<4294967296/\0<=st/\st<=n
theorem Bag3.ne {n:Nat}{H:Hp}{p a:Addr}{xs:List V}(b:Bag3 n H p)(h:H a=some (.tup xs)):a≠p:=by
 obtain ⟨f,m,st,e,_⟩:=b
 exact J3a h e (by intro z;cases z)
abbrev HC:Stmt:=top 57
theorem IC:FnScope ["_law_script","_law_k","_law_cell"] ["_law_script","_law_k"] (J3 HC):=⟨rfl,rfl,rfl,by decide +kernel,rfl,by decide +kernel,by decide +kernel⟩
noncomputable def J1t (K:Fg):Sp:=fun vs H Q _=>∃ (a:Addr) (ns:List Int) (i:Nat),vs=[.ref a,.int i]/\SqL K H a (ns.map V.int)/\i<=1000/\∀ p H',H p=none->Same H H'->Bag3 0 H' p->Q (.ref p) H'
theorem SL {w:World} {f:Addr} (F:Fun K "_law_bag" "_law_bag" HC f fd) (Z:Bi mg) {c:Cs} (Y:Ex K mg base c):FnOk P w K mg base CX0 1 f fd ["_law_script","_law_k"] (J1t K):=by
 refine F.ok IC (fun vs H Q E h=>?_) (fun cdv A outer s H vs Q E hr h=>?_)
 · obtain ⟨a,ns,i,rfl,hS,hi,k⟩:=h
   rfl
 · obtain ⟨a,ns,i,rfl,hS,hi,k⟩:=h
   refine ⟨_,(AQ (CK (i:=2) IC.nd rfl (by walk_at "o") (BE BB (BE Q8 AC (pv 1)) AC))
    (AQ (YF (KQ OE (pv 1) (AE (AL K (by rfl)) rfl Z.len_ GI (V2 (pv 0) AA)) (Y2 _)) (EC (CK (i:=2) IC.nd rfl (by walk_at "o") (HS (EO K (by rfl)) (pv 0) (pv 1) (fun _ _=>rfl)))) NK)
    (EC (GG (HK (V2 (BE Q8 (AE GT rfl Z.abs_ MP (V2 (pv 2) AA)) (QU FH rfl Z.int_ JZ (V2 (RY Q6d (AE GT rfl Z.abs_ MP (V2 (pv 2) AA)) (BE GH AC AC) (Y2 _)) AA))) (V2 (BE BB (BE II (pv 2) AC) (BE Q8 AC (pv 1))) (V2 AC AA)))))))),?_⟩
   have bi:Bd 64 (i:Int):=Bd.of (by omega) (by omega)
   have fin:∀ c:Int,∀ x:Int,0<=x->∀ p,H p=none->Q (.ref p) (upd H p (.lst [.int x,.int (c % 2147483647+31*(i:Int)),.int 0])):=fun c x hx p hp=>by
    have h1:=Int.emod_nonneg c (show (2147483647:Int)≠0 by decide)
    have h2:=Int.emod_lt_of_pos c (show (0:Int)<2147483647 by decide)
    exact k p _ hp (Same.upd hp) ⟨_,_,_,Y3,hx,by omega,by omega,by decide,by decide⟩
   have hab:∀ c:Int,0<=(if c<0 then -c else c):=fun c=>by split<;>omega
   have body:∀ c:Int,∀ b:Bool,0<=(if c<0 then -c else c)*(if b=true then 1 else 0):=fun c b=>Int.mul_nonneg (hab c) (by split<;>decide)
   walk_at "rd"
   refine ⟨_,_,rfl,.inl hS,?_⟩
   walk_at "rd"
   refine Q2r (fun h=>?_) (fun h=>?_)
   · have h:(i:Int)<((ns.map V.int).length:Nat):=Q0g h
     have hi:i<ns.length:=by rw [List.length_map] at h;omega
     walk_at "rd"
     refine ⟨_,_,_,_,rfl,rfl,hS,LM (v:=V.int ns[i]) (by rw [List.getElem?_map,List.getElem?_eq_getElem hi];rfl),?_⟩
     walk_at "rd"
     refine ⟨⟨by decide,by decide,by decide⟩,?_⟩
     walk_at "rd"
     refine .inr ⟨_,rfl,?_⟩
     walk_at "rd"
     refine ⟨CMulB.right (Bd.of (by split<;>omega) (by split<;>omega)),?_⟩
     walk_at "rd"
     refine ⟨(by show (0:Int)<2147483647;decide),?_⟩
     walk_at "rd"
     refine ⟨(Nat.le_trans (Nat.le_of_ble_eq_true rfl) AF),?_⟩
     exact fin _ _ (body _ _)
   · walk_at "rd"
     refine ⟨⟨by decide,by decide,by decide⟩,?_⟩
     walk_at "rd"
     refine .inr ⟨_,rfl,?_⟩
     walk_at "rd"
     refine ⟨CMulB.right (Bd.of (by split<;>omega) (by split<;>omega)),?_⟩
     walk_at "rd"
     refine ⟨(by show (0:Int)<2147483647;decide),?_⟩
     walk_at "rd"
     refine ⟨(Nat.le_trans (Nat.le_of_ble_eq_true rfl) AF),?_⟩
     exact fin _ _ (body _ _)
abbrev CU:Stmt:=top 58
theorem CJ:FnScope ["_law_bag_here","_law_many","_law_digit","_law_primes","_law_step","_law_base","_law_found","_law_prime"] ["_law_bag_here","_law_many"] (J3 CU):=⟨rfl,rfl,rfl,by decide +kernel,rfl,by decide +kernel,by decide +kernel⟩
noncomputable def YB:Sp:=fun vs H Q _=>∃ (p:Addr) (many:Int) (n:Nat),vs=[.ref p,.int many]/\Bag3 n H p/\n<=9000/\0<many/\many<18446744073709551616/\∀ (r:Int) H',0<=r->r<many->Bag3 (n+1) H' p->Keep p H H'->Q (.int r) H'
theorem QJ {w:World} {f:Addr} (F:Fun K "_law_take" "_law_take" CU f fd) (Z:Bi mg) {c:Cs} (Y:Ex K mg base c):FnOk P w K mg base CX0 1 f fd ["_law_bag_here","_law_many"] YB:=by
 refine F.ok CJ (fun vs H Q E h=>?_) (fun cdv A outer s H vs Q E hr h=>?_)
 · obtain ⟨p,many,n,rfl,⟨dg,m,st,hp,hf,hm,hm2,h0,h1⟩,hn,mp,mb,k⟩:=h
   rfl
 · obtain ⟨p,many,n,rfl,⟨dg,m,st,hp,hf,hm,hm2,h0,h1⟩,hn,mp,mb,k⟩:=h
   obtain ⟨es1,hes1⟩:∃ es:List Expr,es=List.map (fun c:Int×Nat×Pos=>Expr.Constant (.int c.1) c.2.1 c.2.2) [(2147483647,0,⟨167,19,167,29⟩),(2147483629,0,⟨167,31,167,41⟩),(2147483587,0,⟨167,43,167,53⟩),(2147483579,0,⟨167,55,167,65⟩),(2147483563,0,⟨167,67,167,77⟩),(2147483549,0,⟨167,79,167,89⟩),(2147483543,0,⟨167,91,167,101⟩),(2147483497,0,⟨167,103,167,113⟩),(2147483489,0,⟨167,115,167,125⟩),(2147483477,0,⟨167,127,167,137⟩),(2147483423,0,⟨167,139,167,149⟩),(2147483399,0,⟨167,151,167,161⟩)]:=⟨_,rfl⟩
   have hT1:=CK (X:=(V4 CX0 P w K mg base ["_law_bag_here","_law_many","_law_digit","_law_primes","_law_step","_law_base","_law_found","_law_prime"] "_law_take" (J3 CU) f cdv A outer s H E).nox) (i:=3) (x:="_law_primes") (pos':=⟨167,4,167,15⟩) (pos:=⟨167,4,167,162⟩) CJ.nd rfl (by walk_at "o") (WL (x1:=0) (pos:=⟨167,18,167,162⟩) [(2147483647,0,⟨167,19,167,29⟩),(2147483629,0,⟨167,31,167,41⟩),(2147483587,0,⟨167,43,167,53⟩),(2147483579,0,⟨167,55,167,65⟩),(2147483563,0,⟨167,67,167,77⟩),(2147483549,0,⟨167,79,167,89⟩),(2147483543,0,⟨167,91,167,101⟩),(2147483497,0,⟨167,103,167,113⟩),(2147483489,0,⟨167,115,167,125⟩),(2147483477,0,⟨167,127,167,137⟩),(2147483423,0,⟨167,139,167,149⟩),(2147483399,0,⟨167,151,167,161⟩)] hes1) rfl (.inl rfl)
   generalize hst1:Stmt.Assign [Expr.Name "_law_primes" ⟨167,4,167,15⟩] (Expr.Tuple es1 0 ⟨167,18,167,162⟩) ⟨167,4,167,162⟩=st1 at hT1
   have hR1:=((AQ (RU (BE BB (HS (EO K (by rfl)) (pv 0) AC (fun _ _=>rfl)) AC) (J2m (pv 0) AC TZ))
    (AQ (CK (i:=4) CJ.nd rfl (by walk_at "o") (HS (EO K (by rfl)) (pv 0) AC (fun _ _=>rfl)))
    (AQ (CK (i:=5) CJ.nd rfl (by walk_at "o") (BE BB (BE BB (BE Q8 (HS (EO K (by rfl)) (pv 0) AC (fun _ _=>rfl)) (BE BB (BE Q8 AC (pv 4)) AC)) (BE Q8 (BE Q8 AC (pv 4)) (pv 4))) AC))
    (AQ (CK (i:=6) CJ.nd rfl (by walk_at "o") (BE II (BE GH (pv 5) AC) (HS (SQ K (by rfl)) (pv 3) (BE II (pv 4) AC) (fun _ _=>rfl))))
    (AQ (CK (i:=7) CJ.nd rfl (by walk_at "o") (HS (SQ K (by rfl)) (pv 3) (BE II (BE BB (pv 4) AC) AC) (fun _ _=>rfl)))
    (EC (GG (BE II (BE CY (BE II (BE Q8 (pv 6) (BE BB (BE CY (pv 6) AC) AC)) (pv 7)) AC) (pv 1))))))))):PSs (V4 CX0 P w K mg base ["_law_bag_here","_law_many","_law_digit","_law_primes","_law_step","_law_base","_law_found","_law_prime"] "_law_take" (J3 CU) f cdv A outer s H E).nox ((BW CU).drop 2) _)
   have hV1:=@J2h _ _ _ (AQ hT1 hR1)
   refine ⟨_,(AQ (YF (KQ UG (HS (EO K (by rfl)) (pv 0) AC (fun _ _=>rfl)) AC (Y2 _)) (AQ (CK (i:=2) CJ.nd rfl (by walk_at "o") (BE II (HS (EO K (by rfl)) (pv 0) AC (fun _ _=>rfl)) (pv 1)))
    (AQ (RU (BE CY (HS (EO K (by rfl)) (pv 0) AC (fun _ _=>rfl)) (pv 1)) (J2m (pv 0) AC TZ))
    (EC (GG (pv 2))))) NK)
    hV1),?_⟩
   have md:∀ x:Int,0<=x % many/\x % many<many:=fun x=>⟨Int.emod_nonneg _ (by omega),Int.emod_lt_of_pos _ mp⟩
   have bmany:Bd 64 many:=Bd.of (by omega) (by omega)
   walk_at "rd"
   refine ⟨_,_,_,_,rfl,rfl,SqL.of hp,rfl,?_⟩
   walk_at "rd"
   refine Q2r (fun h=>?_) (fun h=>?_)
   · have h:0<dg:=Q0g h
     walk_at "rd"
     refine ⟨_,_,_,_,rfl,rfl,SqL.of hp,rfl,?_⟩
     walk_at "rd"
     refine ⟨mp,?_⟩
     walk_at "rd"
     refine ⟨_,_,_,_,rfl,rfl,SqL.of hp,rfl,?_⟩
     walk_at "rd"
     refine ⟨⟨mp,64,bmany,by decide⟩,?_⟩
     walk_at "rd"
     refine ⟨_,_,_,0,rfl,rfl,hp,rfl,?_⟩
     walk_at "rd"
     exact k _ _ (md dg).1 (md dg).2 ⟨_,_,_,Y3,Int.ediv_nonneg hf (by omega),hm,hm2,h0,by omega⟩ Keep.upd
   · walk_at "rd"
     refine ⟨by rw [<- hst1,hes1];rfl,?_⟩
     walk_at "al"
     rename_i pr npr
     generalize hH1:upd H pr _=H1
     have S1:Same H H1:=by rw [<- hH1];exact Same.upd npr
     have epr:H1 pr=some (HO.tup [.int 2147483647,.int 2147483629,.int 2147483587,.int 2147483579,.int 2147483563,.int 2147483549,.int 2147483543,.int 2147483497,.int 2147483489,.int 2147483477,.int 2147483423,.int 2147483399]):=by rw [<- hH1];exact Y3
     have hp1:=S1 _ _ hp
     have npp:pr≠p:=J3a epr hp1 (by intro z;cases z)
     clear hH1
     walk_at "rd"
     refine ⟨_,_,_,_,rfl,rfl,SqL.of hp1,rfl,?_⟩
     walk_at "rd"
     refine ⟨_,_,_,2,rfl,rfl,hp1,rfl,?_⟩
     generalize hH2:upd H1 p _=H2
     have hp2:H2 p=some (HO.lst [.int dg,.int m,.int (st+1)]):=by rw [<- hH2];exact Y3
     have epr2:H2 pr=some (HO.tup [.int 2147483647,.int 2147483629,.int 2147483587,.int 2147483579,.int 2147483563,.int 2147483549,.int 2147483543,.int 2147483497,.int 2147483489,.int 2147483477,.int 2147483423,.int 2147483399]):=by rw [<- hH2,V8 npp];exact epr
     have K2:Keep p H H2:=by rw [<- hH2];exact S1.keep.trans Keep.upd
     clear hH2
     have b1:Bd 32 m:=Bd.of (by omega) (by omega)
     have b2:Bd 15 (st+1):=Bd.of (by omega) (by omega)
     walk_at "rd"
     refine ⟨_,_,_,_,rfl,rfl,SqL.of hp2,rfl,?_⟩
     walk_at "rd"
     refine ⟨_,_,_,_,rfl,rfl,SqL.of hp2,rfl,?_⟩
     walk_at "rd"
     have pw:(m*(2*(st+1)+1)+7919*(st+1)*(st+1)+17).natAbs<2 ^ 64:=by
      have q1:0<=m*(2*(st+1)+1)/\m*(2*(st+1)+1)<=4294967296*20000:=⟨Int.mul_nonneg hm (by omega),Int.mul_le_mul (by omega) (by omega) (by omega) (by decide)⟩
      have q2:0<=7919*(st+1)*(st+1)/\7919*(st+1)*(st+1)<=7919*10000*10000:=⟨Int.mul_nonneg (by omega) (by omega),Int.mul_le_mul (by omega) (by omega) (by omega) (by decide)⟩
      omega
     refine ⟨⟨by decide,by decide,pw⟩,?_⟩
     walk_at "rd"
     refine ⟨(by show (0:Int)<12;decide),?_⟩
     have ixp:∀ j:Int,∃ q:Int,atI [.int 2147483647,.int 2147483629,.int 2147483587,.int 2147483579,.int 2147483563,.int 2147483549,.int 2147483543,.int 2147483497,.int 2147483489,.int 2147483477,.int 2147483423,.int 2147483399] (j % 12)=some (V.int q)/\0<q/\q<=2147483647:=fun j=>by
      obtain ⟨v,ev,mv⟩:=J5q (xs:=[.int 2147483647,.int 2147483629,.int 2147483587,.int 2147483579,.int 2147483563,.int 2147483549,.int 2147483543,.int 2147483497,.int 2147483489,.int 2147483477,.int 2147483423,.int 2147483399]) (i:=j % 12) (Int.emod_nonneg _ (by decide)) (Int.emod_lt_of_pos _ (by decide))
      simp only [List.mem_cons,List.not_mem_nil,or_false] at mv
      rcases mv with e|e|e|e|e|e|e|e|e|e|e|e<;>exact ⟨_,e▸ev,by decide,by decide⟩
     obtain ⟨q1,x1,q10,q11⟩:=ixp (st+1)
     obtain ⟨q2,x2,q20,q21⟩:=ixp (st+1+5)
     refine ⟨_,_,_,_,rfl,rfl,SqT.of epr2,x1,?_⟩
     walk_at "rd"
     refine ⟨q10,?_⟩
     have fb:=Int.emod_lt_of_pos ((m*(2*(st+1)+1)+7919*(st+1)*(st+1)+17) ^ (3:Int).toNat) q10
     have f0:=Int.emod_nonneg ((m*(2*(st+1)+1)+7919*(st+1)*(st+1)+17) ^ (3:Int).toNat) (show q1≠0 by omega)
     have bfd:Bd 32 ((m*(2*(st+1)+1)+7919*(st+1)*(st+1)+17) ^ (3:Int).toNat % q1):=Bd.of (by omega) (by omega)
     have bfq:Bd 40 ((m*(2*(st+1)+1)+7919*(st+1)*(st+1)+17) ^ (3:Int).toNat % q1 / 4096+5):=Bd.of (by omega) (by omega)
     walk_at "rd"
     refine ⟨(by show (0:Int)<12;decide),?_⟩
     refine ⟨_,_,_,_,rfl,rfl,SqT.of epr2,x2,?_⟩
     walk_at "rd"
     refine ⟨⟨by decide,64,Bd.num _ (by decide),by decide⟩,?_⟩
     walk_at "rd"
     refine ⟨q20,?_⟩
     walk_at "rd"
     refine ⟨⟨by decide,64,Bd.num _ (by decide),by decide⟩,?_⟩
     walk_at "rd"
     refine ⟨mp,?_⟩
     exact k _ _ (md _).1 (md _).2 ⟨_,_,_,hp2,hf,hm,hm2,by omega,by omega⟩ K2
def BT:BagT:=⟨fun p H=>∃ f m st:Int,H p=some (.lst [.int f,.int m,.int st])/\0<=f/\0<=m/\m<4294967296/\0<=st,fun p H H' b k=>by
 obtain ⟨f,m,q,e,r⟩:=b
 exact ⟨f,m,q,k _ e,r⟩,fun p H b=>by
 obtain ⟨f,m,q,e,r⟩:=b
 exact ⟨_,e⟩⟩
theorem J7o {p:Addr}{H H':Hp}(k:Keep p H H'):Kp (some p) H H':=fun c o n e=>k c o (fun z=>n (by rw [z])) e
theorem Bag3.ok {n:Nat}{H:Hp}{p:Addr}(b:Bag3 n H p):BT.ok p H/\LG p H<=n:=by
 obtain ⟨f,m,st,e,h1,h2,h3,h4,h5⟩:=b
 refine ⟨⟨f,m,st,e,h1,h2,h3,h4⟩,?_⟩
 unfold LG
 rw [e]
 show st.toNat<=n
 omega
theorem Bag3.of {H:Hp}{p:Addr}(b:BT.ok p H):Bag3 (LG p H) H p:=by
 obtain ⟨f,m,st,e,h1,h2,h3,h4⟩:=b
 refine ⟨f,m,st,e,h1,h2,h3,h4,?_⟩
 unfold LG
 rw [e]
 show st<=((st.toNat:Nat):Int)
 omega
def RV:List D->Prop:=fun ds=>∃ (ns:List Int) (i:Nat),ds=[.scr ns,.int i]/\i<=1000
theorem TW:∀ vs H Q E,(TL K BT RV) vs H Q E->(J1t K) vs H Q E:=by
 rintro vs H Q E ⟨M,b,ds,hr,⟨ns,i,rfl,hi⟩,k⟩
 obtain ⟨v,r,rfl,⟨a,rfl,hS⟩,u,r',rfl,h2,h3⟩:=hr
 cases (show _=_ from h2)
 cases (show _=_ from h3)
 exact ⟨a,ns,i,rfl,hS.imp (·.2) id,hi,fun p H' hp S b=>k p H' hp S b.ok.1 (by have:=b.ok.2;omega)⟩
theorem UO {w:World} {f:Addr} (F:Fun K "_law_bag" "_law_bag" HC f fd) (Z:Bi mg) {c:Cs} (Y:Ex K mg base c):FnOk P w K mg base CX0 1 f fd ["_law_script","_law_k"] (TL K BT RV):=FnOk.imp (SL F Z Y) TW
noncomputable def GJ:MU:=fun ds P n=>∃ (many:Int),ds=[.bag,.int many]/\n<=9000/\0<many/\many<18446744073709551616/\∀ (r:Int) (n':Nat),0<=r->r<many->n'<=n+1->P (.int r) n'
theorem RM:∀ vs H Q E,(Z2 K BT GJ) vs H Q E->YB vs H Q E:=by
 rintro vs H Q E ⟨M,b,ds,P,⟨many,rfl,hn,h0,h1,hP⟩,⟨v,r,rfl,⟨p,rfl,rfl⟩,u,r',rfl,h2,h3⟩,ho,hb,hd,hq⟩
 cases (show _=_ from h2)
 cases (show _=_ from h3)
 exact ⟨p,many,LG p H,rfl,Bag3.of (ho p rfl),hn,h0,h1,fun r H' r0 r1 b' k=>hq _ _ H' (hP r _ r0 r1 b'.ok.2) rfl (J7o k) fun q e=>by cases e;exact b'.ok.1⟩
theorem SF {w:World} {f:Addr} (F:Fun K "_law_take" "_law_take" CU f fd) (Z:Bi mg) {c:Cs} (Y:Ex K mg base c):FnOk P w K mg base CX0 1 f fd ["_law_bag_here","_law_many"] (Z2 K BT GJ):=FnOk.imp (QJ F Z Y) RM
noncomputable def VQ:DSp:=fun ds P _=>∃ a b:Int,ds=[.int a,.int b]/\P (.int (Int.gcd a b))
abbrev DF:Stmt:=top 20
theorem FV:FnScope ["one","other"] ["one","other"] (J3 DF):=⟨rfl,rfl,rfl,by decide +kernel,rfl,by decide +kernel,by decide +kernel⟩
noncomputable def FU:Sp:=fun vs H Q _=>∃ a b:Int,vs=[.int a,.int b]/\Q (.int (Int.gcd a b)) H
theorem JR {w:World} {f:Addr} (F:Fun K "common_divisor" "common_divisor" DF f fd) (Z:Bi mg) {c:Cs} (Y:Ex K mg base c):FnOk P w K mg base CX0 1 f fd ["one","other"] FU:=by
 refine F.ok FV (fun vs H Q E h=>?_) (fun cdv A outer s H vs Q E hr h=>?_)
 · obtain ⟨a,b,rfl,k⟩:=h
   rfl
 · obtain ⟨a,b,rfl,k⟩:=h
   refine ⟨_,(AQ (UE PassesOwn.never (KQ J2s (pv 1) AC (Y2 _)) (EC (J2j (i:=0) (j:=1) rfl FV.nd rfl rfl (by decide) rfl rfl (V2 (pv 1) (V2 (BE J7c (pv 0) (pv 1)) AA)) rfl)))
    (EC (GG (AE GT rfl Z.abs_ MP (V2 (pv 0) AA))))),?_⟩
   have ab:∀ x:Int,(if x<0 then -x else x)=(x.natAbs:Int):=fun x=>by split<;>omega
   refine J1m (fun σ H'=>H'=H/\∃ x y:Int,σ=[some (.int x),some (.int y)]/\Int.gcd x y=Int.gcd a b) (fun σ _=>match σ with | [_,some (.int y)]=>y.natAbs|_=>0) ⟨rfl,_,_,rfl,rfl⟩ ?_ ?_
   · rintro σ H' ⟨rfl,x,y,rfl,hg⟩
     walk_at "rd"
     refine Q2r (fun h=>?_) (fun h=>?_)
     · have h:y≠0:=J7j h
       walk_at "rd"
       refine ⟨h,?_⟩
       refine ⟨_,_,rfl,⟨rfl,_,_,rfl,by rw [UY];exact hg⟩,?_⟩
       show (x.fmod y).natAbs<y.natAbs
       exact Q6u h
     · have h:y=0:=J7k h
       walk_at "rd"
       subst h
       have e:((Int.gcd a b:Nat):Int)=(if x<0 then -x else x):=by rw [<- hg,Int.gcd_zero_right,ab]
       rw [e] at k
       exact k
   · rintro σ H' Q1 Q2 hq ⟨v,e1,e2,k',e4,q⟩
     exact ⟨v,e1,e2,k',e4,hq _ _ q⟩
theorem KD:∀ vs H Q E,(Q3 K BT VQ) vs H Q E->FU vs H Q E:=by
 rintro vs H Q E ⟨M,b,ds,P,Ed,⟨x,y,rfl,hP⟩,⟨v,r,rfl,h1,u,r',rfl,h2,h3⟩,ho,hb,hd,hq,hx⟩
 cases (show _=_ from h1)
 cases (show _=_ from h2)
 cases (show _=_ from h3)
 exact ⟨x,y,rfl,hq _ _ H hP rfl (Kp.refl _ _) ho⟩
theorem KW {w:World} {f:Addr} (F:Fun K "common_divisor" "common_divisor" DF f fd) (Z:Bi mg) {c:Cs} (Y:Ex K mg base c):FnOk P w K mg base CX0 1 f fd ["one","other"] (Q3 K BT VQ):=FnOk.imp (JR F Z Y) KD
abbrev WD:Stmt:=top 19
theorem J6s:FnScope ["number"] ["number"] (J3 WD):=⟨rfl,rfl,rfl,by decide +kernel,rfl,by decide +kernel,by decide +kernel⟩
def sgn (n:Int):Int:=if 0<n then 1 else if n<0 then -1 else 0
noncomputable def XT:DSp:=fun ds P _=>∃ n:Int,ds=[.int n]/\P (.int (sgn n))
theorem J7g {w:World} {f:Addr} (F:Fun K "sign" "sign" WD f fd) (Z:Bi mg) {c:Cs} (Y:Ex K mg base c):FnOk P w K mg base CX0 1 f fd ["number"] (Q3 K BT XT):=by
 refine F.okD J6s (fun ds PP Ed h=>?_) (fun cdv A outer s H E M bg ds PP Ed hr hS_=>?_)
 · obtain ⟨n,rfl,hP⟩:=h
   rfl
 · obtain ⟨n,rfl,hP⟩:=hS_
   refine ⟨_,(J8 (CN (AB UG HV (jdv 0) J1 (Y2 _)) (Q4 (V6 J1)) AT)
    (J8 (CN (AB OE HV (jdv 0) J1 (Y2 _)) (Q4 (V6 (FD J1))) AT)
    (Q4 (V6 J1)))),?_⟩
   unfold sgn at hP
   walk_at "g"
   walk_at "sp"
   · rename_i h;rw [if_pos h] at hP;exact hP
   · rename_i h
     rw [if_neg h] at hP
     walk_at "g"
     walk_at "sp"
     · rename_i h';rw [if_pos h'] at hP;exact hP
     · rename_i h';rw [if_neg h'] at hP;exact hP
abbrev FY:Stmt:=top 23
theorem NX:FnScope ["a","b","c"] ["a","b","c"] (J3 FY):=⟨rfl,rfl,rfl,by decide +kernel,rfl,by decide +kernel,by decide +kernel⟩
def det (a0 a1 a2 b0 b1 b2 c0 c1 c2:Int):Int:=a0*(b1*c2 - b2*c1) - a1*(b0*c2 - b2*c0)+a2*(b0*c1 - b1*c0)
noncomputable def J6f:DSp:=fun ds P _=>∃ (a0 a1 a2 b0 b1 b2 c0 c1 c2:Int),ds=[t3 a0 a1 a2,t3 b0 b1 b2,t3 c0 c1 c2]/\(Bd 2000 a0/\Bd 2000 a1/\Bd 2000 a2)/\(Bd 2000 b0/\Bd 2000 b1/\Bd 2000 b2)/\(Bd 2000 c0/\Bd 2000 c1/\Bd 2000 c2)/\P (.int (det a0 a1 a2 b0 b1 b2 c0 c1 c2))
theorem OH {w:World} {f:Addr} (F:Fun K "determinant" "determinant" FY f fd) (Z:Bi mg) {c:Cs} (Y:Ex K mg base c):FnOk P w K mg base CX0 1 f fd ["a","b","c"] (Q3 K BT J6f):=by
 refine F.okD NX (fun ds PP Ed h=>?_) (fun cdv A outer s H E M bg ds PP Ed hr hS_=>?_)
 · obtain ⟨a0,a1,a2,b0,b1,b2,c0,c1,c2,rfl,⟨p0,p1,p2⟩,⟨q0,q1,q2⟩,⟨r0,r1,r2⟩,hP⟩:=h
   rfl
 · obtain ⟨a0,a1,a2,b0,b1,b2,c0,c1,c2,rfl,⟨p0,p1,p2⟩,⟨q0,q1,q2⟩,⟨r0,r1,r2⟩,hP⟩:=hS_
   refine ⟨_,(Q4 (V6 (J9 BB Z4 (J9 AG Z4 (J9 Q8 Y6 (Q5 (Q0 K (by rfl)) V1 (jdv 0) J1 (fun _ _=>rfl)) (J9 AG Z4 (J9 Q8 Y6 (Q5 (Q0 K (by rfl)) V1 (jdv 1) J1 (fun _ _=>rfl)) (Q5 (Q0 K (by rfl)) V1 (jdv 2) J1 (fun _ _=>rfl))) (J9 Q8 Y6 (Q5 (Q0 K (by rfl)) V1 (jdv 1) J1 (fun _ _=>rfl)) (Q5 (Q0 K (by rfl)) V1 (jdv 2) J1 (fun _ _=>rfl))))) (J9 Q8 Y6 (Q5 (Q0 K (by rfl)) V1 (jdv 0) J1 (fun _ _=>rfl)) (J9 AG Z4 (J9 Q8 Y6 (Q5 (Q0 K (by rfl)) V1 (jdv 1) J1 (fun _ _=>rfl)) (Q5 (Q0 K (by rfl)) V1 (jdv 2) J1 (fun _ _=>rfl))) (J9 Q8 Y6 (Q5 (Q0 K (by rfl)) V1 (jdv 1) J1 (fun _ _=>rfl)) (Q5 (Q0 K (by rfl)) V1 (jdv 2) J1 (fun _ _=>rfl)))))) (J9 Q8 Y6 (Q5 (Q0 K (by rfl)) V1 (jdv 0) J1 (fun _ _=>rfl)) (J9 AG Z4 (J9 Q8 Y6 (Q5 (Q0 K (by rfl)) V1 (jdv 1) J1 (fun _ _=>rfl)) (Q5 (Q0 K (by rfl)) V1 (jdv 2) J1 (fun _ _=>rfl))) (J9 Q8 Y6 (Q5 (Q0 K (by rfl)) V1 (jdv 1) J1 (fun _ _=>rfl)) (Q5 (Q0 K (by rfl)) V1 (jdv 2) J1 (fun _ _=>rfl)))))))),?_⟩
   walk_at "g"
   exact hP
abbrev JK:Stmt:=top 32
theorem UA:FnScope ["a"] ["a"] (J3 JK):=⟨rfl,rfl,rfl,by decide +kernel,rfl,by decide +kernel,by decide +kernel⟩
noncomputable def KA:DSp:=fun ds P _=>∃ (x y z w:Int),ds=[sp4 x y z w]/\P (t3 x y w)
theorem UI {w:World} {f:Addr} (F:Fun K "on_board" "on_board" JK f fd) (Z:Bi mg) {c:Cs} (Y:Ex K mg base c):FnOk P w K mg base CX0 1 f fd ["a"] (Q3 K BT KA):=by
 refine F.okD UA (fun ds PP Ed h=>?_) (fun cdv A outer s H E M bg ds PP Ed hr hS_=>?_)
 · obtain ⟨x,y,z,w,rfl,hP⟩:=h
   rfl
 · obtain ⟨x,y,z,w,rfl,hP⟩:=hS_
   refine ⟨_,(Q4 (V6 (Y7 (J0 (Q5 (Q0 K (by rfl)) V1 (jdv 0) J1 (fun _ _=>rfl)) (J0 (Q5 (Q0 K (by rfl)) V1 (jdv 0) J1 (fun _ _=>rfl)) (J0 (Q5 (Q0 K (by rfl)) V1 (jdv 0) J1 (fun _ _=>rfl)) J4)))))),?_⟩
   walk_at "g"
   exact hP
abbrev BM:Stmt:=top 21
theorem CM:FnScope ["numbers","shared","number"] ["numbers"] (J3 BM):=⟨rfl,rfl,rfl,by decide +kernel,rfl,by decide +kernel,by decide +kernel⟩
def fdD (s:Int):D->D
 | .int x=>.int (x.fdiv s)
 | d=>d
noncomputable def Q0q:DSp:=fun ds P _=>∃ (ns:List Int) (last:Int) (n:Nat),ds=[.tup (ns.map D.int++[.int last])]/\last≠0/\Bd n last/\n<=9000/\ns.length<=10/\P (.tup ((ns.map fun x=>.int (x.fdiv (low ns last)))++[.int (last.fdiv (low ns last))]))
theorem NE {w:World} {f:Addr} (F:Fun K "lowest_terms" "lowest_terms" BM f fd) (Z:Bi mg) {c:Cs} (Y:Ex K mg base c) (g0:Callee P w K mg base CX0 "common_divisor" 1 ["one","other"] (Q3 K BT VQ)):FnOk P w K mg base CX0 2 f fd ["numbers"] (Q3 K BT Q0q):=by
 refine F.okD CM (fun ds PP Ed h=>?_) (fun cdv A outer s H E M bg ds PP Ed hr hS_=>?_)
 · obtain ⟨ns,last,n,rfl,h0,hbd,hn,hl,hP⟩:=h
   rfl
 · obtain ⟨ns,last,n,rfl,h0,hbd,hn,hl,hP⟩:=hS_
   refine ⟨_,(J8 (Y0 (i:=1) CM.nd rfl (by walk_at "o") J1)
    (J8 (FA (Y8 2) PassesOwn.never rfl (AZ (by rfl) (jdv 0)) (pg_name (i:=2) CM.nd rfl (by walk_at "o")) (Q4 (Y0 (i:=1) CM.nd rfl (by walk_at "o") (Q7 g0 hr.m rfl (J0 (jdv 1) (J0 (jdv 2) J4))))))
    (J8 (CN (AB OE HV (Q5 (Q0 K (by rfl)) V1 (jdv 0) (FD J1) (fun _ _=>rfl)) J1 (Y2 _)) (Q4 (Y0 (i:=1) CM.nd rfl (by walk_at "o") (FD (jdv 1)))) AT)
    (Q4 (V6 (AH (BD K (by rfl)) ER rfl Z.tuple_ DP (J0 (Z6 (X:=(V4 CX0 P w K mg base ["numbers","shared","number"] "lowest_terms" (J3 BM) f cdv A outer s H E).nox) (Y8 0) (ET (X:=(V4 CX0 P w K mg base ["numbers","shared","number"] "lowest_terms" (J3 BM) f cdv A outer s H E).nox) (N':=["number","shared"]) (map:=[none,some 1]) (by rfl) (by rfl) (by decide +kernel) (by rfl) ⟨⟨rfl,rfl,rfl,by walk_at "o"⟩,True.intro⟩ (gkeep_name rfl) fun cl0 C0 fp0 s0 H0=>⟨(pg_name (X:=(Q9 (V4 CX0 P w K mg base ["numbers","shared","number"] "lowest_terms" (J3 BM) f cdv A outer s H E).nox ["number","shared"] _ cl0 C0 fp0 s0 H0)) (i:=0) (Y1 ["number","shared"] (by decide +kernel)) rfl (by walk_at "o")),Z5,(J9 (X:=(Q9 (V4 CX0 P w K mg base ["numbers","shared","number"] "lowest_terms" (J3 BM) f cdv A outer s H E).nox ["number","shared"] _ cl0 C0 fp0 s0 H0)) OF Y6 (jdv 0) (jdv 1))⟩) (AZ (by rfl) (jdv 0))) J4))))))),?_⟩
   have getL:∀ (i:Nat) x,(ns.map D.int++[.int last])[i]?=some x->∃ m,x=.int m/\(ns++[last])[i]?=some m:=fun i x e=>by
    have e':(ns.map D.int++[.int last])=(ns++[last]).map D.int:=by simp
    rw [e',List.getElem?_map] at e
    cases q:(ns++[last])[i]? with
    | none=>rw [q] at e;cases e
    | some m=>rw [q] at e;exact ⟨m,(Option.some.inj e).symm,rfl⟩
   walk_at "g"
   refine ⟨fun i ρ=>∃ v,ρ=[some (.tup (ns.map D.int++[.int last])),some (.int (NJ ((ns++[last]).take i))),v],⟨none,rfl⟩,fun i x ρ e ⟨v,q⟩=>?_,fun ρ ⟨v,q⟩=>?_⟩
   · obtain ⟨m,rfl,em⟩:=getL i x e
     subst q
     walk_at "g"
     refine ⟨_,_,rfl,?_⟩
     walk_at "g"
     refine ⟨some (.int m),?_⟩
     rw [List.take_add_one,em,Option.toList_some,MK]
     rfl
   · subst q
     have et:(ns++[last]).take (ns.map D.int++[D.int last]).length=ns++[last]:=List.take_of_length_le (by simp)
     rw [et]
     have hg:=GP (ns:=ns) h0
     have hlow:∀ s:Int,s=low ns last->compI (gdN 0) QZ (dOp (oI (fun _ j=>j≠0/\∃ n,Bd n j/\n<=9000) Int.fdiv) (J0z 0) (J0z 1)) [none,some (.int s)] (ns.map D.int++[.int last]) (fun acc=>PP (.tup acc)):=fun s es=>by
      refine FR (fdD s) (fun x Q hx q=>?_) (fun x hx=>?_) ?_
      · obtain ⟨i,ei⟩:=List.getElem?_of_mem hx
        obtain ⟨m,rfl,_⟩:=getL i x ei
        walk_at "w"
        refine ⟨⟨by rw [es];exact J3d h0,n,?_,hn⟩,q⟩
        rw [es]
        exact Nat.lt_of_le_of_lt (Q2h h0) hbd
      · obtain ⟨i,ei⟩:=List.getElem?_of_mem hx
        obtain ⟨m,rfl,_⟩:=getL i x ei
        rfl
      · rw [List.map_append,List.map_map,es]
        exact hP
     have hlen:(ns.map D.int++[D.int last]).length<=1000:=by simp;omega
     simp only [VS,J1i,Q3y,J4o,Q3z,Q4b,J1a,gdN,dOp,J0z,dC,dUn,Q2b,J4k,Q4t,J5t,RA,dCB,J8v,J4q,Q2w,oI,oB0,oIx,J2x,EX,List.map_cons,List.map_nil,CH,List.length_cons,List.length_nil,List.replicate,List.cons_append,List.nil_append,Nat.reduceAdd,Nat.reduceSub,Nat.zero_add,List.append_nil,Option.bind_some,Option.bind_none,Option.join_some,Option.join_none,List.getElem?_cons_succ,List.getElem?_cons_zero,List.set_cons_succ,List.set_cons_zero,List.all_cons,List.all_nil,CD,L2.plain,Bool.and_true,Bool.true_and,true_and,J9i,Option.elim_some]
     walk_at "sp"
     · rename_i hlt
       refine ⟨hlen,hlow _ ?_⟩
       unfold low;rw [if_pos hlt]
     · rename_i hlt
       refine ⟨hlen,hlow _ ?_⟩
       unfold low;rw [if_neg hlt]
abbrev JM:Stmt:=top 24
theorem UC:FnScope ["top","bottom"] ["top","bottom"] (J3 JM):=⟨rfl,rfl,rfl,by decide +kernel,rfl,by decide +kernel,by decide +kernel⟩
noncomputable def J6d:DSp:=fun ds P _=>∃ (top bottom:Int) (n:Nat),ds=[.int top,.int bottom]/\bottom≠0/\Bd n bottom/\n<=9000/\P (t2 (top.fdiv (low [top] bottom)) (bottom.fdiv (low [top] bottom)))
theorem UK {w:World} {f:Addr} (F:Fun K "fraction" "fraction" JM f fd) (Z:Bi mg) {c:Cs} (Y:Ex K mg base c) (g0:Callee P w K mg base CX0 "lowest_terms" 2 ["numbers"] (Q3 K BT Q0q)):FnOk P w K mg base CX0 3 f fd ["top","bottom"] (Q3 K BT J6d):=by
 refine F.okD UC (fun ds PP Ed h=>?_) (fun cdv A outer s H E M bg ds PP Ed hr hS_=>?_)
 · obtain ⟨top,bottom,n,rfl,h0,hbd,hn,hP⟩:=h
   rfl
 · obtain ⟨top,bottom,n,rfl,h0,hbd,hn,hP⟩:=hS_
   refine ⟨_,(J8 (CN (AB DK CB (jdv 1) J1 (Y2 _)) (Q4 J0n) AT)
    (Q4 (V6 (Q7 g0 hr.m rfl (J0 (Y7 (J0 (jdv 0) (J0 (jdv 1) J4))) J4))))),?_⟩
   walk_at "g"
   refine IfP.f (by simp [h0]) ?_
   walk_at "g"
   exact ⟨[top],bottom,n,rfl,h0,hbd,hn,by simp,hP⟩
structure T3 where
 ax:Int
 ay:Int
 az:Int
 aw:Int
 bx:Int
 b_y:Int
 bz:Int
 bw:Int
 cx:Int
 cy:Int
 cz:Int
 cw:Int
structure T3.ok (t:T3)(n:Nat):Prop where
 ax:Bd n t.ax
 ay:Bd n t.ay
 az:Bd n t.az
 aw:Bd n t.aw
 bx:Bd n t.bx
 b_y:Bd n t.b_y
 bz:Bd n t.bz
 bw:Bd n t.bw
 cx:Bd n t.cx
 cy:Bd n t.cy
 cz:Bd n t.cz
 cw:Bd n t.cw
abbrev T3.d (t:T3):D:=.tup [sp4 t.ax t.ay t.az t.aw,sp4 t.bx t.b_y t.bz t.bw,sp4 t.cx t.cy t.cz t.cw]
def T3.tn (t:T3):Int:=det t.ax t.ay t.aw t.bx t.b_y t.bw t.cx t.cy t.cw
def T3.wA (t:T3)(px py:Int):Int:=det t.bx t.b_y t.bw t.cx t.cy t.cw px py 1
def T3.wB (t:T3)(px py:Int):Int:=det t.cx t.cy t.cw t.ax t.ay t.aw px py 1
def T3.wC (t:T3)(px py:Int):Int:=det t.ax t.ay t.aw t.bx t.b_y t.bw px py 1
def T3.top (t:T3)(px py:Int):Int:=t.wA px py*t.az+t.wB px py*t.bz+t.wC px py*t.cz
theorem SU {n:Nat}{a0 a1 a2 b0 b1 b2 c0 c1 c2:Int}(h0:Bd n a0)(h1:Bd n a1)(h2:Bd n a2)(h3:Bd n b0)(h4:Bd n b1)(h5:Bd n b2)(h6:Bd n c0)(h7:Bd n c1)(h8:Bd n c2):Bd (3*n+5) (det a0 a1 a2 b0 b1 b2 c0 c1 c2):=by
 unfold det
 have e1:=Bd.mul h0 (Bd.sub (Bd.mul h4 h8) (Bd.mul h5 h7))
 have e2:=Bd.mul h1 (Bd.sub (Bd.mul h3 h8) (Bd.mul h5 h6))
 have e3:=Bd.mul h2 (Bd.sub (Bd.mul h3 h7) (Bd.mul h4 h6))
 exact (Bd.add (Bd.sub e1 e2) e3).mono (by omega)
theorem bd1 {n:Nat}(h:3<=n):Bd n 1:=(Bd.of (by decide) (by decide):Bd 3 1).mono h
abbrev FX:Stmt:=top 33
theorem NW:FnScope ["a","b","dot"] ["a","b","dot"] (J3 FX):=⟨rfl,rfl,rfl,by decide +kernel,rfl,by decide +kernel,by decide +kernel⟩
noncomputable def TM:DSp:=fun ds P _=>∃ (ax ay az aw bx b_y bz bw px py:Int),ds=[sp4 ax ay az aw,sp4 bx b_y bz bw,t2 px py]/\(Bd 2000 ax/\Bd 2000 ay/\Bd 2000 aw)/\(Bd 2000 bx/\Bd 2000 b_y/\Bd 2000 bw)/\(Bd 2000 px/\Bd 2000 py)/\P (.int (det ax ay aw bx b_y bw px py 1))
theorem OG {w:World} {f:Addr} (F:Fun K "side_number" "side_number" FX f fd) (Z:Bi mg) {c:Cs} (Y:Ex K mg base c) (g0:Callee P w K mg base CX0 "determinant" 1 ["a","b","c"] (Q3 K BT J6f)) (g1:Callee P w K mg base CX0 "on_board" 1 ["a"] (Q3 K BT KA)):FnOk P w K mg base CX0 2 f fd ["a","b","dot"] (Q3 K BT TM):=by
 refine F.okD NW (fun ds PP Ed h=>?_) (fun cdv A outer s H E M bg ds PP Ed hr hS_=>?_)
 · obtain ⟨ax,ay,az,aw,bx,b_y,bz,bw,px,py,rfl,h1,h2,⟨h3,h4⟩,hP⟩:=h
   rfl
 · obtain ⟨ax,ay,az,aw,bx,b_y,bz,bw,px,py,rfl,h1,h2,⟨h3,h4⟩,hP⟩:=hS_
   refine ⟨_,(Q4 (V6 (Q7 g0 hr.m rfl (J0 (Q7 g1 hr.m rfl (J0 (jdv 0) J4)) (J0 (Q7 g1 hr.m rfl (J0 (jdv 1) J4)) (J0 (Y7 (J0 (Q5 (Q0 K (by rfl)) V1 (jdv 2) J1 (fun _ _=>rfl)) (J0 (Q5 (Q0 K (by rfl)) V1 (jdv 2) J1 (fun _ _=>rfl)) (J0 J1 J4)))) J4)))))),?_⟩
   walk_at "g"
   refine ⟨_,_,_,_,rfl,?_⟩
   walk_at "g"
   refine ⟨_,_,_,_,rfl,?_⟩
   walk_at "g"
   exact ⟨_,_,_,_,_,_,_,_,_,rfl,h1,h2,⟨h3,h4,bd1 (by decide)⟩,hP⟩
abbrev WC:Stmt:=top 39
theorem GX:FnScope ["face","a","b","c"] ["face"] (J3 WC):=⟨rfl,rfl,rfl,by decide +kernel,rfl,by decide +kernel,by decide +kernel⟩
noncomputable def XS:DSp:=fun ds P _=>∃ (t:T3) (n:Nat),ds=[t.d]/\t.ok n/\n<=2000/\P (.int t.tn)
theorem J7f {w:World} {f:Addr} (F:Fun K "turn" "turn" WC f fd) (Z:Bi mg) {c:Cs} (Y:Ex K mg base c) (g0:Callee P w K mg base CX0 "determinant" 1 ["a","b","c"] (Q3 K BT J6f)) (g1:Callee P w K mg base CX0 "on_board" 1 ["a"] (Q3 K BT KA)):FnOk P w K mg base CX0 2 f fd ["face"] (Q3 K BT XS):=by
 refine F.okD GX (fun ds PP Ed h=>?_) (fun cdv A outer s H E M bg ds PP Ed hr hS_=>?_)
 · obtain ⟨t,n,rfl,ok,hn,hP⟩:=h
   rfl
 · obtain ⟨t,n,rfl,ok,hn,hP⟩:=hS_
   refine ⟨_,(J8 (EE (AW [1,2,3]) (jdv 0) (PG.or (Z8 (n:=3) K (by rfl) (by rfl) (J5 (pg_name (i:=1) GX.nd rfl (by walk_at "o")) (J5 (pg_name (i:=2) GX.nd rfl (by walk_at "o")) (J5 (pg_name (i:=3) GX.nd rfl (by walk_at "o")) V3)))) (Z9 (n:=3) K (by rfl) (by rfl) (J5 (pg_name (i:=1) GX.nd rfl (by walk_at "o")) (J5 (pg_name (i:=2) GX.nd rfl (by walk_at "o")) (J5 (pg_name (i:=3) GX.nd rfl (by walk_at "o")) V3))))))
    (Q4 (V6 (Q7 g0 hr.m rfl (J0 (Q7 g1 hr.m rfl (J0 (jdv 1) J4)) (J0 (Q7 g1 hr.m rfl (J0 (jdv 2) J4)) (J0 (Q7 g1 hr.m rfl (J0 (jdv 3) J4)) J4))))))),?_⟩
   walk_at "g"
   refine ⟨_,_,_,_,rfl,?_⟩
   walk_at "g"
   refine ⟨_,_,_,_,rfl,?_⟩
   walk_at "g"
   refine ⟨_,_,_,_,rfl,?_⟩
   walk_at "g"
   exact ⟨_,_,_,_,_,_,_,_,_,rfl,⟨ok.ax.mono hn,ok.ay.mono hn,ok.aw.mono hn⟩,⟨ok.bx.mono hn,ok.b_y.mono hn,ok.bw.mono hn⟩,⟨ok.cx.mono hn,ok.cy.mono hn,ok.cw.mono hn⟩,hP⟩
abbrev LS:Stmt:=top 41
theorem DV:FnScope ["face","dot","a","b","c"] ["face","dot"] (J3 LS):=⟨rfl,rfl,rfl,by decide +kernel,rfl,by decide +kernel,by decide +kernel⟩
noncomputable def MT:DSp:=fun ds P _=>∃ (t:T3) (px py:Int) (n:Nat),ds=[t.d,t2 px py]/\t.ok n/\Bd n px/\Bd n py/\n<=2000/\P (t3 (t.wA px py) (t.wB px py) (t.wC px py))
theorem WP {w:World} {f:Addr} (F:Fun K "weights" "weights" LS f fd) (Z:Bi mg) {c:Cs} (Y:Ex K mg base c) (g0:Callee P w K mg base CX0 "side_number" 2 ["a","b","dot"] (Q3 K BT TM)):FnOk P w K mg base CX0 3 f fd ["face","dot"] (Q3 K BT MT):=by
 refine F.okD DV (fun ds PP Ed h=>?_) (fun cdv A outer s H E M bg ds PP Ed hr hS_=>?_)
 · obtain ⟨t,px,py,n,rfl,ok,hx,hy,hn,hP⟩:=h
   rfl
 · obtain ⟨t,px,py,n,rfl,ok,hx,hy,hn,hP⟩:=hS_
   refine ⟨_,(J8 (EE (AW [2,3,4]) (jdv 0) (PG.or (Z8 (n:=3) K (by rfl) (by rfl) (J5 (pg_name (i:=2) DV.nd rfl (by walk_at "o")) (J5 (pg_name (i:=3) DV.nd rfl (by walk_at "o")) (J5 (pg_name (i:=4) DV.nd rfl (by walk_at "o")) V3)))) (Z9 (n:=3) K (by rfl) (by rfl) (J5 (pg_name (i:=2) DV.nd rfl (by walk_at "o")) (J5 (pg_name (i:=3) DV.nd rfl (by walk_at "o")) (J5 (pg_name (i:=4) DV.nd rfl (by walk_at "o")) V3))))))
    (Q4 (V6 (Y7 (J0 (Q7 g0 hr.m rfl (J0 (jdv 3) (J0 (jdv 4) (J0 (jdv 1) J4)))) (J0 (Q7 g0 hr.m rfl (J0 (jdv 4) (J0 (jdv 2) (J0 (jdv 1) J4)))) (J0 (Q7 g0 hr.m rfl (J0 (jdv 2) (J0 (jdv 3) (J0 (jdv 1) J4)))) J4))))))),?_⟩
   walk_at "g"
   refine ⟨_,_,_,_,_,_,_,_,_,_,rfl,⟨ok.bx.mono hn,ok.b_y.mono hn,ok.bw.mono hn⟩,⟨ok.cx.mono hn,ok.cy.mono hn,ok.cw.mono hn⟩,⟨hx.mono hn,hy.mono hn⟩,?_⟩
   walk_at "g"
   refine ⟨_,_,_,_,_,_,_,_,_,_,rfl,⟨ok.cx.mono hn,ok.cy.mono hn,ok.cw.mono hn⟩,⟨ok.ax.mono hn,ok.ay.mono hn,ok.aw.mono hn⟩,⟨hx.mono hn,hy.mono hn⟩,?_⟩
   walk_at "g"
   refine ⟨_,_,_,_,_,_,_,_,_,_,rfl,⟨ok.ax.mono hn,ok.ay.mono hn,ok.aw.mono hn⟩,⟨ok.bx.mono hn,ok.b_y.mono hn,ok.bw.mono hn⟩,⟨hx.mono hn,hy.mono hn⟩,?_⟩
   walk_at "g"
   exact hP
abbrev OB:Stmt:=top 34
theorem ZZ:FnScope ["a","b"] ["a","b"] (J3 OB):=⟨rfl,rfl,rfl,by decide +kernel,rfl,by decide +kernel,by decide +kernel⟩
noncomputable def VP:DSp:=fun ds P _=>∃ (ax ay az aw bx b_y bz bw:Int),ds=[sp4 ax ay az aw,sp4 bx b_y bz bw]/\(Bd 2000 ay/\Bd 2000 aw)/\(Bd 2000 b_y/\Bd 2000 bw)/\P (.int (ay*bw - aw*b_y))
theorem J0g {w:World} {f:Addr} (F:Fun K "growth" "growth" OB f fd) (Z:Bi mg) {c:Cs} (Y:Ex K mg base c):FnOk P w K mg base CX0 1 f fd ["a","b"] (Q3 K BT VP):=by
 refine F.okD ZZ (fun ds PP Ed h=>?_) (fun cdv A outer s H E M bg ds PP Ed hr hS_=>?_)
 · obtain ⟨ax,ay,az,aw,bx,b_y,bz,bw,rfl,⟨h1,h2⟩,⟨h3,h4⟩,hP⟩:=h
   rfl
 · obtain ⟨ax,ay,az,aw,bx,b_y,bz,bw,rfl,⟨h1,h2⟩,⟨h3,h4⟩,hP⟩:=hS_
   refine ⟨_,(Q4 (V6 (J9 AG Z4 (J9 Q8 Y6 (Q5 (Q0 K (by rfl)) V1 (jdv 0) J1 (fun _ _=>rfl)) (Q5 (Q0 K (by rfl)) V1 (jdv 1) J1 (fun _ _=>rfl))) (J9 Q8 Y6 (Q5 (Q0 K (by rfl)) V1 (jdv 0) J1 (fun _ _=>rfl)) (Q5 (Q0 K (by rfl)) V1 (jdv 1) J1 (fun _ _=>rfl)))))),?_⟩
   walk_at "g"
   exact hP
abbrev FK:Stmt:=top 35
theorem DQ:FnScope ["a","b","dot","number"] ["a","b","dot"] (J3 FK):=⟨rfl,rfl,rfl,by decide +kernel,rfl,by decide +kernel,by decide +kernel⟩
def shd (ax ay aw bx b_y bw px py:Int):Int:=if det ax ay aw bx b_y bw px py 1=0 then (if ay*bw - aw*b_y=0 then aw*bx - ax*bw else ay*bw - aw*b_y) else det ax ay aw bx b_y bw px py 1
noncomputable def Q0o:DSp:=fun ds P _=>∃ (ax ay az aw bx b_y bz bw px py:Int),ds=[sp4 ax ay az aw,sp4 bx b_y bz bw,t2 px py]/\(Bd 2000 ax/\Bd 2000 ay/\Bd 2000 aw)/\(Bd 2000 bx/\Bd 2000 b_y/\Bd 2000 bw)/\(Bd 2000 px/\Bd 2000 py)/\P (.int (sgn (shd ax ay aw bx b_y bw px py)))
theorem ND {w:World} {f:Addr} (F:Fun K "shifted_side" "shifted_side" FK f fd) (Z:Bi mg) {c:Cs} (Y:Ex K mg base c) (g0:Callee P w K mg base CX0 "side_number" 2 ["a","b","dot"] (Q3 K BT TM)) (g1:Callee P w K mg base CX0 "sign" 1 ["number"] (Q3 K BT XT)) (g2:Callee P w K mg base CX0 "growth" 1 ["a","b"] (Q3 K BT VP)):FnOk P w K mg base CX0 3 f fd ["a","b","dot"] (Q3 K BT Q0o):=by
 refine F.okD DQ (fun ds PP Ed h=>?_) (fun cdv A outer s H E M bg ds PP Ed hr hS_=>?_)
 · obtain ⟨ax,ay,az,aw,bx,b_y,bz,bw,px,py,rfl,⟨a1,a2,a3⟩,⟨b1,b2,b3⟩,⟨h3,h4⟩,hP⟩:=h
   rfl
 · obtain ⟨ax,ay,az,aw,bx,b_y,bz,bw,px,py,rfl,⟨a1,a2,a3⟩,⟨b1,b2,b3⟩,⟨h3,h4⟩,hP⟩:=hS_
   refine ⟨_,(J8 (Y0 (i:=3) DQ.nd rfl (by walk_at "o") (Q7 g0 hr.m rfl (J0 (jdv 0) (J0 (jdv 1) (J0 (jdv 2) J4)))))
    (J8 (CN (AB DK CB (jdv 3) J1 (Y2 _)) (Q4 (Y0 (i:=3) DQ.nd rfl (by walk_at "o") (Q7 g2 hr.m rfl (J0 (jdv 0) (J0 (jdv 1) J4))))) AT)
    (J8 (CN (AB DK CB (jdv 3) J1 (Y2 _)) (Q4 (Y0 (i:=3) DQ.nd rfl (by walk_at "o") (J9 AG Z4 (J9 Q8 Y6 (Q5 (Q0 K (by rfl)) V1 (jdv 0) J1 (fun _ _=>rfl)) (Q5 (Q0 K (by rfl)) V1 (jdv 1) J1 (fun _ _=>rfl))) (J9 Q8 Y6 (Q5 (Q0 K (by rfl)) V1 (jdv 0) J1 (fun _ _=>rfl)) (Q5 (Q0 K (by rfl)) V1 (jdv 1) J1 (fun _ _=>rfl)))))) AT)
    (Q4 (V6 (Q7 g1 hr.m rfl (J0 (jdv 3) J4))))))),?_⟩
   walk_at "g"
   refine ⟨ax,ay,az,aw,bx,b_y,bz,bw,px,py,rfl,⟨a1,a2,a3⟩,⟨b1,b2,b3⟩,⟨h3,h4⟩,?_⟩
   walk_at "g"
   walk_at "sp"
   · rename_i z
     walk_at "g"
     refine ⟨ax,ay,az,aw,bx,b_y,bz,bw,rfl,⟨a2,a3⟩,⟨b2,b3⟩,?_⟩
     walk_at "g"
     walk_at "sp"
     · rename_i z2
       walk_at "g"
       refine ⟨_,rfl,?_⟩
       have e:shd ax ay aw bx b_y bw px py=aw*bx - ax*bw:=by unfold shd;rw [if_pos z,if_pos z2]
       rw [e] at hP
       exact hP
     · rename_i z2
       walk_at "g"
       refine ⟨_,rfl,?_⟩
       have e:shd ax ay aw bx b_y bw px py=ay*bw - aw*b_y:=by unfold shd;rw [if_pos z,if_neg z2]
       rw [e] at hP
       exact hP
   · rename_i z
     walk_at "g"
     refine IfP.f (by simp [z]) ?_
     walk_at "g"
     refine ⟨_,rfl,?_⟩
     have e:shd ax ay aw bx b_y bw px py=det ax ay aw bx b_y bw px py 1:=by unfold shd;rw [if_neg z]
     rw [e] at hP
     exact hP
abbrev LV:Stmt:=top 37
theorem CQ:FnScope ["face","dot","a","b","c","first"] ["face","dot"] (J3 LV):=⟨rfl,rfl,rfl,by decide +kernel,rfl,by decide +kernel,by decide +kernel⟩
def T3.s1 (t:T3)(px py:Int):Int:=sgn (shd t.ax t.ay t.aw t.bx t.b_y t.bw px py)
def T3.s2 (t:T3)(px py:Int):Int:=sgn (shd t.bx t.b_y t.bw t.cx t.cy t.cw px py)
def T3.s3 (t:T3)(px py:Int):Int:=sgn (shd t.cx t.cy t.cw t.ax t.ay t.aw px py)
def T3.has (t:T3)(px py:Int):Prop:=t.s1 px py≠0/\t.s2 px py=t.s1 px py/\t.s3 px py=t.s1 px py
instance (t:T3) (px py:Int):Decidable (t.has px py):=inferInstanceAs (Decidable (_/\_/\_))
noncomputable def PV:DSp:=fun ds P _=>∃ (t:T3) (px py:Int) (n:Nat),ds=[t.d,t2 px py]/\t.ok n/\Bd n px/\Bd n py/\n<=2000/\P (.bl (decide (t.has px py)))
theorem WS {w:World} {f:Addr} (F:Fun K "has_dot" "has_dot" LV f fd) (Z:Bi mg) {c:Cs} (Y:Ex K mg base c) (g0:Callee P w K mg base CX0 "shifted_side" 3 ["a","b","dot"] (Q3 K BT Q0o)):FnOk P w K mg base CX0 4 f fd ["face","dot"] (Q3 K BT PV):=by
 refine F.okD CQ (fun ds PP Ed h=>?_) (fun cdv A outer s H E M bg ds PP Ed hr hS_=>?_)
 · obtain ⟨t,px,py,n,rfl,ok,hx,hy,hn,hP⟩:=h
   rfl
 · obtain ⟨t,px,py,n,rfl,ok,hx,hy,hn,hP⟩:=hS_
   refine ⟨_,(J8 (EE (AW [2,3,4]) (jdv 0) (PG.or (Z8 (n:=3) K (by rfl) (by rfl) (J5 (pg_name (i:=2) CQ.nd rfl (by walk_at "o")) (J5 (pg_name (i:=3) CQ.nd rfl (by walk_at "o")) (J5 (pg_name (i:=4) CQ.nd rfl (by walk_at "o")) V3)))) (Z9 (n:=3) K (by rfl) (by rfl) (J5 (pg_name (i:=2) CQ.nd rfl (by walk_at "o")) (J5 (pg_name (i:=3) CQ.nd rfl (by walk_at "o")) (J5 (pg_name (i:=4) CQ.nd rfl (by walk_at "o")) V3))))))
    (J8 (Y0 (i:=5) CQ.nd rfl (by walk_at "o") (Q7 g0 hr.m rfl (J0 (jdv 2) (J0 (jdv 3) (J0 (jdv 1) J4)))))
    (Q4 (V6 (LD (DJ J2s J2v (jdv 5) J1 (Y2 _)) (LD (DJ DK CB (Q7 g0 hr.m rfl (J0 (jdv 3) (J0 (jdv 4) (J0 (jdv 1) J4)))) (jdv 5) (Y2 _)) (NM (DJ DK CB (Q7 g0 hr.m rfl (J0 (jdv 4) (J0 (jdv 2) (J0 (jdv 1) J4)))) (jdv 5) (Y2 _))))))))),?_⟩
   walk_at "g"
   refine ⟨_,_,_,_,_,_,_,_,_,_,rfl,⟨ok.ax.mono hn,ok.ay.mono hn,ok.aw.mono hn⟩,⟨ok.bx.mono hn,ok.b_y.mono hn,ok.bw.mono hn⟩,⟨hx.mono hn,hy.mono hn⟩,?_⟩
   walk_at "g"
   have key:∀ b:Bool,(b=true↔t.has px py)->PP (.bl b):=fun b h=>by
    rw [show b=decide (t.has px py) from by rw [Bool.eq_iff_iff,h];simp]
    exact hP
   unfold T3.has T3.s1 T3.s2 T3.s3 at key
   walk_at "sp"
   · rename_i h1
     walk_at "g"
     refine ⟨_,_,_,_,_,_,_,_,_,_,rfl,⟨ok.bx.mono hn,ok.b_y.mono hn,ok.bw.mono hn⟩,⟨ok.cx.mono hn,ok.cy.mono hn,ok.cw.mono hn⟩,⟨hx.mono hn,hy.mono hn⟩,?_⟩
     walk_at "g"
     walk_at "sp"
     · rename_i h2
       walk_at "g"
       refine ⟨_,_,_,_,_,_,_,_,_,_,rfl,⟨ok.cx.mono hn,ok.cy.mono hn,ok.cw.mono hn⟩,⟨ok.ax.mono hn,ok.ay.mono hn,ok.aw.mono hn⟩,⟨hx.mono hn,hy.mono hn⟩,?_⟩
       walk_at "g"
       refine key _ ?_
       simp [h1,h2]
     · rename_i h2
       walk_at "g"
       refine key _ ?_
       simp [h2]
   · rename_i h1
     walk_at "g"
     refine key _ ?_
     simp [h1]
abbrev LU:Stmt:=top 25
theorem WA:FnScope ["one","other"] ["one","other"] (J3 LU):=⟨rfl,rfl,rfl,by decide +kernel,rfl,by decide +kernel,by decide +kernel⟩
noncomputable def J6a:DSp:=fun ds P _=>∃ (a b c e:Int),ds=[t2 a b,t2 c e]/\(Bd 2000 a/\Bd 2000 b)/\(Bd 2000 c/\Bd 2000 e)/\P (.bl (decide (a*e<c*b)))
theorem WR {w:World} {f:Addr} (F:Fun K "is_less" "is_less" LU f fd) (Z:Bi mg) {c:Cs} (Y:Ex K mg base c):FnOk P w K mg base CX0 1 f fd ["one","other"] (Q3 K BT J6a):=by
 refine F.okD WA (fun ds PP Ed h=>?_) (fun cdv A outer s H E M bg ds PP Ed hr hS_=>?_)
 · obtain ⟨a,b,c,e,rfl,⟨h1,h2⟩,⟨h3,h4⟩,hP⟩:=h
   rfl
 · obtain ⟨a,b,c,e,rfl,⟨h1,h2⟩,⟨h3,h4⟩,hP⟩:=hS_
   refine ⟨_,(Q4 (V6 (DJ OE HV (J9 Q8 Y6 (Q5 (Q0 K (by rfl)) V1 (jdv 0) J1 (fun _ _=>rfl)) (Q5 (Q0 K (by rfl)) V1 (jdv 1) J1 (fun _ _=>rfl))) (J9 Q8 Y6 (Q5 (Q0 K (by rfl)) V1 (jdv 1) J1 (fun _ _=>rfl)) (Q5 (Q0 K (by rfl)) V1 (jdv 0) J1 (fun _ _=>rfl))) (Y2 _)))),?_⟩
   walk_at "g"
   exact hP
theorem GV {n:Int}(h:0<n):sgn n=1:=by unfold sgn;rw [if_pos h]
theorem GW {n:Int}(h:n<0):sgn n = -1:=by unfold sgn;rw [if_neg (by omega),if_pos h]
theorem J1u:sgn 0=0:=by decide
theorem YC {a:Int}(n:Int)(h:0<a):sgn (a*n)=sgn n:=by
 by_cases h1:0<n
 · rw [GV h1,GV (Int.mul_pos h h1)]
 · by_cases h2:n<0
   · rw [GW h2,GW (Int.mul_neg_of_pos_of_neg h h2)]
   · have:n=0:=by omega
     subst this
     rw [Int.mul_zero]
theorem J7l {a b M:Int}(h1:(a.natAbs:Int)<=M)(h2:(b.natAbs:Int)<=M) : -(M*M)<=a*b/\a*b<=M*M:=by
 have h3:a.natAbs*b.natAbs<=M.toNat*M.toNat:=Nat.mul_le_mul (by omega) (by omega)
 have h4:(a*b).natAbs=a.natAbs*b.natAbs:=Int.natAbs_mul a b
 have h6:(M.toNat:Int)=M:=by omega
 have h5:((M.toNat*M.toNat:Nat):Int)=M*M:=by rw [Int.natCast_mul,h6]
 clear h6
 omega
theorem J1v {A B C T F:Int}(hT:0<=T)(hF:F=10+8*T)(b1 : -(2*T)<=B)(b2:B<=2*T)(c1 : -(2*T)<=C)(c2:C<=2*T) :
 sgn (F*F*A+F*B+C)=sgn (if A=0 then (if B=0 then C else B) else A):=by
 have F0:0<F:=by omega
 have e1:F*(10+6*T)=F*F - F*(2*T):=by rw [hF];grind
 have e2:10*(10+6*T)<=F*(10+6*T):=Int.mul_le_mul_of_nonneg_right (by omega) (by omega)
 have fb1:F * -(2*T)<=F*B:=Int.mul_le_mul_of_nonneg_left b1 (by omega)
 have fb2:F*B<=F*(2*T):=Int.mul_le_mul_of_nonneg_left b2 (by omega)
 have e3:F * -(2*T) = -(F*(2*T)):=Int.mul_neg _ _
 have FF:0<F*F:=Int.mul_pos F0 F0
 by_cases hA:A=0
 · rw [if_pos hA,hA,Int.mul_zero]
   by_cases hB:B=0
   · rw [if_pos hB,hB,Int.mul_zero]
     congr 1
     omega
   · rw [if_neg hB]
     by_cases hp:0<B
     · have:F*1<=F*B:=Int.mul_le_mul_of_nonneg_left (by omega) (by omega)
       rw [GV hp,GV (by omega)]
     · have:F*B<=F * -1:=Int.mul_le_mul_of_nonneg_left (by omega) (by omega)
       have e4:F * -1 = -F:=by omega
       rw [GW (show B<0 by omega),GW (by omega)]
 · rw [if_neg hA]
   by_cases hp:0<A
   · have:F*F*1<=F*F*A:=Int.mul_le_mul_of_nonneg_left (by omega) (by omega)
     rw [GV hp,GV (by omega)]
   · have:F*F*A<=F*F * -1:=Int.mul_le_mul_of_nonneg_left (by omega) (by omega)
     rw [GW (show A<0 by omega),GW (by omega)]
theorem QV (ax ay aw bx b_y bw px py pw:Int):(bx*aw - ax*bw)*(py*aw - ay*pw) - (b_y*aw - ay*bw)*(px*aw - ax*pw)=aw*det ax ay aw bx b_y bw px py pw:=by unfold det;grind
theorem J2z (ax ay aw bx b_y bw px py F:Int):det ax ay aw bx b_y bw (px*F*F+F) (py*F*F+1) (F*F)=F*F*det ax ay aw bx b_y bw px py 1+F*(ay*bw - aw*b_y)+(aw*bx - ax*bw):=by unfold det;grind
theorem WF {ax ay az aw bx b_y bz bw px py M:Int}(hw:0<aw)(hM:1<=M)(h:∀ n∈[ax,ay,az,aw,bx,b_y,bz,bw],(n.natAbs:Int)<=M) :
 sgn ((bx*aw - ax*bw)*((py*(10+8*M*M)*(10+8*M*M)+1)*aw - ay*((10+8*M*M)*(10+8*M*M))) - (b_y*aw - ay*bw)*((px*(10+8*M*M)*(10+8*M*M)+(10+8*M*M))*aw - ax*((10+8*M*M)*(10+8*M*M))))=sgn (shd ax ay aw bx b_y bw px py):=by
 rw [QV,YC _ hw,J2z]
 have m1:=J7l (h ay (by simp)) (h bw (by simp))
 have m2:=J7l (h aw (by simp)) (h b_y (by simp))
 have m3:=J7l (h aw (by simp)) (h bx (by simp))
 have m4:=J7l (h ax (by simp)) (h bw (by simp))
 have hT:0<=M*M:=Int.mul_nonneg (by omega) (by omega)
 exact J1v (T:=M*M) hT (by rw [Int.mul_assoc]) (by omega) (by omega) (by omega) (by omega)
theorem EH (n:Int):(0<n/\sgn n=1)\/(n=0/\sgn n=0)\/(n<0/\sgn n = -1):=by
 by_cases h:0<n
 · exact .inl ⟨h,GV h⟩
 · by_cases h':n<0
   · exact .inr (.inr ⟨h',GW h'⟩)
   · have:n=0:=by omega
     subst this
     exact .inr (.inl ⟨rfl,J1u⟩)
structure T3.pos (t:T3):Prop where
 a:0<t.aw
 b:0<t.bw
 c:0<t.cw
def T3.nums (t:T3):List Int:=[t.ax,t.ay,t.az,t.aw,t.bx,t.b_y,t.bz,t.bw,t.cx,t.cy,t.cz,t.cw]
def T3.in (t:T3)(M:Int):Prop:=∀ n∈t.nums,(n.natAbs:Int)<=M
def nX (px M:Int):Int:=px*(10+8*M*M)*(10+8*M*M)+(10+8*M*M)
def nY (py M:Int):Int:=py*(10+8*M*M)*(10+8*M*M)+1
def nW (M:Int):Int:=(10+8*M*M)*(10+8*M*M)
theorem HL {ax ay az aw bx b_y bz bw px py M:Int}(hw:0<aw)(hM:1<=M)(h:∀ n∈[ax,ay,az,aw,bx,b_y,bz,bw],(n.natAbs:Int)<=M):sgn (det ax ay aw bx b_y bw (nX px M) (nY py M) (nW M))=sgn (shd ax ay aw bx b_y bw px py):=by
 have e:=WF (px:=px) (py:=py) hw hM h
 rw [QV,YC _ hw] at e
 exact e
theorem T3.near {t:T3}{px py M:Int}(hp:t.pos)(hM:1<=M)(h:t.in M) :
 sgn (det t.ax t.ay t.aw t.bx t.b_y t.bw (nX px M) (nY py M) (nW M))=t.s1 px py/\sgn (det t.bx t.b_y t.bw t.cx t.cy t.cw (nX px M) (nY py M) (nW M))=t.s2 px py/\sgn (det t.cx t.cy t.cw t.ax t.ay t.aw (nX px M) (nY py M) (nW M))=t.s3 px py:=by
 unfold T3.in T3.nums at h
 refine ⟨HL (az:=t.az) (bz:=t.bz) hp.a hM fun n hn=>h n ?_,HL (az:=t.bz) (bz:=t.cz) hp.b hM fun n hn=>h n ?_,HL (az:=t.cz) (bz:=t.az) hp.c hM fun n hn=>h n ?_⟩
 all_goals
  simp only [List.mem_cons,List.not_mem_nil,or_false] at hn ⊢
  rcases hn with e|e|e|e|e|e|e|e<;>simp [e]
theorem T3.sum_det (t:T3)(x y w:Int):t.cw*det t.ax t.ay t.aw t.bx t.b_y t.bw x y w+t.aw*det t.bx t.b_y t.bw t.cx t.cy t.cw x y w+t.bw*det t.cx t.cy t.cw t.ax t.ay t.aw x y w=t.tn*w:=by
 unfold T3.tn det
 grind
theorem T3.has_tn {t:T3}{px py:Int}(hp:t.pos)(h:t.has px py):t.tn≠0:=by
 intro z
 obtain ⟨f,hf⟩:∃ f:Int->Nat,∀ n,f n=n.natAbs:=⟨Int.natAbs,fun _=>rfl⟩
 obtain ⟨M,hM,hin⟩:∃ M:Int,1<=M/\t.in M:=by
  refine ⟨1+f t.ax+f t.ay+f t.az+f t.aw+f t.bx+f t.b_y+f t.bz+f t.bw+f t.cx+f t.cy+f t.cz+f t.cw,by omega,fun n hn=>?_⟩
  unfold T3.nums at hn
  rw [<- hf]
  clear hf z h
  simp only [List.mem_cons,List.not_mem_nil,or_false] at hn
  rcases hn with e|e|e|e|e|e|e|e|e|e|e|e<;>rw [e]<;>omega
 obtain ⟨e1,e2,e3⟩:=T3.near (px:=px) (py:=py) hp hM hin
 have s:=t.sum_det (nX px M) (nY py M) (nW M)
 rw [z,Int.zero_mul] at s
 obtain ⟨h1,h2,h3⟩:=h
 rw [<- e1] at h1 h2 h3
 rw [<- e2] at h2
 rw [<- e3] at h3
 have pa:=hp.a
 have pb:=hp.b
 have pc:=hp.c
 generalize det t.ax t.ay t.aw t.bx t.b_y t.bw (nX px M) (nY py M) (nW M)=d1 at *
 generalize det t.bx t.b_y t.bw t.cx t.cy t.cw (nX px M) (nY py M) (nW M)=d2 at *
 generalize det t.cx t.cy t.cw t.ax t.ay t.aw (nX px M) (nY py M) (nW M)=d3 at *
 have c1:=EH d1
 have c2:=EH d2
 have c3:=EH d3
 rcases c1 with ⟨c1,q⟩|⟨c1,q⟩|⟨c1,q⟩
 · have k2:0<d2:=by omega
   have k3:0<d3:=by omega
   have m1:=Int.mul_pos pc c1
   have m2:=Int.mul_pos pa k2
   have m3:=Int.mul_pos pb k3
   omega
 · omega
 · have k2:d2<0:=by omega
   have k3:d3<0:=by omega
   have m1:=Int.mul_neg_of_pos_of_neg pc c1
   have m2:=Int.mul_neg_of_pos_of_neg pa k2
   have m3:=Int.mul_neg_of_pos_of_neg pb k3
   omega
theorem T3.tn_bd {t:T3}{n:Nat}(ok:t.ok n):Bd (3*n+5) t.tn:=SU ok.ax ok.ay ok.aw ok.bx ok.b_y ok.bw ok.cx ok.cy ok.cw
theorem T3.wA_bd {t:T3}{n:Nat}{px py:Int}(ok:t.ok n)(hx:Bd n px)(hy:Bd n py)(h3:3<=n):Bd (3*n+5) (t.wA px py):=SU ok.bx ok.b_y ok.bw ok.cx ok.cy ok.cw hx hy (bd1 h3)
theorem T3.wB_bd {t:T3}{n:Nat}{px py:Int}(ok:t.ok n)(hx:Bd n px)(hy:Bd n py)(h3:3<=n):Bd (3*n+5) (t.wB px py):=SU ok.cx ok.cy ok.cw ok.ax ok.ay ok.aw hx hy (bd1 h3)
theorem T3.wC_bd {t:T3}{n:Nat}{px py:Int}(ok:t.ok n)(hx:Bd n px)(hy:Bd n py)(h3:3<=n):Bd (3*n+5) (t.wC px py):=SU ok.ax ok.ay ok.aw ok.bx ok.b_y ok.bw hx hy (bd1 h3)
theorem T3.top_bd {t:T3}{n:Nat}{px py:Int}(ok:t.ok n)(hx:Bd n px)(hy:Bd n py)(h3:3<=n):Bd (4*n+8) (t.top px py) :=
 (Bd.add (Bd.add (Bd.mul (T3.wA_bd ok hx hy h3) ok.az) (Bd.mul (T3.wB_bd ok hx hy h3) ok.bz)) (Bd.mul (T3.wC_bd ok hx hy h3) ok.cz)).mono (by omega)
theorem sgn_bd (n:Int):Bd 3 (sgn n):=by
 unfold sgn
 split
 · exact Bd.of (by decide) (by decide)
 · split<;>exact Bd.of (by decide) (by decide)
abbrev PN (i:Int):Int:=if i<0 then -i else i
theorem J9l {n:Nat}{i:Int}(h:Bd n i):Bd n (PN i):=by
 unfold PN
 split
 · exact h.neg
 · exact h
abbrev DD:Stmt:=top 44
theorem QC:FnScope ["face","dot"] ["face","dot"] (J3 DD):=⟨rfl,rfl,rfl,by decide +kernel,rfl,by decide +kernel,by decide +kernel⟩
def T3.tA (t:T3)(px py:Int):Int:=t.wA px py*t.aw
def T3.tB (t:T3)(px py:Int):Int:=t.wB px py*t.bw
def T3.tC (t:T3)(px py:Int):Int:=t.wC px py*t.cw
noncomputable def J5w (c:Cs):DSp:=fun ds P Ed=>∃ (t:T3) (px py:Int) (n:Nat),ds=[t.d,t2 px py]/\t.ok n/\Bd n px/\Bd n py/\3<=n/\n<=600/\(¬ t.has px py->Ed c.NoFace)/\(t.has px py->P (.lst [.int (t.tA px py),.int (t.tB px py),.int (t.tC px py)]))
theorem QE {w:World} {f:Addr} (F:Fun K "share_tops" "share_tops" DD f fd) (Z:Bi mg) {c:Cs} (Y:Ex K mg base c) (g0:Callee P w K mg base CX0 "has_dot" 4 ["face","dot"] (Q3 K BT PV)) (g1:Callee P w K mg base CX0 "weights" 3 ["face","dot"] (Q3 K BT MT)):FnOk P w K mg base (CX1 P w base) 5 f fd ["face","dot"] (Q3 K BT (J5w c)):=by
 refine F.okDX QC (fun ds PP Ed h=>?_) (fun cdv A outer s H E M bg ds PP Ed hr hE hS_=>?_)
 · obtain ⟨t,px,py,n,rfl,ok,hx,hy,h3,hn,h0,h1⟩:=h
   rfl
 · obtain ⟨t,px,py,n,rfl,ok,hx,hy,h3,hn,h0,h1⟩:=hS_
   refine ⟨_,(J8 (CN (IZ (DI (by rfl) (Q7 g0 hr.m rfl (J0 (jdv 0) (J0 (jdv 1) J4))) (fun _=>rfl))) (Q4 (MG hE (LZ Y.o_NoFace rfl))) AT)
    (Q4 (V6 (Z6 (X:=(V4 (CX1 P w base) P w K mg base ["face","dot"] "share_tops" (J3 DD) f cdv A outer s H E)) (AW [0,1]) (ET (X:=(V4 (CX1 P w base) P w K mg base ["face","dot"] "share_tops" (J3 DD) f cdv A outer s H E)) (N':=["weight","corner"]) (map:=[none,none]) (by rfl) (by rfl) (by decide +kernel) (by rfl) True.intro (gkeep_seq (js:=[0,1]) (by decide)) fun cl0 C0 fp0 s0 H0=>⟨(PG.or (Z8 (n:=2) K (by rfl) (by rfl) (J5 (pg_name (i:=0) (Y1 ["weight","corner"] (by decide +kernel)) rfl (by walk_at "o")) (J5 (pg_name (i:=1) (Y1 ["weight","corner"] (by decide +kernel)) rfl (by walk_at "o")) V3))) (Z9 (n:=2) K (by rfl) (by rfl) (J5 (pg_name (i:=0) (Y1 ["weight","corner"] (by decide +kernel)) rfl (by walk_at "o")) (J5 (pg_name (i:=1) (Y1 ["weight","corner"] (by decide +kernel)) rfl (by walk_at "o")) V3)))),Z5,(J9 (X:=(Q9 (V4 (CX1 P w base) P w K mg base ["face","dot"] "share_tops" (J3 DD) f cdv A outer s H E) ["weight","corner"] _ cl0 C0 fp0 s0 H0)) Q8 Y6 (jdv 0) (Q5 (Q0 K (by rfl)) V1 (jdv 1) J1 (fun _ _=>rfl)))⟩) (JB (by rfl) true true rfl Z.zip_ (J0 (Q7 g1 hr.m rfl (J0 (jdv 0) (J0 (jdv 1) J4))) (J0 (jdv 0) J4)) (IY K (by rfl) true true rfl Z.zip_ (JA.h (J0 (Q7 g1 hr.m rfl (J0 (jdv 0) (J0 (jdv 1) J4))) (J0 (jdv 0) J4))))))))),?_⟩
   walk_at "g"
   refine ⟨t,px,py,n,rfl,ok,hx,hy,by omega,?_⟩
   by_cases hh:t.has px py
   · walk_at "g"
     refine IfP.f (by simp [hh]) ?_
     have bA:=T3.wA_bd ok hx hy h3
     have bB:=T3.wB_bd ok hx hy h3
     have bC:=T3.wC_bd ok hx hy h3
     have b1:=ok.aw
     have b2:=ok.bw
     have b3:=ok.cw
     walk_at "g"
     refine ⟨t,px,py,n,rfl,ok,hx,hy,by omega,?_⟩
     walk_at "g"
     walk_at "gc"
     exact h1 hh
   · walk_at "g"
     refine IfP.t (by simp [hh]) ?_
     walk_at "g"
     exact h0 hh
def l3 (a b c:Int):D:=.lst [.int a,.int b,.int c]
def tl3 (tp:Bool)(a b c:Int):D:=match tp with|true=>t3 a b c|false=>l3 a b c
abbrev BL:Stmt:=top 22
theorem KK:FnScope ["one","other"] ["one","other"] (J3 BL):=⟨rfl,rfl,rfl,by decide +kernel,rfl,by decide +kernel,by decide +kernel⟩
noncomputable def TN:DSp:=fun ds P _=>∃ (tp:Bool) (a b c x y z:Int),ds=[tl3 tp a b c,l3 x y z]/\(Bd 7000 a/\Bd 7000 b/\Bd 7000 c)/\(Bd 7000 x/\Bd 7000 y/\Bd 7000 z)/\P (.int (a*x+b*y+c*z))
theorem KS {w:World} {f:Addr} (F:Fun K "products_added" "products_added" BL f fd) (Z:Bi mg) {c:Cs} (Y:Ex K mg base c):FnOk P w K mg base CX0 1 f fd ["one","other"] (Q3 K BT TN):=by
 refine F.okD KK (fun ds PP Ed h=>?_) (fun cdv A outer s H E M bg ds PP Ed hr hS_=>?_)
 · obtain ⟨tp,a,b,c,x,y,z,rfl,⟨h1,h2,h3⟩,⟨k1,k2,k3⟩,hP⟩:=h
   rfl
 · obtain ⟨tp,a,b,c,x,y,z,rfl,⟨h1,h2,h3⟩,⟨k1,k2,k3⟩,hP⟩:=hS_
   refine ⟨_,(Q4 (V6 (V9 (J1f K (by rfl) (by rfl)) Q4f rfl Z.sum_ Q4q (J0 (Z6 (X:=(V4 CX0 P w K mg base ["one","other"] "products_added" (J3 BL) f cdv A outer s H E).nox) (AW [0,1]) (ET (X:=(V4 CX0 P w K mg base ["one","other"] "products_added" (J3 BL) f cdv A outer s H E).nox) (N':=["first","second"]) (map:=[none,none]) (by rfl) (by rfl) (by decide +kernel) (by rfl) True.intro (gkeep_seq (js:=[0,1]) (by decide)) fun cl0 C0 fp0 s0 H0=>⟨(PG.or (Z8 (n:=2) K (by rfl) (by rfl) (J5 (pg_name (i:=0) (Y1 ["first","second"] (by decide +kernel)) rfl (by walk_at "o")) (J5 (pg_name (i:=1) (Y1 ["first","second"] (by decide +kernel)) rfl (by walk_at "o")) V3))) (Z9 (n:=2) K (by rfl) (by rfl) (J5 (pg_name (i:=0) (Y1 ["first","second"] (by decide +kernel)) rfl (by walk_at "o")) (J5 (pg_name (i:=1) (Y1 ["first","second"] (by decide +kernel)) rfl (by walk_at "o")) V3)))),Z5,(J9 (X:=(Q9 (V4 CX0 P w K mg base ["one","other"] "products_added" (J3 BL) f cdv A outer s H E).nox ["first","second"] _ cl0 C0 fp0 s0 H0)) Q8 Y6 (jdv 0) (jdv 1))⟩) (Q2n (JB (by rfl) true false rfl Z.zip_ (J0 (jdv 0) (J0 (jdv 1) J4)) (IY K (by rfl) true false rfl Z.zip_ (JA.h (J0 (jdv 0) (J0 (jdv 1) J4))))) (JB (by rfl) false false rfl Z.zip_ (J0 (jdv 0) (J0 (jdv 1) J4)) (IY K (by rfl) false false rfl Z.zip_ (JA.h (J0 (jdv 0) (J0 (jdv 1) J4))))))) J4)))),?_⟩
   have e:[a*x,b*y,c*z].sum=a*x+b*y+c*z:=by simp only [List.sum_cons,List.sum_nil];omega
   rw [<- e] at hP
   cases tp
   · walk_at "g"
     refine Or.inr ?_
     walk_at "g"
     walk_at "gc"
     exact hP
   · walk_at "g"
     refine Or.inl ?_
     walk_at "g"
     walk_at "gc"
     exact hP
abbrev AO:Stmt:=top 42
theorem DW:FnScope ["face","dot","whole","top"] ["face","dot"] (J3 AO):=⟨rfl,rfl,rfl,by decide +kernel,rfl,by decide +kernel,by decide +kernel⟩
noncomputable def Q7t (c:Cs):DSp:=fun ds P Ed=>∃ (t:T3) (px py:Int) (n:Nat),ds=[t.d,t2 px py]/\t.ok n/\Bd n px/\Bd n py/\3<=n/\n<=1000/\(t.tn=0->Ed c.NoFace)/\(t.tn≠0->P (t2 (t.top px py*sgn t.tn) (PN t.tn)))
theorem JQ {w:World} {f:Addr} (F:Fun K "unreduced_depth" "unreduced_depth" AO f fd) (Z:Bi mg) {c:Cs} (Y:Ex K mg base c) (g0:Callee P w K mg base CX0 "turn" 2 ["face"] (Q3 K BT XS)) (g1:Callee P w K mg base CX0 "products_added" 1 ["one","other"] (Q3 K BT TN)) (g2:Callee P w K mg base CX0 "weights" 3 ["face","dot"] (Q3 K BT MT)) (g3:Callee P w K mg base CX0 "sign" 1 ["number"] (Q3 K BT XT)):FnOk P w K mg base (CX1 P w base) 4 f fd ["face","dot"] (Q3 K BT (Q7t c)):=by
 refine F.okDX DW (fun ds PP Ed h=>?_) (fun cdv A outer s H E M bg ds PP Ed hr hE hS_=>?_)
 · obtain ⟨t,px,py,n,rfl,ok,hx,hy,h3,hn,h0,h1⟩:=h
   rfl
 · obtain ⟨t,px,py,n,rfl,ok,hx,hy,h3,hn,h0,h1⟩:=hS_
   refine ⟨_,(J8 (Y0 (i:=2) DW.nd rfl (by walk_at "o") (Q7 g0 hr.m rfl (J0 (jdv 0) J4)))
    (J8 (CN (AB DK CB (jdv 2) J1 (Y2 _)) (Q4 (MG hE (LZ Y.o_NoFace rfl))) AT)
    (J8 (Y0 (i:=3) DW.nd rfl (by walk_at "o") (Q7 g1 hr.m rfl (J0 (Q7 g2 hr.m rfl (J0 (jdv 0) (J0 (jdv 1) J4))) (J0 (Z6 (X:=(V4 (CX1 P w base) P w K mg base ["face","dot","whole","top"] "unreduced_depth" (J3 AO) f cdv A outer s H E)) (Y8 0) (ET (X:=(V4 (CX1 P w base) P w K mg base ["face","dot","whole","top"] "unreduced_depth" (J3 AO) f cdv A outer s H E)) (N':=["corner"]) (map:=[none]) (by rfl) (by rfl) (by decide +kernel) (by rfl) True.intro (gkeep_name rfl) fun cl0 C0 fp0 s0 H0=>⟨(pg_name (X:=(Q9 (V4 (CX1 P w base) P w K mg base ["face","dot","whole","top"] "unreduced_depth" (J3 AO) f cdv A outer s H E) ["corner"] _ cl0 C0 fp0 s0 H0)) (i:=0) (Y1 ["corner"] (by decide +kernel)) rfl (by walk_at "o")),Z5,(Q5 (X:=(Q9 (V4 (CX1 P w base) P w K mg base ["face","dot","whole","top"] "unreduced_depth" (J3 AO) f cdv A outer s H E) ["corner"] _ cl0 C0 fp0 s0 H0)) (Q0 K (by rfl)) V1 (jdv 0) J1 (fun _ _=>rfl))⟩) (AZ (by rfl) (jdv 0))) J4))))
    (Q4 (V6 (Y7 (J0 (J9 Q8 Y6 (jdv 3) (Q7 g3 hr.m rfl (J0 (jdv 2) J4))) (J0 (V9 GT XN rfl Z.abs_ MP (J0 (jdv 2) J4)) J4)))))))),?_⟩
   walk_at "g"
   refine ⟨t,n,rfl,ok,by omega,?_⟩
   walk_at "g"
   walk_at "sp"
   · rename_i z
     exact h0 z
   · rename_i z
     walk_at "g"
     refine ⟨t,px,py,n,rfl,ok,hx,hy,by omega,?_⟩
     walk_at "g"
     walk_at "gc"
     have m:=Nat.le_trans (show 3*n+5<=3005 by omega) (by decide:3005<=7000)
     refine ⟨true,_,_,_,_,_,_,rfl,⟨(T3.wA_bd ok hx hy h3).mono m,(T3.wB_bd ok hx hy h3).mono m,(T3.wC_bd ok hx hy h3).mono m⟩,⟨ok.az.mono (by omega),ok.bz.mono (by omega),ok.cz.mono (by omega)⟩,?_⟩
     walk_at "g"
     refine ⟨_,rfl,?_⟩
     walk_at "g"
     refine And.intro (Or.inl ⟨_,_,T3.top_bd ok hx hy h3,sgn_bd _,by omega⟩) ?_
     walk_at "g"
     exact h1 z
theorem T3.ok.mono {t:T3}{m n:Nat}(h:t.ok m)(k:m<=n):t.ok n:=⟨h.ax.mono k,h.ay.mono k,h.az.mono k,h.aw.mono k,h.bx.mono k,h.b_y.mono k,h.bz.mono k,h.bw.mono k,h.cx.mono k,h.cy.mono k,h.cz.mono k,h.cw.mono k⟩
structure Col where
 (c0 c1 c2:Int)
abbrev Col.d (c:Col):D:=t3 c.c0 c.c1 c.c2
structure Col.ok (c:Col):Prop where
 h0:0<=c.c0/\c.c0<=255
 h1:0<=c.c1/\c.c1<=255
 h2:0<=c.c2/\c.c2<=255
inductive Ct where
 | pl (c:Col)
 | wv (a b c:Col)
 | pc (rows:List (List Col)) (p q r:Int×Int)
def J9t (rows:List (List Col)):D:=.lst (rows.map fun r=>.lst (r.map Col.d))
def Ct.d:Ct->D
 | .pl c=>.tup [.str "plain",c.d]
 | .wv a b c=>.tup [.str "woven",a.d,b.d,c.d]
 | .pc rows p q r=>.tup [.str "picture",J9t rows,t2 p.1 p.2,t2 q.1 q.2,t2 r.1 r.2]
def Ct.ok:Ct->Prop
 | .pl c=>c.ok
 | .wv a b c=>a.ok/\b.ok/\c.ok
 | .pc rows p q r=>(1<=rows.length/\rows.length<=30)/\(∀ r∈rows,(1<=r.length/\r.length<=30)/\∀ c∈r,c.ok)/\(Bd 45 p.1/\Bd 45 p.2)/\(Bd 45 q.1/\Bd 45 q.2)/\(Bd 45 r.1/\Bd 45 r.2)
def T3.mix (t:T3)(px py a b c:Int):Int:=(a*t.tA px py+b*t.tB px py+c*t.tC px py).fdiv t.tn
def EW (v m:Int):Int:=(fun i j=>if j<i then j else i) ((fun i j=>if j>i then j else i) v 0) (m - 1)
theorem GN {v m:Int}(h:1<=m):0<=EW v m/\EW v m<m:=by
 unfold EW
 dsimp only
 split<;>split<;>omega
def J0e (rows:List (List Col))(u v:Int):D:=match rows[(EW v rows.length).toNat]? with
 | some row=>(match row[(EW u row.length).toNat]? with|some c=>c.d|none=>.non)
 | none=>.non
def Ct.at (t:T3)(px py:Int):Ct->D
 | .pl c=>c.d
 | .wv a b c=>t3 (t.mix px py a.c0 b.c0 c.c0) (t.mix px py a.c1 b.c1 c.c1) (t.mix px py a.c2 b.c2 c.c2)
 | .pc rows p q r=>J0e rows (t.mix px py p.1 q.1 r.1) (t.mix px py p.2 q.2 r.2)
theorem T3.tops_bd {t:T3}{px py:Int}(ok:t.ok 60)(hx:Bd 60 px)(hy:Bd 60 py):Bd 245 (t.tA px py)/\Bd 245 (t.tB px py)/\Bd 245 (t.tC px py):=⟨(Bd.mul (T3.wA_bd ok hx hy (by decide)) ok.aw).mono (by decide),(Bd.mul (T3.wB_bd ok hx hy (by decide)) ok.bw).mono (by decide),(Bd.mul (T3.wC_bd ok hx hy (by decide)) ok.cw).mono (by decide)⟩
theorem CO {n:Int}(h:0<=n/\n<=255):Bd 45 n:=Bd.of (by omega) (by omega)
theorem ixq {xs:List D}{i:Int}{d:D}{P:D->Prop}(h0:0<=i)(h:xs[i.toNat]?=some d)(hp:P d):(atI xs i).elim False P:=by
 obtain ⟨n,rfl⟩:∃ n:Nat,i=n:=⟨i.toNat,by omega⟩
 rw [show atI xs (n:Int)=some d from LM h]
 exact hp
inductive BlR (t:T3)(px py:Int):D->D->Prop
 | col (a b c:Col) (h:a.ok/\b.ok/\c.ok):BlR t px py (.tup [a.d,b.d,c.d]) (l3 (t.mix px py a.c0 b.c0 c.c0) (t.mix px py a.c1 b.c1 c.c1) (t.mix px py a.c2 b.c2 c.c2))
 | pl (p q r:Int×Int) (h:(Bd 45 p.1/\Bd 45 p.2)/\(Bd 45 q.1/\Bd 45 q.2)/\(Bd 45 r.1/\Bd 45 r.2)):BlR t px py (.tup [t2 p.1 p.2,t2 q.1 q.2,t2 r.1 r.2]) (.lst [.int (t.mix px py p.1 q.1 r.1),.int (t.mix px py p.2 q.2 r.2)])
abbrev CC:Stmt:=top 45
theorem WB:FnScope ["told","tops","whole"] ["told","tops","whole"] (J3 CC):=⟨rfl,rfl,rfl,by decide +kernel,rfl,by decide +kernel,by decide +kernel⟩
noncomputable def ZO:DSp:=fun ds P _=>∃ (t:T3) (px py:Int) (told res:D),t.ok 60/\Bd 60 px/\Bd 60 py/\t.tn≠0/\BlR t px py told res/\ds=[told,l3 (t.tA px py) (t.tB px py) (t.tC px py),.int t.tn]/\P res
theorem WV {w:World} {f:Addr} (F:Fun K "blended" "blended" CC f fd) (Z:Bi mg) {c:Cs} (Y:Ex K mg base c) (g0:Callee P w K mg base CX0 "products_added" 1 ["one","other"] (Q3 K BT TN)):FnOk P w K mg base CX0 2 f fd ["told","tops","whole"] (Q3 K BT ZO):=by
 refine F.okD WB (fun ds PP Ed h=>?_) (fun cdv A outer s H E M bg ds PP Ed hr hS_=>?_)
 · obtain ⟨t,px,py,told,res,ok,hx,hy,h0,hb,rfl,hP⟩:=h
   rfl
 · obtain ⟨t,px,py,told,res,ok,hx,hy,h0,hb,rfl,hP⟩:=hS_
   refine ⟨_,(Q4 (V6 (Z6 (X:=(V4 CX0 P w K mg base ["told","tops","whole"] "blended" (J3 CC) f cdv A outer s H E).nox) (Y8 0) (ET (X:=(V4 CX0 P w K mg base ["told","tops","whole"] "blended" (J3 CC) f cdv A outer s H E).nox) (N':=["at","told","tops","whole"]) (map:=[none,some 0,some 1,some 2]) (by rfl) (by rfl) (by decide +kernel) (by rfl) ⟨⟨rfl,rfl,rfl,by walk_at "o"⟩,⟨⟨rfl,rfl,rfl,by walk_at "o"⟩,⟨⟨rfl,rfl,rfl,by walk_at "o"⟩,True.intro⟩⟩⟩ (gkeep_name rfl) fun cl0 C0 fp0 s0 H0=>⟨(pg_name (X:=(Q9 (V4 CX0 P w K mg base ["told","tops","whole"] "blended" (J3 CC) f cdv A outer s H E).nox ["at","told","tops","whole"] _ cl0 C0 fp0 s0 H0)) (i:=0) (Y1 ["at","told","tops","whole"] (by decide +kernel)) rfl (by walk_at "o")),Z5,(J9 (X:=(Q9 (V4 CX0 P w K mg base ["told","tops","whole"] "blended" (J3 CC) f cdv A outer s H E).nox ["at","told","tops","whole"] _ cl0 C0 fp0 s0 H0)) OF Y6 (Q7 g0 hr.m rfl (J0 (Z6 (X:=(Q9 (V4 CX0 P w K mg base ["told","tops","whole"] "blended" (J3 CC) f cdv A outer s H E).nox ["at","told","tops","whole"] _ cl0 C0 fp0 s0 H0)) (Y8 0) (ET (X:=(Q9 (V4 CX0 P w K mg base ["told","tops","whole"] "blended" (J3 CC) f cdv A outer s H E).nox ["at","told","tops","whole"] _ cl0 C0 fp0 s0 H0)) (N':=["one","at"]) (map:=[none,some 0]) (by rfl) (by rfl) (by decide +kernel) (by rfl) ⟨⟨rfl,rfl,rfl,by walk_at "o"⟩,True.intro⟩ (gkeep_name rfl) fun cl1 C1 fp1 s1 H1=>⟨(pg_name (X:=(Q9 (Q9 (V4 CX0 P w K mg base ["told","tops","whole"] "blended" (J3 CC) f cdv A outer s H E).nox ["at","told","tops","whole"] _ cl0 C0 fp0 s0 H0) ["one","at"] _ cl1 C1 fp1 s1 H1)) (i:=0) (Y1 ["one","at"] (by decide +kernel)) rfl (by walk_at "o")),Z5,(Q5 (X:=(Q9 (Q9 (V4 CX0 P w K mg base ["told","tops","whole"] "blended" (J3 CC) f cdv A outer s H E).nox ["at","told","tops","whole"] _ cl0 C0 fp0 s0 H0) ["one","at"] _ cl1 C1 fp1 s1 H1)) (Q0 K (by rfl)) V1 (jdv 0) (jdv 1) (fun _ _=>rfl))⟩) (AZ (by rfl) (jdv 1))) (J0 (jdv 2) J4))) (jdv 3))⟩) (BF rfl Z.range_ (J0 (V9 (AL K (by rfl)) HP rfl Z.len_ GI (J0 (Q5 (Q0 K (by rfl)) V1 (jdv 0) J1 (fun _ _=>rfl)) J4)) J4))))),?_⟩
   obtain ⟨bA,bB,bC⟩:=T3.tops_bd ok hx hy
   have bt:Bd 185 t.tn:=(T3.tn_bd ok).mono (by decide)
   rcases hb with ⟨a,b,c,oa,ob,oc⟩|⟨p,q,r,⟨p1,p2⟩,⟨q1,q2⟩,⟨r1,r2⟩⟩
   · walk_at "g"
     refine And.intro ⟨by show (-2 ^ 62:Int)<=3;decide,by show (3:Int)<2 ^ 62;decide⟩ ?_
     walk_at "g"
     walk_at "gc"
     walk_at "gc"
     refine ⟨false,_,_,_,_,_,_,rfl,⟨(CO oa.h0).mono (by decide),(CO ob.h0).mono (by decide),(CO oc.h0).mono (by decide)⟩,⟨bA.mono (by decide),bB.mono (by decide),bC.mono (by decide)⟩,?_⟩
     walk_at "g"
     refine And.intro ⟨h0,185,bt,by decide⟩ ?_
     walk_at "g"
     walk_at "gc"
     refine ⟨false,_,_,_,_,_,_,rfl,⟨(CO oa.h1).mono (by decide),(CO ob.h1).mono (by decide),(CO oc.h1).mono (by decide)⟩,⟨bA.mono (by decide),bB.mono (by decide),bC.mono (by decide)⟩,?_⟩
     walk_at "g"
     refine And.intro ⟨h0,185,bt,by decide⟩ ?_
     walk_at "g"
     walk_at "gc"
     refine ⟨false,_,_,_,_,_,_,rfl,⟨(CO oa.h2).mono (by decide),(CO ob.h2).mono (by decide),(CO oc.h2).mono (by decide)⟩,⟨bA.mono (by decide),bB.mono (by decide),bC.mono (by decide)⟩,?_⟩
     walk_at "g"
     refine And.intro ⟨h0,185,bt,by decide⟩ ?_
     walk_at "g"
     exact hP
   · walk_at "g"
     refine And.intro ⟨by show (-2 ^ 62:Int)<=2;decide,by show (2:Int)<2 ^ 62;decide⟩ ?_
     walk_at "g"
     walk_at "gc"
     walk_at "gc"
     refine ⟨false,_,_,_,_,_,_,rfl,⟨p1.mono (by decide),q1.mono (by decide),r1.mono (by decide)⟩,⟨bA.mono (by decide),bB.mono (by decide),bC.mono (by decide)⟩,?_⟩
     walk_at "g"
     refine And.intro ⟨h0,185,bt,by decide⟩ ?_
     walk_at "g"
     walk_at "gc"
     refine ⟨false,_,_,_,_,_,_,rfl,⟨p2.mono (by decide),q2.mono (by decide),r2.mono (by decide)⟩,⟨bA.mono (by decide),bB.mono (by decide),bC.mono (by decide)⟩,?_⟩
     walk_at "g"
     refine And.intro ⟨h0,185,bt,by decide⟩ ?_
     walk_at "g"
     exact hP
abbrev ES:Stmt:=top 46
theorem LR:FnScope ["number","many"] ["number","many"] (J3 ES):=⟨rfl,rfl,rfl,by decide +kernel,rfl,by decide +kernel,by decide +kernel⟩
noncomputable def J5y:DSp:=fun ds P _=>∃ v m:Int,ds=[.int v,.int m]/\P (.int (EW v m))
theorem MD {w:World} {f:Addr} (F:Fun K "nearest_place" "nearest_place" ES f fd) (Z:Bi mg) {c:Cs} (Y:Ex K mg base c):FnOk P w K mg base CX0 1 f fd ["number","many"] (Q3 K BT J5y):=by
 refine F.okD LR (fun ds PP Ed h=>?_) (fun cdv A outer s H E M bg ds PP Ed hr hS_=>?_)
 · obtain ⟨v,m,rfl,hP⟩:=h
   rfl
 · obtain ⟨v,m,rfl,hP⟩:=hS_
   refine ⟨_,(Q4 (V6 (V9 (GS (by rfl)) NA rfl Z.min_ PM (J0 (V9 (MO (by rfl)) NA rfl Z.max_ XO (J0 (jdv 0) (J0 J1 J4))) (J0 (J9 AG Z4 (jdv 1) J1) J4))))),?_⟩
   walk_at "g"
   exact hP
abbrev LX:Stmt:=top 47
theorem CI:FnScope ["coat","face","dot","tops","whole","rows","u","v","row"] ["coat","face","dot"] (J3 LX):=⟨rfl,rfl,rfl,by decide +kernel,rfl,by decide +kernel,by decide +kernel⟩
theorem UF {rows:List (List Col)}{u v:Int}(h1:1<=rows.length)(h2:∀ r∈rows,1<=r.length):∃ (row:List Col) (k:Col),rows[(EW v rows.length).toNat]?=some row/\row[(EW u row.length).toNat]?=some k/\J0e rows u v=k.d/\row∈rows/\k∈row:=by
 have a:=GN (v:=v) (m:=rows.length) (by omega)
 have e1:rows[(EW v rows.length).toNat]?=some rows[(EW v rows.length).toNat]:=List.getElem?_eq_getElem (by omega)
 generalize rows[(EW v rows.length).toNat]=row at e1
 have m1:=List.mem_of_getElem? e1
 have b:=GN (v:=u) (m:=row.length) (by have:=h2 row m1;omega)
 have e2:row[(EW u row.length).toNat]?=some row[(EW u row.length).toNat]:=List.getElem?_eq_getElem (by omega)
 generalize row[(EW u row.length).toNat]=k at e2
 refine ⟨row,k,e1,e2,?_,m1,List.mem_of_getElem? e2⟩
 unfold J0e
 rw [e1]
 dsimp only
 rw [e2]
noncomputable def J6i (c:Cs):DSp:=fun ds P Ed=>∃ (ct:Ct) (t:T3) (px py:Int),ds=[ct.d,t.d,t2 px py]/\ct.ok/\t.ok 60/\t.pos/\Bd 60 px/\Bd 60 py/\(¬ t.has px py->Ed c.NoFace)/\(t.has px py->P (ct.at t px py))
theorem WU {w:World} {f:Addr} (F:Fun K "coat_at" "coat_at" LX f fd) (Z:Bi mg) {c:Cs} (Y:Ex K mg base c) (g0:Callee P w K mg base (CX1 P w base) "share_tops" 5 ["face","dot"] (Q3 K BT (J5w c))) (g1:Callee P w K mg base CX0 "turn" 2 ["face"] (Q3 K BT XS)) (g2:Callee P w K mg base CX0 "blended" 2 ["told","tops","whole"] (Q3 K BT ZO)) (g3:Callee P w K mg base CX0 "nearest_place" 1 ["number","many"] (Q3 K BT J5y)):FnOk P w K mg base (CX1 P w base) 6 f fd ["coat","face","dot"] (Q3 K BT (J6i c)):=by
 refine F.okDX CI (fun ds PP Ed h=>?_) (fun cdv A outer s H E M bg ds PP Ed hr hE hS_=>?_)
 · obtain ⟨ct,t,px,py,rfl,co,ok,pos,hx,hy,h0,h1⟩:=h
   rfl
 · obtain ⟨ct,t,px,py,rfl,co,ok,pos,hx,hy,h0,h1⟩:=hS_
   refine ⟨_,(J8 (Y0 (i:=3) CI.nd rfl (by walk_at "o") (IN hE XW g0 hr.m rfl (J0 (jdv 1) (J0 (jdv 2) J4))))
    (J8 (Y0 (i:=4) CI.nd rfl (by walk_at "o") (Q7 g1 hr.m rfl (J0 (jdv 1) J4)))
    (J8 (CN (AB DK CB (Q5 (Q0 K (by rfl)) V1 (jdv 0) J1 (fun _ _=>rfl)) FC (Y2 _)) (Q4 (V6 (Q5 (Q0 K (by rfl)) V1 (jdv 0) J1 (fun _ _=>rfl)))) AT)
    (J8 (CN (AB DK CB (Q5 (Q0 K (by rfl)) V1 (jdv 0) J1 (fun _ _=>rfl)) FC (Y2 _)) (Q4 (V6 (AH (BD K (by rfl)) ER rfl Z.tuple_ DP (J0 (Q7 g2 hr.m rfl (J0 (EJ (JJ K (by rfl)) (jdv 0) (FN J1) FP) (J0 (jdv 3) (J0 (jdv 4) J4)))) J4)))) AT)
    (J8 (Y0 (i:=5) CI.nd rfl (by walk_at "o") (Q5 (Q0 K (by rfl)) V1 (jdv 0) J1 (fun _ _=>rfl)))
    (J8 (EE (AW [6,7]) (Q7 g2 hr.m rfl (J0 (EJ (JJ K (by rfl)) (jdv 0) (FN J1) FP) (J0 (jdv 3) (J0 (jdv 4) J4)))) (PG.or (Z8 (n:=2) K (by rfl) (by rfl) (J5 (pg_name (i:=6) CI.nd rfl (by walk_at "o")) (J5 (pg_name (i:=7) CI.nd rfl (by walk_at "o")) V3))) (Z9 (n:=2) K (by rfl) (by rfl) (J5 (pg_name (i:=6) CI.nd rfl (by walk_at "o")) (J5 (pg_name (i:=7) CI.nd rfl (by walk_at "o")) V3)))))
    (J8 (Y0 (i:=8) CI.nd rfl (by walk_at "o") (Q5 (Q0 K (by rfl)) V1 (jdv 5) (Q7 g3 hr.m rfl (J0 (jdv 7) (J0 (V9 (AL K (by rfl)) HP rfl Z.len_ GI (J0 (jdv 5) J4)) J4))) (fun _ _=>rfl)))
    (Q4 (V6 (Q5 (Q0 K (by rfl)) V1 (jdv 8) (Q7 g3 hr.m rfl (J0 (jdv 6) (J0 (V9 (AL K (by rfl)) HP rfl Z.len_ GI (J0 (jdv 8) J4)) J4))) (fun _ _=>rfl))))))))))),?_⟩
   walk_at "g"
   refine ⟨t,px,py,60,rfl,ok,hx,hy,by decide,by decide,h0,fun hh=>?_⟩
   have hP:=h1 hh
   have h0':=T3.has_tn pos hh
   walk_at "g"
   refine ⟨t,60,rfl,ok,by decide,?_⟩
   cases ct with
   | pl k =>
     walk_at "g"
     exact hP
   | wv k1 k2 k3 =>
     walk_at "g"
     refine And.intro (by intro h;simp [HT.sIx] at h;done) ?_
     walk_at "g"
     refine ⟨t,px,py,_,_,ok,hx,hy,h0',.col k1 k2 k3 co,rfl,?_⟩
     walk_at "g"
     exact hP
   | pc rows p q r =>
     obtain ⟨⟨l1,l2⟩,hr,hb⟩:=co
     obtain ⟨row,k,e1,e2,e3,m1,m2⟩:=UF (u:=t.mix px py p.1 q.1 r.1) (v:=t.mix px py p.2 q.2 r.2) l1 fun r hr'=>(hr r hr').1.1
     change PP (J0e _ _ _) at hP
     rw [e3] at hP
     have a1:=GN (v:=t.mix px py p.2 q.2 r.2) (m:=rows.length) (by omega)
     have a2:=GN (v:=t.mix px py p.1 q.1 r.1) (m:=row.length) (by have:=(hr row m1).1.1;omega)
     walk_at "g"
     refine And.intro (by intro h;simp [HT.sIx] at h;done) ?_
     walk_at "g"
     refine ⟨t,px,py,_,_,ok,hx,hy,h0',.pl p q r hb,rfl,?_⟩
     generalize t.mix px py p.1 q.1 r.1=u at e2 a2 ⊢
     generalize t.mix px py p.2 q.2 r.2=v at e1 a1 ⊢
     walk_at "g"
     refine ⟨_,_,rfl,?_⟩
     rw [List.length_map]
     refine ixq a1.1 (d:=.lst (row.map Col.d)) (by rw [List.getElem?_map,e1];rfl) ?_
     walk_at "g"
     refine ⟨_,_,rfl,?_⟩
     rw [List.length_map]
     refine ixq a2.1 (d:=k.d) (by rw [List.getElem?_map,e2];rfl) ?_
     exact hP
abbrev CT:Stmt:=top 54
theorem AM:FnScope ["things","dot","depths","sheets","face","coat","cover","depth","place"] ["things","dot"] (J3 CT):=⟨rfl,rfl,rfl,by decide +kernel,rfl,by decide +kernel,by decide +kernel⟩
structure Thg where
 (t:T3) (ct:Ct) (cv:Int)
def Thg.d (x:Thg):D:=.tup [x.t.d,x.ct.d,.int x.cv]
structure Thg.ok (x:Thg):Prop where
 t:x.t.ok 60
 p:x.t.pos
 c:x.ct.ok
 v:0<=x.cv/\x.cv<=8
abbrev DSh:=(Int×Int)×D
def Thg.dp (x:Thg)(px py:Int):Int×Int:=(x.t.top px py*sgn x.t.tn,PN x.t.tn)
def Thg.sh (x:Thg)(px py:Int):D:=.tup [x.ct.at x.t px py,.int x.cv]
def WY (p:Int×Int)(o:DSh):Bool:=!decide (p.1*o.1.2<o.1.1*p.2)
def WI (p:Int×Int)(L:List DSh):Nat:=(L.filter (WY p)).length
def J0s (p:Int×Int)(s:D)(L:List DSh):List DSh:=L.take (WI p L)++(p,s)::L.drop (WI p L)
def KH (px py:Int)(L:List DSh)(x:Thg):List DSh:=if x.t.has px py then J0s (x.dp px py) (x.sh px py) L else L
def shN (px py:Int)(xs:List Thg):Nat->List DSh
 | 0=>[]
 | i+1=>match xs[i]? with|some x=>KH px py (shN px py xs i) x|none=>shN px py xs i
theorem TY {px py:Int}{xs:List Thg}{i:Nat}{x:Thg}(e:xs[i]?=some x):shN px py xs (i+1)=KH px py (shN px py xs i) x:=by
 show (match xs[i]? with|some x=>KH px py (shN px py xs i) x|none=>shN px py xs i)=_
 rw [e]
theorem RW (p:Int×Int)(L:List DSh):WI p L<=L.length:=List.length_filter_le _ _
theorem J3p (p:Int×Int)(s:D)(L:List DSh):(J0s p s L).length=L.length+1:=by
 unfold J0s
 have:=RW p L
 rw [List.length_append,List.length_take,List.length_cons,List.length_drop]
 omega
theorem OW {β:Type}(f:DSh->β)(p:Int×Int)(s:D)(L:List DSh):(J0s p s L).map f=(L.map f).take (WI p L)++f (p,s)::(L.map f).drop (WI p L):=by
 unfold J0s
 rw [List.map_append,List.map_take,List.map_cons,List.map_drop]
theorem KI (px py:Int)(xs:List Thg):∀ i,(shN px py xs i).length<=i
 | 0=>Nat.le_refl _
 | i+1=>by
   have ih:=KI px py xs i
   show (match xs[i]? with|some x=>KH px py (shN px py xs i) x|none=>shN px py xs i).length<=_
   split
   · unfold KH
     split
     · rw [J3p];omega
     · omega
   · omega
theorem KJ {px py:Int}{xs:List Thg}{q:DSh->Prop}(h:∀ x∈xs,x.t.has px py->q (x.dp px py,x.sh px py)):∀ i,∀ o∈shN px py xs i,q o
 | 0,o,ho=>by cases ho
 | i+1,o,ho=>by
   have ih:=KJ h i
   revert ho
   show o∈(match xs[i]? with|some x=>KH px py (shN px py xs i) x|none=>shN px py xs i)->_
   split
   case h_1 x e =>
    unfold KH
    split
    case isTrue hh =>
     intro ho
     unfold J0s at ho
     rcases List.mem_append.mp ho with z|z
     · exact ih o (List.mem_of_mem_take z)
     · rcases List.mem_cons.mp z with z|z
       · rw [z];exact h x (List.mem_of_getElem? e) hh
       · exact ih o (List.mem_of_mem_drop z)
    case isFalse=>exact ih o
   case h_2=>exact ih o
theorem Thg.dp_bd {x:Thg}{px py:Int}(ok:x.t.ok 60)(hx:Bd 60 px)(hy:Bd 60 py):Bd 300 (x.dp px py).1/\Bd 300 (x.dp px py).2:=⟨(Bd.mul (T3.top_bd ok hx hy (by decide)) (sgn_bd _)).mono (by decide),(J9l (T3.tn_bd ok)).mono (by decide)⟩
theorem KF {α:Type}{ts:List α}{i:Nat}{t:α}(e:ts[i]?=some t)(q:α->Bool):((ts.take (i+1)).filter q).length=((ts.take i).filter q).length+(if q t then 1 else 0):=by
 have hi:=(List.getElem?_eq_some_iff.mp e).1
 rw [List.take_succ,e,List.filter_append,List.length_append]
 congr 1
 show ([t].filter q).length=_
 cases h:q t<;>simp [h]
theorem ct_plain {ct:Ct}{t:T3}{px py:Int}(co:ct.ok):plain (ct.at t px py)=true:=by
 cases ct with
 | pl k=>rfl
 | wv a b k=>rfl
 | pc rows p q r =>
   obtain ⟨row,k,e1,e2,e3,m1,m2⟩:=UF (u:=t.mix px py p.1 q.1 r.1) (v:=t.mix px py p.2 q.2 r.2) co.1.1 fun r hr'=>(co.2.1 r hr').1.1
   show plain (J0e _ _ _)=true
   rw [e3]
   rfl
theorem ok2 {d:D}{i:Int}(h:plain d=true):EI [d,.int i]=true:=by unfold EI;simp [h];rfl
def dpD (o:DSh):D:=t2 o.1.1 o.1.2
def J6r (px py:Int)(xs:List Thg):List DSh:=shN px py xs xs.length
noncomputable def VM:DSO:=fun ds P _=>∃ (xs:List Thg) (px py:Int),ds=[.lst (xs.map Thg.d),t2 px py]/\(∀ x∈xs,x.ok)/\xs.length<=30/\Bd 60 px/\Bd 60 py/\P ((J6r px py xs).map (·.2))
theorem SC {w:World} {f:Addr} (F:Fun K "sheets_at" "sheets_at" CT f fd) (Z:Bi mg) {c:Cs} (Y:Ex K mg base c) (g0:Callee P w K mg base CX0 "has_dot" 4 ["face","dot"] (Q3 K BT PV)) (g1:Callee P w K mg base (CX1 P w base) "unreduced_depth" 4 ["face","dot"] (Q3 K BT (Q7t c))) (g2:Callee P w K mg base (CX1 P w base) "coat_at" 6 ["coat","face","dot"] (Q3 K BT (J6i c))) (g3:Callee P w K mg base CX0 "is_less" 1 ["one","other"] (Q3 K BT J6a)):FnOk P w K mg base CX0 7 f fd ["things","dot"] (DR K BT VM):=by
 refine F.okDO AM (fun ds PP Ed h=>?_) (fun cdv A outer s H E M bg ds PP Ed hr hS_=>?_)
 · obtain ⟨xs,px,py,rfl,hxs,hl,hx,hy,hP⟩:=h
   rfl
 · obtain ⟨xs,px,py,rfl,hxs,hl,hx,hy,hP⟩:=hS_
   refine ⟨_,(J8 (LC (i:=2) AM.nd rfl (by walk_at "o") J4)
    (J8 (LC (i:=3) AM.nd rfl (by walk_at "o") J4)
    (J8 (FA (AW [4,5,6]) PassesOwn.never rfl (AZ (by rfl) (jdv 0)) (PG.or (Z8 (n:=3) K (by rfl) (by rfl) (J5 (pg_name (i:=4) AM.nd rfl (by walk_at "o")) (J5 (pg_name (i:=5) AM.nd rfl (by walk_at "o")) (J5 (pg_name (i:=6) AM.nd rfl (by walk_at "o")) V3)))) (Z9 (n:=3) K (by rfl) (by rfl) (J5 (pg_name (i:=4) AM.nd rfl (by walk_at "o")) (J5 (pg_name (i:=5) AM.nd rfl (by walk_at "o")) (J5 (pg_name (i:=6) AM.nd rfl (by walk_at "o")) V3))))) (Q4 (CN (DI (by rfl) (Q7 g0 hr.m rfl (J0 (jdv 4) (J0 (jdv 1) J4))) (fun _=>rfl)) (J8 (Y0 (i:=7) AM.nd rfl (by walk_at "o") (IN ML OD g1 hr.m rfl (J0 (jdv 4) (J0 (jdv 1) J4))))
    (J8 (Y0 (i:=8) AM.nd rfl (by walk_at "o") (V9 (AL K (by rfl)) HP rfl Z.len_ GI (J0 (Z6 (X:=(V4 CX0 P w K mg base ["things","dot","depths","sheets","face","coat","cover","depth","place"] "sheets_at" (J3 CT) f cdv A outer s H E).nox) (Y8 0) (ET (X:=(V4 CX0 P w K mg base ["things","dot","depths","sheets","face","coat","cover","depth","place"] "sheets_at" (J3 CT) f cdv A outer s H E).nox) (N':=["other","depth"]) (map:=[none,some 7]) (by rfl) (by rfl) (by decide +kernel) (by rfl) ⟨⟨rfl,rfl,rfl,by walk_at "o"⟩,True.intro⟩ (gkeep_name rfl) fun cl0 C0 fp0 s0 H0=>⟨(pg_name (X:=(Q9 (V4 CX0 P w K mg base ["things","dot","depths","sheets","face","coat","cover","depth","place"] "sheets_at" (J3 CT) f cdv A outer s H E).nox ["other","depth"] _ cl0 C0 fp0 s0 H0)) (i:=0) (Y1 ["other","depth"] (by decide +kernel)) rfl (by walk_at "o")),(UW (IZ (DI (by rfl) (Q7 g3 hr.m rfl (J0 (jdv 1) (J0 (jdv 0) J4))) (fun _=>rfl)))),(jdv (X:=(Q9 (V4 CX0 P w K mg base ["things","dot","depths","sheets","face","coat","cover","depth","place"] "sheets_at" (J3 CT) f cdv A outer s H E).nox ["other","depth"] _ cl0 C0 fp0 s0 H0)) 0)⟩) (AZ (by rfl) (jdv 2))) J4)))
    (J8 (JU (i:=2) (by rfl) (J0 (jdv 8) (J0 (jdv 7) J4)) (HU PySem.F.plainAttrs_list PySem.F.slot_list_insert PySem.F.type_list_insert ME (pv 2) (JA.h (J0 (jdv 8) (J0 (jdv 7) J4)))))
    (Q4 (JU (i:=3) (by rfl) (J0 (jdv 8) (J0 (Y7 (J0 (IN ML OD g2 hr.m rfl (J0 (jdv 5) (J0 (jdv 4) (J0 (jdv 1) J4)))) (J0 (jdv 6) J4))) J4)) (HU PySem.F.plainAttrs_list PySem.F.slot_list_insert PySem.F.type_list_insert ME (pv 3) (JA.h (J0 (jdv 8) (J0 (Y7 (J0 (IN ML OD g2 hr.m rfl (J0 (jdv 5) (J0 (jdv 4) (J0 (jdv 1) J4)))) (J0 (jdv 6) J4))) J4))))))))) AT)))
    (Q4 (UU (jdv 3)))))),?_⟩
   walk_at "g"
   refine ⟨fun i ρ=>∃ v4 v5 v6 v7 v8,ρ=[some (.lst (xs.map Thg.d)),some (t2 px py),some (.own ((shN px py xs i).map dpD)),some (.own ((shN px py xs i).map (·.2))),v4,v5,v6,v7,v8],⟨_,_,_,_,_,rfl⟩,?_,?_⟩
   · rintro i x ρ e ⟨v4,v5,v6,v7,v8,rfl⟩
     rw [List.getElem?_map] at e
     obtain ⟨x,ex,rfl⟩:=Option.map_eq_some_iff.mp e
     have ok:=hxs x (List.mem_of_getElem? ex)
     obtain ⟨cs,ecs⟩:∃ cs,x.ct.d=.tup cs:=by cases x.ct<;>exact ⟨_,rfl⟩
     have hi:=(List.getElem?_eq_some_iff.mp ex).1
     have hlen:=KI px py xs i
     have hb:=KJ (px:=px) (py:=py) (xs:=xs) (q:=fun o=>Bd 300 o.1.1/\Bd 300 o.1.2) (fun x hx' _=>Thg.dp_bd (hxs x hx').t hx hy) i
     rw [show x.d=.tup [x.t.d,.tup cs,.int x.cv] from by unfold Thg.d;rw [ecs]]
     rw [TY ex]
     clear e
     generalize shN px py xs i=L at hlen hb ⊢
     unfold KH
     walk_at "g"
     refine ⟨x.t,px,py,60,rfl,ok.t,hx,hy,by decide,?_⟩
     by_cases hh:x.t.has px py
     · have t0:=T3.has_tn ok.p hh
       rw [if_pos hh]
       refine IfP.t (by simp [hh]) ?_
       walk_at "g"
       refine ⟨x.t,px,py,60,rfl,ok.t,hx,hy,by decide,by decide,fun z=>absurd z t0,fun _=>?_⟩
       walk_at "g"
       refine And.intro (by rw [List.length_map];omega) ?_
       refine ⟨fun j acc=>acc.length=((L.take j).filter (WY (x.dp px py))).length,rfl,fun j y acc e hacc=>?_,fun acc hacc=>?_⟩
       · rw [List.getElem?_map] at e
         obtain ⟨o,eo,rfl⟩:=Option.map_eq_some_iff.mp e
         have tf:=KF eo (WY (x.dp px py))
         walk_at "g"
         refine ⟨_,_,_,_,rfl,⟨(Thg.dp_bd ok.t hx hy).1.mono (by decide),(Thg.dp_bd ok.t hx hy).2.mono (by decide)⟩,⟨(hb o (List.mem_of_getElem? eo)).1.mono (by decide),(hb o (List.mem_of_getElem? eo)).2.mono (by decide)⟩,?_⟩
         have eq:WY (x.dp px py) o = !decide (x.t.top px py*sgn x.t.tn*o.1.2<o.1.1*PN x.t.tn):=rfl
         rw [eq] at tf
         by_cases hq:x.t.top px py*sgn x.t.tn*o.1.2<o.1.1*PN x.t.tn
         · refine IfP.f (by simp [hq]) ?_
           walk_at "g"
           rw [hacc,tf];simp [hq]
         · refine IfP.t (by simp [hq]) ?_
           walk_at "g"
           rw [List.length_append,hacc,tf];simp [hq]
       · rw [List.length_map,List.take_length] at hacc
         have hacc:acc.length=WI (x.dp px py) L:=hacc
         have hpl:=RW (x.dp px py) L
         walk_at "g"
         refine And.intro ⟨rfl,by omega,by rw [List.length_map];omega,by rw [List.length_map];omega⟩ ?_
         walk_at "g"
         refine ⟨x.ct,x.t,px,py,by rw [ecs],ok.c,ok.t,ok.p,hx,hy,fun z=>absurd hh z,fun _=>?_⟩
         walk_at "g"
         refine And.intro (ok2 (ct_plain ok.c)) ?_
         walk_at "g"
         refine And.intro ⟨rfl,by omega,by rw [List.length_map];omega,by rw [List.length_map];omega⟩ ?_
         rw [Int.toNat_natCast,hacc,OW,OW]
         exact ⟨_,_,_,_,_,rfl⟩
     · rw [if_neg hh]
       refine IfP.f (by simp [hh]) ?_
       walk_at "g"
       exact ⟨_,_,_,_,_,rfl⟩
   · rintro ρ ⟨v4,v5,v6,v7,v8,rfl⟩
     rw [List.length_map]
     walk_at "g"
     exact hP
abbrev GA:Stmt:=top 59
theorem DZ:FnScope ["_law_one","_law_other"] ["_law_one","_law_other"] (J3 GA):=⟨rfl,rfl,rfl,by decide +kernel,rfl,by decide +kernel,by decide +kernel⟩
theorem J3u {a b:Int}(hb:0<b):Int.gcd b (a % b)=Int.gcd a b:=by
 have:=UY (a:=a) (b:=b)
 rw [Int.fmod_eq_emod_of_nonneg a (by omega)] at this
 exact this
theorem J8b (a b:Int):Int.gcd (if a<0 then -a else a) (if b<0 then -b else b)=Int.gcd a b:=by
 by_cases h1:a<0<;>by_cases h2:b<0<;>simp [h1,h2,Int.gcd]
theorem OM {w:World} {f:Addr} (F:Fun K "_law_shared" "_law_shared" GA f fd) (Z:Bi mg) {c:Cs} (Y:Ex K mg base c):FnOk P w K mg base CX0 1 f fd ["_law_one","_law_other"] (Q3 K BT VQ):=by
 refine F.okD DZ (fun ds PP Ed h=>?_) (fun cdv A outer s H E M bg ds PP Ed hr hS_=>?_)
 · obtain ⟨x,y,rfl,hP⟩:=h
   rfl
 · obtain ⟨x,y,rfl,hP⟩:=hS_
   refine ⟨_,(J8 (Y0 (i:=0) DZ.nd rfl (by walk_at "o") (V9 GT XN rfl Z.abs_ MP (J0 (jdv 0) J4)))
    (J8 (Y0 (i:=1) DZ.nd rfl (by walk_at "o") (V9 GT XN rfl Z.abs_ MP (J0 (jdv 1) J4)))
    (J8 (J0m PassesOwn.never (AB UG HV (jdv 1) J1 (Y2 _)) (Q4 (JS.mk ((J2j (i:=0) (j:=1) rfl DZ.nd rfl rfl (by decide) rfl rfl (JA.h (J0 (jdv 1) (J0 (J9 II Y6 (jdv 0) (jdv 1)) J4))) rfl).mono Q0t))))
    (Q4 (V6 (jdv 0)))))),?_⟩
   rw [<- J8b] at hP
   have hx:0<=(if x<0 then -x else x):=by split<;>omega
   have hy:0<=(if y<0 then -y else y):=by split<;>omega
   walk_at "g"
   generalize (if x<0 then -x else x)=u at hx hP ⊢
   generalize (if y<0 then -y else y)=v at hy hP ⊢
   refine ⟨fun m ρ=>∃ a b:Int,ρ=[some (.int a),some (.int b)]/\0<=a/\0<=b/\b.toNat=m/\Int.gcd a b=Int.gcd u v,v.toNat,⟨u,v,rfl,hx,hy,rfl,rfl⟩,?_⟩
   rintro m ρ ⟨a,b,rfl,ha,hb,hm,hg⟩
   walk_at "g"
   by_cases h:0<b
   · refine IfP.t (by simp [h]) ?_
     walk_at "g"
     refine And.intro h ?_
     walk_at "g"
     have h1:=Int.emod_nonneg a (show b≠0 by omega)
     have h2:=Int.emod_lt_of_pos a h
     exact ⟨(a % b).toNat,by omega,b,a % b,rfl,hb,h1,rfl,by rw [J3u h];exact hg⟩
   · refine IfP.f (by simp [h]) ?_
     have hb0:b=0:=by omega
     subst hb0
     walk_at "g"
     rw [<- hg,Int.gcd_zero_right] at hP
     rw [Int.natAbs_of_nonneg ha] at hP
     exact hP
abbrev IG:Stmt:=top 60
theorem AX:FnScope ["_law_numbers","_law_x","_law_y","_law_z","_law_w","_law_common"] ["_law_numbers"] (J3 IG):=⟨rfl,rfl,rfl,by decide +kernel,rfl,by decide +kernel,by decide +kernel⟩
theorem J3v {x y z w:Int}(h:0<w):0<(Int.gcd (Int.gcd x y:Int) (Int.gcd z w:Int):Int)/\(Int.gcd (Int.gcd x y:Int) (Int.gcd z w:Int):Int)<=w:=by
 have h1:0<Int.gcd z w:=Nat.pos_of_ne_zero fun e=>by have:=(Int.gcd_eq_zero_iff.mp e).2;omega
 have h2:0<Int.gcd (Int.gcd x y:Int) (Int.gcd z w:Int):=Nat.pos_of_ne_zero fun e=>by have:=(Int.gcd_eq_zero_iff.mp e).2;omega
 have d1:(Int.gcd (Int.gcd x y:Int) (Int.gcd z w:Int):Int) ∣ (Int.gcd z w:Int):=Int.gcd_dvd_right ..
 have d2:(Int.gcd z w:Int) ∣ w:=Int.gcd_dvd_right ..
 exact ⟨by omega,Int.le_of_dvd h (Int.dvd_trans d1 d2)⟩
noncomputable def PR:DSp:=fun ds P _=>∃ (x y z w:Int) (n:Nat),ds=[sp4 x y z w]/\0<w/\(Bd n x/\Bd n y/\Bd n z/\Bd n w)/\n<=2000/\∀ x' y' z' w':Int,(Bd n x'/\Bd n y'/\Bd n z'/\Bd n w')->0<w'->(∃ k:Int,0<k/\w=k*w'/\x'=x / k/\y'=y / k)->P (sp4 x' y' z' w')
theorem SG {w:World} {f:Addr} (F:Fun K "_law_spot" "_law_spot" IG f fd) (Z:Bi mg) {c:Cs} (Y:Ex K mg base c) (g0:Callee P w K mg base CX0 "_law_shared" 1 ["_law_one","_law_other"] (Q3 K BT VQ)):FnOk P w K mg base CX0 2 f fd ["_law_numbers"] (Q3 K BT PR):=by
 refine F.okD AX (fun ds PP Ed h=>?_) (fun cdv A outer s H E M bg ds PP Ed hr hS_=>?_)
 · obtain ⟨x,y,z,w',n,rfl,h0,⟨h1,h2,h3,h4⟩,hn,hP⟩:=h
   rfl
 · obtain ⟨x,y,z,w',n,rfl,h0,⟨h1,h2,h3,h4⟩,hn,hP⟩:=hS_
   refine ⟨_,(J8 (EE (AW [1,2,3,4]) (jdv 0) (PG.or (Z8 (n:=4) K (by rfl) (by rfl) (J5 (pg_name (i:=1) AX.nd rfl (by walk_at "o")) (J5 (pg_name (i:=2) AX.nd rfl (by walk_at "o")) (J5 (pg_name (i:=3) AX.nd rfl (by walk_at "o")) (J5 (pg_name (i:=4) AX.nd rfl (by walk_at "o")) V3))))) (Z9 (n:=4) K (by rfl) (by rfl) (J5 (pg_name (i:=1) AX.nd rfl (by walk_at "o")) (J5 (pg_name (i:=2) AX.nd rfl (by walk_at "o")) (J5 (pg_name (i:=3) AX.nd rfl (by walk_at "o")) (J5 (pg_name (i:=4) AX.nd rfl (by walk_at "o")) V3)))))))
    (J8 (Y0 (i:=5) AX.nd rfl (by walk_at "o") (Q7 g0 hr.m rfl (J0 (Q7 g0 hr.m rfl (J0 (jdv 1) (J0 (jdv 2) J4))) (J0 (Q7 g0 hr.m rfl (J0 (jdv 3) (J0 (jdv 4) J4))) J4))))
    (Q4 (V6 (Y7 (J0 (J9 CY Y6 (jdv 1) (jdv 5)) (J0 (J9 CY Y6 (jdv 2) (jdv 5)) (J0 (J9 CY Y6 (jdv 3) (jdv 5)) (J0 (J9 CY Y6 (jdv 4) (jdv 5)) J4))))))))),?_⟩
   obtain ⟨g0,g1⟩:=J3v (x:=x) (y:=y) (z:=z) h0
   have dw:(Int.gcd (Int.gcd x y:Int) (Int.gcd z w':Int):Int) ∣ w':=Int.dvd_trans (Int.gcd_dvd_right ..) (Int.gcd_dvd_right ..)
   walk_at "g"
   refine ⟨_,_,rfl,?_⟩
   walk_at "g"
   refine ⟨_,_,rfl,?_⟩
   walk_at "g"
   refine ⟨_,_,rfl,?_⟩
   generalize (Int.gcd (Int.gcd x y:Int) (Int.gcd z w':Int):Int)=q at g0 g1 dw ⊢
   have bq:Bd n q:=by have:=h4.lt;exact Bd.of (by omega) (by omega)
   walk_at "g"
   refine And.intro ⟨g0,n,bq,by omega⟩ ?_
   walk_at "g"
   refine And.intro ⟨g0,n,bq,by omega⟩ ?_
   walk_at "g"
   refine And.intro ⟨g0,n,bq,by omega⟩ ?_
   walk_at "g"
   refine And.intro ⟨g0,n,bq,by omega⟩ ?_
   walk_at "g"
   refine hP _ _ _ _ ⟨h1.ediv g0,h2.ediv g0,h3.ediv g0,h4.ediv g0⟩ ?_ ⟨q,g0,(Int.mul_ediv_cancel' dw).symm,rfl,rfl⟩
   obtain ⟨k,rfl⟩:=dw
   rw [Int.mul_ediv_cancel_left _ (by omega)]
   rcases Int.lt_or_le 0 k with z|z
   · exact z
   · have:=Int.mul_nonpos_of_nonneg_of_nonpos (Int.le_of_lt g0) z;omega
abbrev IH:Stmt:=top 63
theorem DC:FnScope ["_law_a","_law_b","_law_dot","_law_x","_law_y","_law_first"] ["_law_a","_law_b","_law_dot"] (J3 IH):=⟨rfl,rfl,rfl,by decide +kernel,rfl,by decide +kernel,by decide +kernel⟩
noncomputable def TR:DSp:=fun ds P _=>∃ (ax ay az aw bx b_y bz bw px py:Int),ds=[sp4 ax ay az aw,sp4 bx b_y bz bw,t2 px py]/\(Bd 600 ax/\Bd 600 ay/\Bd 600 aw)/\(Bd 600 bx/\Bd 600 b_y/\Bd 600 bw)/\(Bd 600 px/\Bd 600 py)/\P (.int (det ax ay aw bx b_y bw px py 1))
theorem J7n (ax ay aw bx b_y bw px py:Int):ax*(b_y - bw*py) - ay*(bx - bw*px)+aw*(bx*py - b_y*px)=det ax ay aw bx b_y bw px py 1:=by unfold det;grind
theorem SI {w:World} {f:Addr} (F:Fun K "_law_lean" "_law_lean" IH f fd) (Z:Bi mg) {c:Cs} (Y:Ex K mg base c):FnOk P w K mg base CX0 1 f fd ["_law_a","_law_b","_law_dot"] (Q3 K BT TR):=by
 refine F.okD DC (fun ds PP Ed h=>?_) (fun cdv A outer s H E M bg ds PP Ed hr hS_=>?_)
 · obtain ⟨ax,ay,az,aw,bx,b_y,bz,bw,px,py,rfl,⟨p0,p1,p2⟩,⟨q0,q1,q2⟩,⟨r0,r1⟩,hP⟩:=h
   rfl
 · obtain ⟨ax,ay,az,aw,bx,b_y,bz,bw,px,py,rfl,⟨p0,p1,p2⟩,⟨q0,q1,q2⟩,⟨r0,r1⟩,hP⟩:=hS_
   refine ⟨_,(J8 (EE (AW [3,4]) (jdv 2) (PG.or (Z8 (n:=2) K (by rfl) (by rfl) (J5 (pg_name (i:=3) DC.nd rfl (by walk_at "o")) (J5 (pg_name (i:=4) DC.nd rfl (by walk_at "o")) V3))) (Z9 (n:=2) K (by rfl) (by rfl) (J5 (pg_name (i:=3) DC.nd rfl (by walk_at "o")) (J5 (pg_name (i:=4) DC.nd rfl (by walk_at "o")) V3)))))
    (J8 (Y0 (i:=5) DC.nd rfl (by walk_at "o") (J9 AG Z4 (J9 Q8 Y6 (Q5 (Q0 K (by rfl)) V1 (jdv 0) J1 (fun _ _=>rfl)) (J9 AG Z4 (Q5 (Q0 K (by rfl)) V1 (jdv 1) J1 (fun _ _=>rfl)) (J9 Q8 Y6 (Q5 (Q0 K (by rfl)) V1 (jdv 1) J1 (fun _ _=>rfl)) (jdv 4)))) (J9 Q8 Y6 (Q5 (Q0 K (by rfl)) V1 (jdv 0) J1 (fun _ _=>rfl)) (J9 AG Z4 (Q5 (Q0 K (by rfl)) V1 (jdv 1) J1 (fun _ _=>rfl)) (J9 Q8 Y6 (Q5 (Q0 K (by rfl)) V1 (jdv 1) J1 (fun _ _=>rfl)) (jdv 3))))))
    (Q4 (V6 (J9 BB Z4 (jdv 5) (J9 Q8 Y6 (Q5 (Q0 K (by rfl)) V1 (jdv 0) J1 (fun _ _=>rfl)) (J9 AG Z4 (J9 Q8 Y6 (Q5 (Q0 K (by rfl)) V1 (jdv 1) J1 (fun _ _=>rfl)) (jdv 4)) (J9 Q8 Y6 (Q5 (Q0 K (by rfl)) V1 (jdv 1) J1 (fun _ _=>rfl)) (jdv 3))))))))),?_⟩
   rw [<- J7n] at hP
   walk_at "g"
   exact hP
abbrev FL:Stmt:=top 64
theorem HQ:FnScope ["_law_a","_law_b","_law_dot","_law_number"] ["_law_a","_law_b","_law_dot"] (J3 FL):=⟨rfl,rfl,rfl,by decide +kernel,rfl,by decide +kernel,by decide +kernel⟩
noncomputable def J5z:DSp:=fun ds P _=>∃ (ax ay az aw bx b_y bz bw px py:Int),ds=[sp4 ax ay az aw,sp4 bx b_y bz bw,t2 px py]/\(Bd 600 ax/\Bd 600 ay/\Bd 600 aw)/\(Bd 600 bx/\Bd 600 b_y/\Bd 600 bw)/\(Bd 600 px/\Bd 600 py)/\P (.int (sgn (shd ax ay aw bx b_y bw px py)))
theorem VZ {n:Int}:(if decide (0<n)=true then (1:Int) else 0) - (if decide (n<0)=true then 1 else 0)=sgn n:=by
 unfold sgn
 by_cases h1:0<n<;>by_cases h2:n<0<;>simp [h1,h2]<;>omega
theorem NG {w:World} {f:Addr} (F:Fun K "_law_shifted" "_law_shifted" FL f fd) (Z:Bi mg) {c:Cs} (Y:Ex K mg base c) (g0:Callee P w K mg base CX0 "_law_lean" 1 ["_law_a","_law_b","_law_dot"] (Q3 K BT TR)):FnOk P w K mg base CX0 2 f fd ["_law_a","_law_b","_law_dot"] (Q3 K BT J5z):=by
 refine F.okD HQ (fun ds PP Ed h=>?_) (fun cdv A outer s H E M bg ds PP Ed hr hS_=>?_)
 · obtain ⟨ax,ay,az,aw,bx,b_y,bz,bw,px,py,rfl,⟨p0,p1,p2⟩,⟨q0,q1,q2⟩,⟨r0,r1⟩,hP⟩:=h
   rfl
 · obtain ⟨ax,ay,az,aw,bx,b_y,bz,bw,px,py,rfl,⟨p0,p1,p2⟩,⟨q0,q1,q2⟩,⟨r0,r1⟩,hP⟩:=hS_
   refine ⟨_,(J8 (FA (Y8 3) PassesOwn.never rfl (AZ (by rfl) (AS (J0 (Q7 g0 hr.m rfl (J0 (jdv 0) (J0 (jdv 1) (J0 (jdv 2) J4)))) (J0 (J9 AG Z4 (J9 Q8 Y6 (Q5 (Q0 K (by rfl)) V1 (jdv 0) J1 (fun _ _=>rfl)) (Q5 (Q0 K (by rfl)) V1 (jdv 1) J1 (fun _ _=>rfl))) (J9 Q8 Y6 (Q5 (Q0 K (by rfl)) V1 (jdv 0) J1 (fun _ _=>rfl)) (Q5 (Q0 K (by rfl)) V1 (jdv 1) J1 (fun _ _=>rfl)))) (J0 (J9 AG Z4 (J9 Q8 Y6 (Q5 (Q0 K (by rfl)) V1 (jdv 0) J1 (fun _ _=>rfl)) (Q5 (Q0 K (by rfl)) V1 (jdv 1) J1 (fun _ _=>rfl))) (J9 Q8 Y6 (Q5 (Q0 K (by rfl)) V1 (jdv 0) J1 (fun _ _=>rfl)) (Q5 (Q0 K (by rfl)) V1 (jdv 1) J1 (fun _ _=>rfl)))) J4))))) (pg_name (i:=3) HQ.nd rfl (by walk_at "o")) (Q4 (CN (AB J2s J2v (jdv 3) J1 (Y2 _)) (Q4 (V6 (J9 AG Z4 (AH FH LL rfl Z.int_ JZ (J0 (DJ UG HV (jdv 3) J1 (Y2 _)) J4)) (AH FH LL rfl Z.int_ JZ (J0 (DJ OE HV (jdv 3) J1 (Y2 _)) J4))))) AT)) J3w)
    (Q4 (V6 J1))),?_⟩
   unfold shd at hP
   walk_at "g"
   refine ⟨_,_,_,_,_,_,_,_,_,_,rfl,⟨p0,p1,p2⟩,⟨q0,q1,q2⟩,⟨r0,r1⟩,?_⟩
   generalize det ax ay aw bx b_y bw px py 1=dd at hP ⊢
   walk_at "g"
   walk_at "gr"
   by_cases h1:dd=0
   · rw [if_pos h1] at hP
     refine IfP.f (by simp [h1]) ?_
     walk_at "g"
     by_cases h2:ay*bw - aw*b_y=0
     · rw [if_pos h2] at hP
       refine IfP.f (by simp [h2]) ?_
       walk_at "g"
       by_cases h3:aw*bx - ax*bw=0
       · refine IfP.f (by simp [h3]) ?_
         walk_at "g"
         rw [h3] at hP
         exact hP
       · refine IfP.t (by simp [h3]) ?_
         walk_at "g"
         rw [<- VZ] at hP
         exact hP
     · rw [if_neg h2] at hP
       refine IfP.t (by simp [h2]) ?_
       walk_at "g"
       rw [<- VZ] at hP
       exact hP
   · rw [if_neg h1] at hP
     refine IfP.t (by simp [h1]) ?_
     walk_at "g"
     rw [<- VZ] at hP
     exact hP
abbrev IF:Stmt:=top 66
theorem BG:FnScope ["_law_face_here","_law_a","_law_b","_law_c","_law_first","_law_second"] ["_law_face_here"] (J3 IF):=⟨rfl,rfl,rfl,by decide +kernel,rfl,by decide +kernel,by decide +kernel⟩
noncomputable def TQ:DSp:=fun ds P _=>∃ t:T3,ds=[t.d]/\t.ok 60/\P (.int t.tn)
theorem SE {w:World} {f:Addr} (F:Fun K "_law_turn" "_law_turn" IF f fd) (Z:Bi mg) {c:Cs} (Y:Ex K mg base c):FnOk P w K mg base CX0 1 f fd ["_law_face_here"] (Q3 K BT TQ):=by
 refine F.okD BG (fun ds PP Ed h=>?_) (fun cdv A outer s H E M bg ds PP Ed hr hS_=>?_)
 · obtain ⟨t,rfl,ok,hP⟩:=h
   rfl
 · obtain ⟨t,rfl,ok,hP⟩:=hS_
   refine ⟨_,(J8 (EE (AW [1,2,3]) (jdv 0) (PG.or (Z8 (n:=3) K (by rfl) (by rfl) (J5 (pg_name (i:=1) BG.nd rfl (by walk_at "o")) (J5 (pg_name (i:=2) BG.nd rfl (by walk_at "o")) (J5 (pg_name (i:=3) BG.nd rfl (by walk_at "o")) V3)))) (Z9 (n:=3) K (by rfl) (by rfl) (J5 (pg_name (i:=1) BG.nd rfl (by walk_at "o")) (J5 (pg_name (i:=2) BG.nd rfl (by walk_at "o")) (J5 (pg_name (i:=3) BG.nd rfl (by walk_at "o")) V3))))))
    (J8 (Y0 (i:=4) BG.nd rfl (by walk_at "o") (J9 Q8 Y6 (Q5 (Q0 K (by rfl)) V1 (jdv 1) J1 (fun _ _=>rfl)) (J9 AG Z4 (J9 Q8 Y6 (Q5 (Q0 K (by rfl)) V1 (jdv 2) J1 (fun _ _=>rfl)) (Q5 (Q0 K (by rfl)) V1 (jdv 3) J1 (fun _ _=>rfl))) (J9 Q8 Y6 (Q5 (Q0 K (by rfl)) V1 (jdv 2) J1 (fun _ _=>rfl)) (Q5 (Q0 K (by rfl)) V1 (jdv 3) J1 (fun _ _=>rfl))))))
    (J8 (Y0 (i:=5) BG.nd rfl (by walk_at "o") (J9 Q8 Y6 (Q5 (Q0 K (by rfl)) V1 (jdv 1) J1 (fun _ _=>rfl)) (J9 AG Z4 (J9 Q8 Y6 (Q5 (Q0 K (by rfl)) V1 (jdv 2) J1 (fun _ _=>rfl)) (Q5 (Q0 K (by rfl)) V1 (jdv 3) J1 (fun _ _=>rfl))) (J9 Q8 Y6 (Q5 (Q0 K (by rfl)) V1 (jdv 2) J1 (fun _ _=>rfl)) (Q5 (Q0 K (by rfl)) V1 (jdv 3) J1 (fun _ _=>rfl))))))
    (Q4 (V6 (J9 BB Z4 (J9 AG Z4 (jdv 4) (jdv 5)) (J9 Q8 Y6 (Q5 (Q0 K (by rfl)) V1 (jdv 1) J1 (fun _ _=>rfl)) (J9 AG Z4 (J9 Q8 Y6 (Q5 (Q0 K (by rfl)) V1 (jdv 2) J1 (fun _ _=>rfl)) (Q5 (Q0 K (by rfl)) V1 (jdv 3) J1 (fun _ _=>rfl))) (J9 Q8 Y6 (Q5 (Q0 K (by rfl)) V1 (jdv 2) J1 (fun _ _=>rfl)) (Q5 (Q0 K (by rfl)) V1 (jdv 3) J1 (fun _ _=>rfl))))))))))),?_⟩
   obtain ⟨a1,a2,a3,a4,b1,b2,b3,b4,c1,c2,c3,c4⟩:=ok
   unfold T3.tn det at hP
   walk_at "g"
   exact hP
abbrev HA:Stmt:=top 67
theorem BX:FnScope ["_law_face_here","_law_dot","_law_a","_law_b","_law_c"] ["_law_face_here","_law_dot"] (J3 HA):=⟨rfl,rfl,rfl,by decide +kernel,rfl,by decide +kernel,by decide +kernel⟩
noncomputable def PU:DSp:=fun ds P _=>∃ (t:T3) (px py:Int),ds=[t.d,t2 px py]/\t.ok 60/\Bd 60 px/\Bd 60 py/\P (l3 (t.wA px py) (t.wB px py) (t.wC px py))
theorem QG {w:World} {f:Addr} (F:Fun K "_law_leans" "_law_leans" HA f fd) (Z:Bi mg) {c:Cs} (Y:Ex K mg base c) (g0:Callee P w K mg base CX0 "_law_lean" 1 ["_law_a","_law_b","_law_dot"] (Q3 K BT TR)):FnOk P w K mg base CX0 2 f fd ["_law_face_here","_law_dot"] (Q3 K BT PU):=by
 refine F.okD BX (fun ds PP Ed h=>?_) (fun cdv A outer s H E M bg ds PP Ed hr hS_=>?_)
 · obtain ⟨t,px,py,rfl,ok,hx,hy,hP⟩:=h
   rfl
 · obtain ⟨t,px,py,rfl,ok,hx,hy,hP⟩:=hS_
   refine ⟨_,(J8 (EE (AW [2,3,4]) (jdv 0) (PG.or (Z8 (n:=3) K (by rfl) (by rfl) (J5 (pg_name (i:=2) BX.nd rfl (by walk_at "o")) (J5 (pg_name (i:=3) BX.nd rfl (by walk_at "o")) (J5 (pg_name (i:=4) BX.nd rfl (by walk_at "o")) V3)))) (Z9 (n:=3) K (by rfl) (by rfl) (J5 (pg_name (i:=2) BX.nd rfl (by walk_at "o")) (J5 (pg_name (i:=3) BX.nd rfl (by walk_at "o")) (J5 (pg_name (i:=4) BX.nd rfl (by walk_at "o")) V3))))))
    (Q4 (V6 (AS (J0 (Q7 g0 hr.m rfl (J0 (jdv 3) (J0 (jdv 4) (J0 (jdv 1) J4)))) (J0 (Q7 g0 hr.m rfl (J0 (jdv 4) (J0 (jdv 2) (J0 (jdv 1) J4)))) (J0 (Q7 g0 hr.m rfl (J0 (jdv 2) (J0 (jdv 3) (J0 (jdv 1) J4)))) J4))))))),?_⟩
   have ok:=ok.mono (show 60<=600 by decide)
   have hx:=hx.mono (show 60<=600 by decide)
   have hy:=hy.mono (show 60<=600 by decide)
   walk_at "g"
   refine ⟨_,_,_,_,_,_,_,_,_,_,rfl,⟨ok.bx,ok.b_y,ok.bw⟩,⟨ok.cx,ok.cy,ok.cw⟩,⟨hx,hy⟩,?_⟩
   walk_at "g"
   refine ⟨_,_,_,_,_,_,_,_,_,_,rfl,⟨ok.cx,ok.cy,ok.cw⟩,⟨ok.ax,ok.ay,ok.aw⟩,⟨hx,hy⟩,?_⟩
   walk_at "g"
   refine ⟨_,_,_,_,_,_,_,_,_,_,rfl,⟨ok.ax,ok.ay,ok.aw⟩,⟨ok.bx,ok.b_y,ok.bw⟩,⟨hx,hy⟩,?_⟩
   walk_at "g"
   exact hP
abbrev GZ:Stmt:=top 72
theorem AY:FnScope ["_law_face_here","_law_dot","_law_numbers","_law_top","_law_near","_law_corner_here","_law_number"] ["_law_face_here","_law_dot","_law_numbers"] (J3 GZ):=⟨rfl,rfl,rfl,by decide +kernel,rfl,by decide +kernel,by decide +kernel⟩
noncomputable def VO:DSp:=fun ds P _=>∃ (t:T3) (px py a b c:Int),ds=[t.d,t2 px py,l3 a b c]/\t.ok 60/\Bd 60 px/\Bd 60 py/\t.tn≠0/\(Bd 45 a/\Bd 45 b/\Bd 45 c)/\P (.int (t.mix px py a b c))
theorem QF {w:World} {f:Addr} (F:Fun K "_law_mixed" "_law_mixed" GZ f fd) (Z:Bi mg) {c:Cs} (Y:Ex K mg base c) (g0:Callee P w K mg base CX0 "_law_leans" 2 ["_law_face_here","_law_dot"] (Q3 K BT PU)) (g1:Callee P w K mg base CX0 "_law_turn" 1 ["_law_face_here"] (Q3 K BT TQ)):FnOk P w K mg base CX0 3 f fd ["_law_face_here","_law_dot","_law_numbers"] (Q3 K BT VO):=by
 refine F.okD AY (fun ds PP Ed h=>?_) (fun cdv A outer s H E M bg ds PP Ed hr hS_=>?_)
 · obtain ⟨t,px,py,a,b,c,rfl,ok,hx,hy,h0,⟨b1,b2,b3⟩,hP⟩:=h
   rfl
 · obtain ⟨t,px,py,a,b,c,rfl,ok,hx,hy,h0,⟨b1,b2,b3⟩,hP⟩:=hS_
   refine ⟨_,(J8 (Y0 (i:=3) AY.nd rfl (by walk_at "o") J1)
    (J8 (FA (AW [4,5,6]) PassesOwn.never rfl (J3i (by rfl) false true false (J0 (Q7 g0 hr.m rfl (J0 (jdv 0) (J0 (jdv 1) J4))) (J0 (jdv 0) (J0 (jdv 2) J4))) (J6z K (by rfl) false true false rfl Z.zip_ (JA.h (J0 (Q7 g0 hr.m rfl (J0 (jdv 0) (J0 (jdv 1) J4))) (J0 (jdv 0) (J0 (jdv 2) J4)))))) (PG.or (Z8 (n:=3) K (by rfl) (by rfl) (J5 (pg_name (i:=4) AY.nd rfl (by walk_at "o")) (J5 (pg_name (i:=5) AY.nd rfl (by walk_at "o")) (J5 (pg_name (i:=6) AY.nd rfl (by walk_at "o")) V3)))) (Z9 (n:=3) K (by rfl) (by rfl) (J5 (pg_name (i:=4) AY.nd rfl (by walk_at "o")) (J5 (pg_name (i:=5) AY.nd rfl (by walk_at "o")) (J5 (pg_name (i:=6) AY.nd rfl (by walk_at "o")) V3))))) (Q4 (Y0 (i:=3) AY.nd rfl (by walk_at "o") (J9 BB Z4 (jdv 3) (J9 Q8 Y6 (J9 Q8 Y6 (jdv 4) (Q5 (Q0 K (by rfl)) V1 (jdv 5) J1 (fun _ _=>rfl))) (jdv 6))))))
    (Q4 (V6 (J9 OF Y6 (jdv 3) (Q7 g1 hr.m rfl (J0 (jdv 0) J4))))))),?_⟩
   have bA:=T3.wA_bd ok hx hy (by decide)
   have bB:=T3.wB_bd ok hx hy (by decide)
   have bC:=T3.wC_bd ok hx hy (by decide)
   have w1:=ok.aw
   have w2:=ok.bw
   have w3:=ok.cw
   walk_at "g"
   refine ⟨t,px,py,rfl,ok,hx,hy,?_⟩
   walk_at "g"
   refine And.intro ⟨Nat.le_of_ble_eq_true rfl,Nat.le_of_ble_eq_true rfl⟩ ?_
   walk_at "g"
   walk_at "gr"
   refine ⟨t,rfl,ok,?_⟩
   walk_at "g"
   refine And.intro ⟨h0,185,(T3.tn_bd ok).mono (by decide),by decide⟩ ?_
   have e:0+t.wA px py*t.aw*a+t.wB px py*t.bw*b+t.wC px py*t.cw*c=a*t.tA px py+b*t.tB px py+c*t.tC px py:=by unfold T3.tA T3.tB T3.tC;grind
   have key:PP (.int ((0+t.wA px py*t.aw*a+t.wB px py*t.bw*b+t.wC px py*t.cw*c).fdiv t.tn)):=by rw [e];exact hP
   exact key
abbrev Z7:Stmt:=top 73
theorem FJ:FnScope ["_law_coat_here","_law_face_here","_law_dot","_law_rows","_law_x","_law_y","_law_row"] ["_law_coat_here","_law_face_here","_law_dot"] (J3 Z7):=⟨rfl,rfl,rfl,by decide +kernel,rfl,by decide +kernel,by decide +kernel⟩
noncomputable def Q0r:DSp:=fun ds P _=>∃ (ct:Ct) (t:T3) (px py:Int),ds=[ct.d,t.d,t2 px py]/\ct.ok/\t.ok 60/\t.tn≠0/\Bd 60 px/\Bd 60 py/\P (ct.at t px py)
theorem WW {w:World} {f:Addr} (F:Fun K "_law_of" "_law_of" Z7 f fd) (Z:Bi mg) {c:Cs} (Y:Ex K mg base c) (g0:Callee P w K mg base CX0 "_law_mixed" 3 ["_law_face_here","_law_dot","_law_numbers"] (Q3 K BT VO)):FnOk P w K mg base CX0 4 f fd ["_law_coat_here","_law_face_here","_law_dot"] (Q3 K BT Q0r):=by
 refine F.okD FJ (fun ds PP Ed h=>?_) (fun cdv A outer s H E M bg ds PP Ed hr hS_=>?_)
 · obtain ⟨ct,t,px,py,rfl,co,ok,h0,hx,hy,hP⟩:=h
   rfl
 · obtain ⟨ct,t,px,py,rfl,co,ok,h0,hx,hy,hP⟩:=hS_
   refine ⟨_,(J8 (CN (AB DK CB (Q5 (Q0 K (by rfl)) V1 (jdv 0) J1 (fun _ _=>rfl)) FC (Y2 _)) (Q4 (V6 (Q5 (Q0 K (by rfl)) V1 (jdv 0) J1 (fun _ _=>rfl)))) AT)
    (J8 (CN (AB DK CB (Q5 (Q0 K (by rfl)) V1 (jdv 0) J1 (fun _ _=>rfl)) FC (Y2 _)) (Q4 (V6 (AH (BD K (by rfl)) ER rfl Z.tuple_ DP (J0 (Z6 (X:=(V4 CX0 P w K mg base ["_law_coat_here","_law_face_here","_law_dot","_law_rows","_law_x","_law_y","_law_row"] "_law_of" (J3 Z7) f cdv A outer s H E).nox) (Y8 0) (ET (X:=(V4 CX0 P w K mg base ["_law_coat_here","_law_face_here","_law_dot","_law_rows","_law_x","_law_y","_law_row"] "_law_of" (J3 Z7) f cdv A outer s H E).nox) (N':=["_law_k","_law_face_here","_law_dot","_law_coat_here"]) (map:=[none,some 1,some 2,some 0]) (by rfl) (by rfl) (by decide +kernel) (by rfl) ⟨⟨rfl,rfl,rfl,by walk_at "o"⟩,⟨⟨rfl,rfl,rfl,by walk_at "o"⟩,⟨⟨rfl,rfl,rfl,by walk_at "o"⟩,True.intro⟩⟩⟩ (gkeep_name rfl) fun cl0 C0 fp0 s0 H0=>⟨(pg_name (X:=(Q9 (V4 CX0 P w K mg base ["_law_coat_here","_law_face_here","_law_dot","_law_rows","_law_x","_law_y","_law_row"] "_law_of" (J3 Z7) f cdv A outer s H E).nox ["_law_k","_law_face_here","_law_dot","_law_coat_here"] _ cl0 C0 fp0 s0 H0)) (i:=0) (Y1 ["_law_k","_law_face_here","_law_dot","_law_coat_here"] (by decide +kernel)) rfl (by walk_at "o")),Z5,(Q7 (X:=(Q9 (V4 CX0 P w K mg base ["_law_coat_here","_law_face_here","_law_dot","_law_rows","_law_x","_law_y","_law_row"] "_law_of" (J3 Z7) f cdv A outer s H E).nox ["_law_k","_law_face_here","_law_dot","_law_coat_here"] _ cl0 C0 fp0 s0 H0)) g0 hr.m rfl (J0 (jdv 1) (J0 (jdv 2) (J0 (Z6 (X:=(Q9 (V4 CX0 P w K mg base ["_law_coat_here","_law_face_here","_law_dot","_law_rows","_law_x","_law_y","_law_row"] "_law_of" (J3 Z7) f cdv A outer s H E).nox ["_law_k","_law_face_here","_law_dot","_law_coat_here"] _ cl0 C0 fp0 s0 H0)) (Y8 0) (ET (X:=(Q9 (V4 CX0 P w K mg base ["_law_coat_here","_law_face_here","_law_dot","_law_rows","_law_x","_law_y","_law_row"] "_law_of" (J3 Z7) f cdv A outer s H E).nox ["_law_k","_law_face_here","_law_dot","_law_coat_here"] _ cl0 C0 fp0 s0 H0)) (N':=["_law_colour_here","_law_k"]) (map:=[none,some 0]) (by rfl) (by rfl) (by decide +kernel) (by rfl) ⟨⟨rfl,rfl,rfl,by walk_at "o"⟩,True.intro⟩ (gkeep_name rfl) fun cl1 C1 fp1 s1 H1=>⟨(pg_name (X:=(Q9 (Q9 (V4 CX0 P w K mg base ["_law_coat_here","_law_face_here","_law_dot","_law_rows","_law_x","_law_y","_law_row"] "_law_of" (J3 Z7) f cdv A outer s H E).nox ["_law_k","_law_face_here","_law_dot","_law_coat_here"] _ cl0 C0 fp0 s0 H0) ["_law_colour_here","_law_k"] _ cl1 C1 fp1 s1 H1)) (i:=0) (Y1 ["_law_colour_here","_law_k"] (by decide +kernel)) rfl (by walk_at "o")),Z5,(Q5 (X:=(Q9 (Q9 (V4 CX0 P w K mg base ["_law_coat_here","_law_face_here","_law_dot","_law_rows","_law_x","_law_y","_law_row"] "_law_of" (J3 Z7) f cdv A outer s H E).nox ["_law_k","_law_face_here","_law_dot","_law_coat_here"] _ cl0 C0 fp0 s0 H0) ["_law_colour_here","_law_k"] _ cl1 C1 fp1 s1 H1)) (Q0 K (by rfl)) V1 (jdv 0) (jdv 1) (fun _ _=>rfl))⟩) (AZ (by rfl) (EJ (JJ K (by rfl)) (jdv 3) (FN J1) FP))) J4))))⟩) (BF rfl Z.range_ (J0 J1 J4))) J4)))) AT)
    (J8 (Y0 (i:=3) FJ.nd rfl (by walk_at "o") (Q5 (Q0 K (by rfl)) V1 (jdv 0) J1 (fun _ _=>rfl)))
    (J8 (Y0 (i:=4) FJ.nd rfl (by walk_at "o") (Q7 g0 hr.m rfl (J0 (jdv 1) (J0 (jdv 2) (J0 (Z6 (X:=(V4 CX0 P w K mg base ["_law_coat_here","_law_face_here","_law_dot","_law_rows","_law_x","_law_y","_law_row"] "_law_of" (J3 Z7) f cdv A outer s H E).nox) (Y8 0) (ET (X:=(V4 CX0 P w K mg base ["_law_coat_here","_law_face_here","_law_dot","_law_rows","_law_x","_law_y","_law_row"] "_law_of" (J3 Z7) f cdv A outer s H E).nox) (N':=["_law_place"]) (map:=[none]) (by rfl) (by rfl) (by decide +kernel) (by rfl) True.intro (gkeep_name rfl) fun cl0 C0 fp0 s0 H0=>⟨(pg_name (X:=(Q9 (V4 CX0 P w K mg base ["_law_coat_here","_law_face_here","_law_dot","_law_rows","_law_x","_law_y","_law_row"] "_law_of" (J3 Z7) f cdv A outer s H E).nox ["_law_place"] _ cl0 C0 fp0 s0 H0)) (i:=0) (Y1 ["_law_place"] (by decide +kernel)) rfl (by walk_at "o")),Z5,(Q5 (X:=(Q9 (V4 CX0 P w K mg base ["_law_coat_here","_law_face_here","_law_dot","_law_rows","_law_x","_law_y","_law_row"] "_law_of" (J3 Z7) f cdv A outer s H E).nox ["_law_place"] _ cl0 C0 fp0 s0 H0)) (Q0 K (by rfl)) V1 (jdv 0) J1 (fun _ _=>rfl))⟩) (AZ (by rfl) (EJ (JJ K (by rfl)) (jdv 0) (FN J1) FP))) J4)))))
    (J8 (Y0 (i:=5) FJ.nd rfl (by walk_at "o") (Q7 g0 hr.m rfl (J0 (jdv 1) (J0 (jdv 2) (J0 (Z6 (X:=(V4 CX0 P w K mg base ["_law_coat_here","_law_face_here","_law_dot","_law_rows","_law_x","_law_y","_law_row"] "_law_of" (J3 Z7) f cdv A outer s H E).nox) (Y8 0) (ET (X:=(V4 CX0 P w K mg base ["_law_coat_here","_law_face_here","_law_dot","_law_rows","_law_x","_law_y","_law_row"] "_law_of" (J3 Z7) f cdv A outer s H E).nox) (N':=["_law_place"]) (map:=[none]) (by rfl) (by rfl) (by decide +kernel) (by rfl) True.intro (gkeep_name rfl) fun cl0 C0 fp0 s0 H0=>⟨(pg_name (X:=(Q9 (V4 CX0 P w K mg base ["_law_coat_here","_law_face_here","_law_dot","_law_rows","_law_x","_law_y","_law_row"] "_law_of" (J3 Z7) f cdv A outer s H E).nox ["_law_place"] _ cl0 C0 fp0 s0 H0)) (i:=0) (Y1 ["_law_place"] (by decide +kernel)) rfl (by walk_at "o")),Z5,(Q5 (X:=(Q9 (V4 CX0 P w K mg base ["_law_coat_here","_law_face_here","_law_dot","_law_rows","_law_x","_law_y","_law_row"] "_law_of" (J3 Z7) f cdv A outer s H E).nox ["_law_place"] _ cl0 C0 fp0 s0 H0)) (Q0 K (by rfl)) V1 (jdv 0) J1 (fun _ _=>rfl))⟩) (AZ (by rfl) (EJ (JJ K (by rfl)) (jdv 0) (FN J1) FP))) J4)))))
    (J8 (Y0 (i:=6) FJ.nd rfl (by walk_at "o") (Q5 (Q0 K (by rfl)) V1 (jdv 3) (V9 (GS (by rfl)) NA rfl Z.min_ PM (J0 (V9 (MO (by rfl)) NA rfl Z.max_ XO (J0 (jdv 5) (J0 J1 J4))) (J0 (J9 AG Z4 (V9 (AL K (by rfl)) HP rfl Z.len_ GI (J0 (jdv 3) J4)) J1) J4))) (fun _ _=>rfl)))
    (Q4 (V6 (Q5 (Q0 K (by rfl)) V1 (jdv 6) (V9 (GS (by rfl)) NA rfl Z.min_ PM (J0 (V9 (MO (by rfl)) NA rfl Z.max_ XO (J0 (jdv 4) (J0 J1 J4))) (J0 (J9 AG Z4 (V9 (AL K (by rfl)) HP rfl Z.len_ GI (J0 (jdv 6) J4)) J1) J4))) (fun _ _=>rfl)))))))))),?_⟩
   cases ct with
   | pl k =>
     walk_at "g"
     exact hP
   | wv k1 k2 k3 =>
     obtain ⟨o1,o2,o3⟩:=co
     walk_at "g"
     walk_at "gc"
     refine And.intro (by intro h;simp [HT.sIx] at h;done) ?_
     walk_at "g"
     walk_at "gc"
     refine ⟨t,px,py,_,_,_,rfl,ok,hx,hy,h0,⟨CO o1.h0,CO o2.h0,CO o3.h0⟩,?_⟩
     walk_at "g"
     refine And.intro (by intro h;simp [HT.sIx] at h;done) ?_
     walk_at "g"
     walk_at "gc"
     refine ⟨t,px,py,_,_,_,rfl,ok,hx,hy,h0,⟨CO o1.h1,CO o2.h1,CO o3.h1⟩,?_⟩
     walk_at "g"
     refine And.intro (by intro h;simp [HT.sIx] at h;done) ?_
     walk_at "g"
     walk_at "gc"
     refine ⟨t,px,py,_,_,_,rfl,ok,hx,hy,h0,⟨CO o1.h2,CO o2.h2,CO o3.h2⟩,?_⟩
     walk_at "g"
     exact hP
   | pc rows p q r =>
     obtain ⟨⟨l1,l2⟩,hr,⟨p1,p2⟩,⟨q1,q2⟩,⟨r1,r2⟩⟩:=co
     obtain ⟨row,k,e1,e2,e3,m1,m2⟩:=UF (u:=t.mix px py p.1 q.1 r.1) (v:=t.mix px py p.2 q.2 r.2) l1 fun r hr'=>(hr r hr').1.1
     change PP (J0e _ _ _) at hP
     rw [e3] at hP
     have a1:=GN (v:=t.mix px py p.2 q.2 r.2) (m:=rows.length) (by omega)
     have a2:=GN (v:=t.mix px py p.1 q.1 r.1) (m:=row.length) (by have:=(hr row m1).1.1;omega)
     walk_at "g"
     refine And.intro (by intro h;simp [HT.sIx] at h;done) ?_
     walk_at "g"
     walk_at "gc"
     refine ⟨t,px,py,_,_,_,rfl,ok,hx,hy,h0,⟨p1,q1,r1⟩,?_⟩
     walk_at "g"
     refine And.intro (by intro h;simp [HT.sIx] at h;done) ?_
     walk_at "g"
     walk_at "gc"
     refine ⟨t,px,py,_,_,_,rfl,ok,hx,hy,h0,⟨p2,q2,r2⟩,?_⟩
     generalize t.mix px py p.1 q.1 r.1=u at e2 a2 ⊢
     generalize t.mix px py p.2 q.2 r.2=v at e1 a1 ⊢
     walk_at "g"
     rw [List.length_map]
     refine ixq (i:=EW v rows.length) a1.1 (d:=.lst (row.map Col.d)) (by rw [List.getElem?_map,e1];rfl) ?_
     walk_at "g"
     rw [List.length_map]
     refine ixq (i:=EW u row.length) a2.1 (d:=k.d) (by rw [List.getElem?_map,e2];rfl) ?_
     exact hP
abbrev GF:Stmt:=top 69
theorem EA:FnScope ["_law_bag_here","_law_way","_law_found","_law_k"] ["_law_bag_here"] (J3 GF):=⟨rfl,rfl,rfl,by decide +kernel,rfl,by decide +kernel,by decide +kernel⟩
noncomputable def PX:MU:=fun ds P n=>ds=[.bag]/\n+7<=9000/\∀ (a b c:Int) (n':Nat),(0<=a/\a<=255)->(0<=b/\b<=255)->(0<=c/\c<=255)->n'<=n+7->P (t3 a b c) n'
theorem OR {w:World} {f:Addr} (F:Fun K "_law_colour" "_law_colour" GF f fd) (Z:Bi mg) {c:Cs} (Y:Ex K mg base c) (g0:Callee P w K mg base CX0 "_law_take" 1 ["_law_bag_here","_law_many"] (Z2 K BT GJ)):FnOk P w K mg base CX0 2 f fd ["_law_bag_here"] (Z2 K BT PX):=by
 refine F.okC EA (fun ds PP n h=>?_) (fun cdv A outer s H E M bg ds PP n hr hS_=>?_)
 · obtain ⟨rfl,hn,hP⟩:=h
   exact ⟨rfl,List.mem_cons_self ..⟩
 · obtain ⟨rfl,hn,hP⟩:=hS_
   refine ⟨_,(V0 (AI (i:=1) EA.nd rfl (by walk_at "o") (V5 g0 hr.m rfl (J6 (cjv 0) (J6 (J7 fun H0=>J1) Q6))))
    (V0 (LH (i:=2) EA.nd rfl (by walk_at "o") Q6)
    (V0 (LJ (Y8 3) PassesOwn.never rfl (GQ fun H0=>(BF rfl Z.range_ (J0 J1 J4))) (pg_name (i:=3) EA.nd rfl (by walk_at "o")) (Z1 (HN (i:=2) (by rfl) rfl (by walk_at "v") (J6 (IV (Q0 K (by rfl)) V1 (ZE (J6 (V5 g0 hr.m rfl (J6 (cjv 0) (J6 (J7 fun H0=>J1) Q6))) (J6 (BR Q8 Y6 (J7 fun H0=>J1) (V5 g0 hr.m rfl (J6 (cjv 0) (J6 (J7 fun H0=>J1) Q6)))) Q6))) (J7 fun H0=>(AH FH LL rfl Z.int_ JZ (J0 (DJ DK CB (jdv 1) J1 (Y2 _)) J4))) (fun _ _=>rfl)) Q6) (HU PySem.F.plainAttrs_list PySem.F.slot_list_append PySem.F.type_list_append DY (pv 2) (CJA.h (J6 (IV (Q0 K (by rfl)) V1 (ZE (J6 (V5 g0 hr.m rfl (J6 (cjv 0) (J6 (J7 fun H0=>J1) Q6))) (J6 (BR Q8 Y6 (J7 fun H0=>J1) (V5 g0 hr.m rfl (J6 (cjv 0) (J6 (J7 fun H0=>J1) Q6)))) Q6))) (J7 fun H0=>(AH FH LL rfl Z.int_ JZ (J0 (DJ DK CB (jdv 1) J1 (Y2 _)) J4))) (fun _ _=>rfl)) Q6))))))
    (Z1 (CL (J7 fun H0=>(AH (BD K (by rfl)) ER rfl Z.tuple_ DP (J0 (jdv 2) J4)))))))),?_⟩
   walk_at "g"
   refine ⟨_,rfl,by omega,by decide,by decide,fun way n1 y0 y1 m1=>?_⟩
   walk_at "g"
   refine ⟨fun i ρ n'=>∃ (cs:List Int) (v3:Option D),ρ=[some .bag,some (.int way),some (.own (cs.map D.int)),v3]/\cs.length=i/\(∀ c∈cs,0<=c/\c<=255)/\n'<=n+1+2*i,⟨[],_,rfl,rfl,by simp,by omega⟩,?_,?_⟩
   · rintro i x ρ n' e ⟨cs,v3,rfl,hl,hc,hn'⟩
     obtain ⟨rfl,hi⟩:=HI e
     have hi:i<3:=hi
     clear e
     walk_at "g"
     refine ⟨_,rfl,by omega,by decide,by decide,fun r1 n2 r0 r1' m2=>?_⟩
     walk_at "g"
     refine ⟨_,rfl,by omega,by decide,by decide,fun r2 n3 s0 s1 m3=>?_⟩
     have br2:Bd 4 r2:=Bd.of (by omega) (by omega)
     walk_at "g"
     refine ixm (by split<;>decide) (by show _<(2:Int);split<;>decide) fun dz mz=>?_
     obtain ⟨z,rfl,z0,z1⟩:∃ z:Int,dz=.int z/\0<=z/\z<=255:=by
      simp only [List.mem_cons,List.not_mem_nil,or_false] at mz
      rcases mz with e|e
      · exact ⟨_,e,by omega,by omega⟩
      · exact ⟨_,e,by omega,by omega⟩
     walk_at "g"
     refine And.intro (by show (true&&decide ((cs.map D.int).length<1000))=true;rw [List.length_map,hl];simp;omega) ?_
     refine ⟨cs++[z],_,by rw [List.map_append];rfl,by simp [hl],fun c hc'=>?_,by omega⟩
     rcases List.mem_append.mp hc' with q|q
     · exact hc c q
     · have:c=z:=by simpa using q
       rw [this];exact ⟨z0,z1⟩
   · rintro ρ n' ⟨cs,v3,rfl,hl,hc,hn'⟩
     have hl:cs.length=3:=hl
     match cs,hl with
     | [a,b,c],_ =>
       walk_at "g"
       exact hP a b c n' (hc a (by simp)) (hc b (by simp)) (hc c (by simp)) (by have:(Y4 0 (Int.toNat 3)).length=3:=rfl;omega)
abbrev GB:Stmt:=top 70
theorem NZ:FnScope ["_law_bag_here"] ["_law_bag_here"] (J3 GB):=⟨rfl,rfl,rfl,by decide +kernel,rfl,by decide +kernel,by decide +kernel⟩
noncomputable def VN:MU:=fun ds P n=>ds=[.bag]/\n+3<=9000/\∀ (p:Int×Int) (n':Nat),Bd 45 p.1->Bd 45 p.2->n'<=n+3->P (t2 p.1 p.2) n'
theorem ON {w:World} {f:Addr} (F:Fun K "_law_places" "_law_places" GB f fd) (Z:Bi mg) {c:Cs} (Y:Ex K mg base c) (g0:Callee P w K mg base CX0 "_law_take" 1 ["_law_bag_here","_law_many"] (Z2 K BT GJ)):FnOk P w K mg base CX0 2 f fd ["_law_bag_here"] (Z2 K BT VN):=by
 refine F.okC NZ (fun ds PP n h=>?_) (fun cdv A outer s H E M bg ds PP n hr hS_=>?_)
 · obtain ⟨rfl,hn,hP⟩:=h
   exact ⟨rfl,List.mem_cons_self ..⟩
 · obtain ⟨rfl,hn,hP⟩:=hS_
   refine ⟨_,(V0 (FS (J9b DK CB (V5 g0 hr.m rfl (J6 (cjv 0) (J6 (J7 fun H0=>J1) Q6))) (J7 fun H0=>J1) (Y2 _)) (Z1 (CL (FW (J6 (BR AG Z4 (BR Q8 Y6 (V5 g0 hr.m rfl (J6 (cjv 0) (J6 (J7 fun H0=>(J9 GH Y6 J1 J1)) Q6))) (J7 fun H0=>(J9 GH Y6 J1 J1))) (J7 fun H0=>(J9 Q8 Y6 J1 (J9 GH Y6 J1 J1)))) (J6 (BR AG Z4 (J7 fun H0=>(J9 Q8 Y6 J1 (J9 GH Y6 J1 J1))) (BR Q8 Y6 (V5 g0 hr.m rfl (J6 (cjv 0) (J6 (J7 fun H0=>(J9 GH Y6 J1 J1)) Q6))) (J7 fun H0=>(J9 GH Y6 J1 J1)))) Q6))))) DB)
    (Z1 (CL (FW (J6 (BR AG Z4 (V5 g0 hr.m rfl (J6 (cjv 0) (J6 (J7 fun H0=>J1) Q6))) (J7 fun H0=>J1)) (J6 (BR AG Z4 (V5 g0 hr.m rfl (J6 (cjv 0) (J6 (J7 fun H0=>J1) Q6))) (J7 fun H0=>J1)) Q6)))))),?_⟩
   have e6:(10:Int) ^ Int.toNat 6=1000000:=rfl
   have e11:(10:Int) ^ Int.toNat 11=100000000000:=rfl
   walk_at "g"
   refine ⟨_,rfl,by omega,by decide,by decide,fun r1 n1 y0 y1 m1=>?_⟩
   walk_at "g"
   walk_at "sp"
   · walk_at "g"
     refine ⟨_,rfl,by omega,by decide,by decide,fun r2 n2 a0 a1 m2=>?_⟩
     have a2:r2<1000000:=a1
     have br2:Bd 21 r2:=Bd.of (by omega) (by omega)
     walk_at "g"
     refine ⟨_,rfl,by omega,by decide,by decide,fun r3 n3 b0 b1 m3=>?_⟩
     have b2:r3<1000000:=b1
     have br3:Bd 21 r3:=Bd.of (by omega) (by omega)
     walk_at "g"
     exact hP (_,_) n3 (Bd.of (by dsimp only;rw [e6,e11];omega) (by dsimp only;rw [e6,e11];omega)) (Bd.of (by dsimp only;rw [e6,e11];omega) (by dsimp only;rw [e6,e11];omega)) (by omega)
   · walk_at "g"
     refine ⟨_,rfl,by omega,by decide,by decide,fun r2 n2 a0 a1 m2=>?_⟩
     have a2:r2<11:=a1
     walk_at "g"
     refine ⟨_,rfl,by omega,by decide,by decide,fun r3 n3 b0 b1 m3=>?_⟩
     have b2:r3<11:=b1
     walk_at "g"
     exact hP (_,_) n3 (Bd.of (by dsimp only;omega) (by dsimp only;omega)) (Bd.of (by dsimp only;omega) (by dsimp only;omega)) (by omega)
abbrev BA:Stmt:=top 71
theorem EB:FnScope ["_law_bag_here","_law_kind","_law_many","_law_rows","_law_y"] ["_law_bag_here"] (J3 BA):=⟨rfl,rfl,rfl,by decide +kernel,rfl,by decide +kernel,by decide +kernel⟩
noncomputable def ZN:MU:=fun ds P n=>ds=[.bag]/\n+300<=9000/\∀ (ct:Ct) (n':Nat),ct.ok->n'<=n+300->P ct.d n'
theorem SK {w:World} {f:Addr} (F:Fun K "_law_coat" "_law_coat" BA f fd) (Z:Bi mg) {c:Cs} (Y:Ex K mg base c) (g0:Callee P w K mg base CX0 "_law_take" 1 ["_law_bag_here","_law_many"] (Z2 K BT GJ)) (g1:Callee P w K mg base CX0 "_law_places" 2 ["_law_bag_here"] (Z2 K BT VN)) (g2:Callee P w K mg base CX0 "_law_colour" 2 ["_law_bag_here"] (Z2 K BT PX)):FnOk P w K mg base CX0 3 f fd ["_law_bag_here"] (Z2 K BT ZN):=by
 refine F.okC EB (fun ds PP n h=>?_) (fun cdv A outer s H E M bg ds PP n hr hS_=>?_)
 · obtain ⟨rfl,hn,hP⟩:=h
   exact ⟨rfl,List.mem_cons_self ..⟩
 · obtain ⟨rfl,hn,hP⟩:=hS_
   refine ⟨_,(V0 (AI (i:=1) EB.nd rfl (by walk_at "o") (V5 g0 hr.m rfl (J6 (cjv 0) (J6 (J7 fun H0=>J1) Q6))))
    (V0 (FS (DN fun H0=>(AB DK CB (jdv 1) J1 (Y2 _))) (Z1 (CL (FW (J6 (J7 fun H0=>FC) (J6 (V5 g2 hr.m rfl (J6 (cjv 0) Q6)) Q6))))) DB)
    (V0 (FS (DN fun H0=>(AB DK CB (jdv 1) J1 (Y2 _))) (Z1 (CL (FW (J6 (J7 fun H0=>FC) (J6 (V5 g2 hr.m rfl (J6 (cjv 0) Q6)) (J6 (V5 g2 hr.m rfl (J6 (cjv 0) Q6)) (J6 (V5 g2 hr.m rfl (J6 (cjv 0) Q6)) Q6))))))) DB)
    (V0 (AI (i:=2) EB.nd rfl (by walk_at "o") (BR BB Z4 (J7 fun H0=>J1) (V5 g0 hr.m rfl (J6 (cjv 0) (J6 (J7 fun H0=>J1) Q6)))))
    (V0 (LH (i:=3) EB.nd rfl (by walk_at "o") Q6)
    (V0 (LJ (Y8 4) PassesOwn.never rfl (PD rfl Z.range_ (J6 (BR BB Z4 (J7 fun H0=>J1) (V5 g0 hr.m rfl (J6 (cjv 0) (J6 (J7 fun H0=>J1) Q6)))) Q6)) (pg_name (i:=4) EB.nd rfl (by walk_at "o")) (Z1 (HN (i:=3) (by rfl) rfl (by walk_at "v") (J6 (PH (X:=(V4 CX0 P w K mg base ["_law_bag_here","_law_kind","_law_many","_law_rows","_law_y"] "_law_coat" (J3 BA) f cdv A outer s H E).nox) (Y8 0) (J5f (X:=(V4 CX0 P w K mg base ["_law_bag_here","_law_kind","_law_many","_law_rows","_law_y"] "_law_coat" (J3 BA) f cdv A outer s H E).nox) (N':=["_law_x","_law_bag_here"]) (map:=[none,some 0]) (by rfl) (by rfl) (by decide +kernel) (by rfl) ⟨⟨rfl,rfl,rfl,by walk_at "o"⟩,True.intro⟩ (gkeep_name rfl) fun cl0 C0 fp0 s0 H0=>⟨(pg_name (X:=(Q9 (V4 CX0 P w K mg base ["_law_bag_here","_law_kind","_law_many","_law_rows","_law_y"] "_law_coat" (J3 BA) f cdv A outer s H E).nox ["_law_x","_law_bag_here"] _ cl0 C0 fp0 s0 H0)) (i:=0) (Y1 ["_law_x","_law_bag_here"] (by decide +kernel)) rfl (by walk_at "o")),PB,(V5 (X:=(Q9 (V4 CX0 P w K mg base ["_law_bag_here","_law_kind","_law_many","_law_rows","_law_y"] "_law_coat" (J3 BA) f cdv A outer s H E).nox ["_law_x","_law_bag_here"] _ cl0 C0 fp0 s0 H0)) g2 hr.m rfl (J6 (cjv 1) Q6))⟩) (GQ fun H0=>(BF rfl Z.range_ (J0 (jdv 2) J4)))) Q6) (HU PySem.F.plainAttrs_list PySem.F.slot_list_append PySem.F.type_list_append DY (pv 3) (CJA.h (J6 (PH (X:=(V4 CX0 P w K mg base ["_law_bag_here","_law_kind","_law_many","_law_rows","_law_y"] "_law_coat" (J3 BA) f cdv A outer s H E).nox) (Y8 0) (J5f (X:=(V4 CX0 P w K mg base ["_law_bag_here","_law_kind","_law_many","_law_rows","_law_y"] "_law_coat" (J3 BA) f cdv A outer s H E).nox) (N':=["_law_x","_law_bag_here"]) (map:=[none,some 0]) (by rfl) (by rfl) (by decide +kernel) (by rfl) ⟨⟨rfl,rfl,rfl,by walk_at "o"⟩,True.intro⟩ (gkeep_name rfl) fun cl0 C0 fp0 s0 H0=>⟨(pg_name (X:=(Q9 (V4 CX0 P w K mg base ["_law_bag_here","_law_kind","_law_many","_law_rows","_law_y"] "_law_coat" (J3 BA) f cdv A outer s H E).nox ["_law_x","_law_bag_here"] _ cl0 C0 fp0 s0 H0)) (i:=0) (Y1 ["_law_x","_law_bag_here"] (by decide +kernel)) rfl (by walk_at "o")),PB,(V5 (X:=(Q9 (V4 CX0 P w K mg base ["_law_bag_here","_law_kind","_law_many","_law_rows","_law_y"] "_law_coat" (J3 BA) f cdv A outer s H E).nox ["_law_x","_law_bag_here"] _ cl0 C0 fp0 s0 H0)) g2 hr.m rfl (J6 (cjv 1) Q6))⟩) (GQ fun H0=>(BF rfl Z.range_ (J0 (jdv 2) J4)))) Q6))))))
    (OZ 3 (Z1 (CL (FW (J6 (J7 fun H0=>FC) (J6 (cjv 3) (J6 (V5 g1 hr.m rfl (J6 (cjv 0) Q6)) (J6 (V5 g1 hr.m rfl (J6 (cjv 0) Q6)) (J6 (V5 g1 hr.m rfl (J6 (cjv 0) Q6)) Q6))))))))))))))),?_⟩
   walk_at "g"
   refine ⟨_,rfl,by omega,by decide,by decide,fun kd n1 y0 y1 m1=>?_⟩
   walk_at "g"
   obtain rfl|rfl|rfl:kd=0\/kd=1\/kd=2:=by have:kd<3:=y1;omega
   · walk_at "g"
     refine ⟨by omega,fun a b c n2 ha hb hc m2=>?_⟩
     walk_at "g"
     exact hP (.pl ⟨a,b,c⟩) n2 ⟨ha,hb,hc⟩ (by omega)
   · walk_at "g"
     refine ⟨by omega,fun a b c n2 ha hb hc m2=>?_⟩
     walk_at "g"
     refine ⟨by omega,fun a' b' c' n3 ha' hb' hc' m3=>?_⟩
     walk_at "g"
     refine ⟨by omega,fun a2 b2 c2 n4 ha2 hb2 hc2 m4=>?_⟩
     walk_at "g"
     exact hP (.wv ⟨a,b,c⟩ ⟨a',b',c'⟩ ⟨a2,b2,c2⟩) n4 ⟨⟨ha,hb,hc⟩,⟨ha',hb',hc'⟩,⟨ha2,hb2,hc2⟩⟩ (by omega)
   · walk_at "g"
     refine ⟨_,rfl,by omega,by decide,by decide,fun r2 n2 a0 a1 m2=>?_⟩
     have a2:r2<6:=a1
     walk_at "g"
     refine ⟨_,rfl,by omega,by decide,by decide,fun r3 n3 b0 b1 m3=>?_⟩
     have b2:r3<6:=b1
     walk_at "g"
     refine And.intro ⟨by omega,by omega⟩ ?_
     walk_at "g"
     refine ⟨fun i ρ n'=>∃ (rows:List (List Col)) (v4:Option D),ρ=[some .bag,some (.int 2),some (.int (1+r2)),some (.own (rows.map fun r=>.lst (r.map Col.d))),v4]/\rows.length=i/\(∀ r∈rows,(1<=r.length/\r.length<=30)/\∀ c∈r,c.ok)/\n'<=n+3+42*i,⟨[],_,rfl,rfl,by simp,by omega⟩,?_,?_⟩
     · rintro i x ρ n' e ⟨rows,v4,rfl,hl,hr,hn'⟩
       obtain ⟨rfl,hi⟩:=HI e
       clear e
       walk_at "g"
       refine And.intro ⟨by omega,by omega⟩ ?_
       walk_at "g"
       have hlen:(Y4 0 (1+r2).toNat).length=(1+r2).toNat:=by simp [Y4]
       refine And.intro (by rw [hlen];omega) ?_
       refine ⟨fun j acc n''=>∃ row:List Col,acc=row.map Col.d/\row.length=j/\(∀ c∈row,c.ok)/\n''<=n'+7*j,⟨[],rfl,rfl,by simp,by omega⟩,?_,?_⟩
       · rintro j x acc n'' e ⟨row,rfl,hl',hc,hn''⟩
         obtain ⟨rfl,hj⟩:=HI e
         clear e
         walk_at "g"
         refine ⟨by omega,fun a b c n4 ha hb hc' m4=>?_⟩
         walk_at "g"
         refine ⟨row++[⟨a,b,c⟩],by rw [List.map_append];rfl,by simp [hl'],fun k hk=>?_,by omega⟩
         rcases List.mem_append.mp hk with q|q
         · exact hc k q
         · have:k=⟨a,b,c⟩:=by simpa using q
           rw [this];exact ⟨ha,hb,hc'⟩
       · rintro acc n'' ⟨row,rfl,hl',hc,hn''⟩
         rw [hlen] at hl' hn''
         walk_at "g"
         refine And.intro (by show (true&&decide ((rows.map fun r=>D.lst (r.map Col.d)).length<1000))=true;rw [List.length_map,hl];simp;omega) ?_
         refine ⟨rows++[row],_,by rw [List.map_append];rfl,by simp [hl],fun r hr'=>?_,by omega⟩
         rcases List.mem_append.mp hr' with q|q
         · exact hr r q
         · have:r=row:=by simpa using q
           rw [this];exact ⟨⟨by omega,by omega⟩,hc⟩
     · rintro ρ n' ⟨rows,v4,rfl,hl,hr,hn'⟩
       have hlen:(Y4 0 (1+r3).toNat).length=(1+r3).toNat:=by simp [Y4]
       rw [hlen] at hl hn'
       walk_at "g"
       refine ⟨by omega,fun p n4 p1 p2 m4=>?_⟩
       walk_at "g"
       refine ⟨by omega,fun q n5 q1 q2 m5=>?_⟩
       walk_at "g"
       refine ⟨by omega,fun r n6 r1 r2' m6=>?_⟩
       walk_at "g"
       exact hP (.pc rows p q r) n6 ⟨⟨by omega,by omega⟩,hr,⟨p1,p2⟩,⟨q1,q2⟩,⟨r1,r2'⟩⟩ (by omega)
abbrev GE:Stmt:=top 61
theorem CS:FnScope ["_law_bag_here","_law_far","_law_w","_law_wide","_law_x","_law_y"] ["_law_bag_here","_law_far"] (J3 GE):=⟨rfl,rfl,rfl,by decide +kernel,rfl,by decide +kernel,by decide +kernel⟩
noncomputable def VR:MU:=fun ds P n=>∃ far:Int,ds=[.bag,.int far]/\(far=0\/far=1\/far=3)/\n+6<=9000/\∀ (x y z w:Int) (n':Nat),(Bd 30 x/\Bd 30 y/\Bd 30 z/\Bd 30 w)->0<w->n'<=n+6->P (sp4 x y z w) n'
theorem OP {w:World} {f:Addr} (F:Fun K "_law_corner" "_law_corner" GE f fd) (Z:Bi mg) {c:Cs} (Y:Ex K mg base c) (g0:Callee P w K mg base CX0 "_law_spot" 2 ["_law_numbers"] (Q3 K BT PR)) (g1:Callee P w K mg base CX0 "_law_take" 1 ["_law_bag_here","_law_many"] (Z2 K BT GJ)):FnOk P w K mg base CX0 3 f fd ["_law_bag_here","_law_far"] (Z2 K BT VR):=by
 refine F.okC CS (fun ds PP n h=>?_) (fun cdv A outer s H E M bg ds PP n hr hS_=>?_)
 · obtain ⟨far,rfl,hf,hn,hP⟩:=h
   exact ⟨rfl,List.mem_cons_self ..⟩
 · obtain ⟨far,rfl,hf,hn,hP⟩:=hS_
   refine ⟨_,(V0 (AI (i:=2) CS.nd rfl (by walk_at "o") (BR BB Z4 (J7 fun H0=>J1) (V5 g1 hr.m rfl (J6 (cjv 0) (J6 (J7 fun H0=>J1) Q6)))))
    (V0 (AI (i:=3) CS.nd rfl (by walk_at "o") (J7 fun H0=>(Q5 (Q0 K (by rfl)) V1 (AS (J0 J1 (J0 J1 (J0 J1 (J0 (J9 GH Y6 J1 J1) J4))))) (jdv 1) (fun _ _=>rfl))))
    (V0 (AI (i:=4) CS.nd rfl (by walk_at "o") (BR BB Z4 (BR Q8 Y6 (BR AG Z4 (V5 g1 hr.m rfl (J6 (cjv 0) (J6 (J7 fun H0=>(jdv 3)) Q6))) (J7 fun H0=>(J9 CY Y6 (jdv 3) J1))) (J7 fun H0=>(jdv 2))) (V5 g1 hr.m rfl (J6 (cjv 0) (J6 (J7 fun H0=>(jdv 2)) Q6)))))
    (V0 (AI (i:=5) CS.nd rfl (by walk_at "o") (BR BB Z4 (BR Q8 Y6 (BR AG Z4 (V5 g1 hr.m rfl (J6 (cjv 0) (J6 (J7 fun H0=>(jdv 3)) Q6))) (J7 fun H0=>(J9 CY Y6 (jdv 3) J1))) (J7 fun H0=>(jdv 2))) (V5 g1 hr.m rfl (J6 (cjv 0) (J6 (J7 fun H0=>(jdv 2)) Q6)))))
    (Z1 (CL (PF g0 hr.m rfl (J6 (FW (J6 (J7 fun H0=>(jdv 4)) (J6 (J7 fun H0=>(jdv 5)) (J6 (BR AG Z4 (V5 g1 hr.m rfl (J6 (cjv 0) (J6 (J7 fun H0=>J1) Q6))) (J7 fun H0=>J1)) (J6 (J7 fun H0=>(jdv 2)) Q6))))) Q6)))))))),?_⟩
   walk_at "g"
   refine ⟨_,rfl,by omega,by decide,by decide,fun r1 n1 w0 w1 m1=>?_⟩
   have w2:r1<4:=w1
   have bw:Bd 4 (1+r1):=Bd.of (by omega) (by omega)
   walk_at "g"
   refine ixm (by omega) (by show _<(4:Int);omega) fun dz mz=>?_
   obtain ⟨z,rfl,z0,z1⟩:∃ z:Int,dz=.int z/\22<=z/\z<=1000000:=by
    simp only [List.mem_cons,List.not_mem_nil,or_false] at mz
    rcases mz with e|e|e|e<;>exact ⟨_,e,by decide,by decide⟩
   have bz:Bd 21 z:=Bd.of (by omega) (by omega)
   walk_at "g"
   refine ⟨_,rfl,by omega,by omega,by omega,fun r2 n2 a0 a1 m2=>?_⟩
   have br2:Bd 21 r2:=Bd.of (by omega) (by omega)
   have bz6:0<=z / 6/\z / 6<=z:=by omega
   have b26:Bd 22 (r2 - z / 6):=Bd.of (by omega) (by omega)
   walk_at "g"
   refine And.intro ⟨by decide,4,Bd.of (by decide) (by decide),by decide⟩ ?_
   walk_at "g"
   refine ⟨_,rfl,by omega,by omega,by omega,fun r3 n3 c0 c1 m3=>?_⟩
   walk_at "g"
   refine ⟨_,rfl,by omega,by omega,by omega,fun r4 n4 d0 d1 m4=>?_⟩
   have b46:Bd 22 (r4 - z / 6):=Bd.of (by omega) (by omega)
   walk_at "g"
   refine And.intro ⟨by decide,4,Bd.of (by decide) (by decide),by decide⟩ ?_
   walk_at "g"
   refine ⟨_,rfl,by omega,by omega,by omega,fun r5 n5 e0 e1 m5=>?_⟩
   walk_at "g"
   refine ⟨_,rfl,by omega,by decide,by decide,fun r6 n6 f0 f1 m6=>?_⟩
   have f2:r6<41:=f1
   walk_at "g"
   have k3:Bd 4 r3:=Bd.of (by omega) (by omega)
   have k5:Bd 4 r5:=Bd.of (by omega) (by omega)
   refine ⟨_,_,_,_,30,rfl,by omega,⟨(Bd.add (Bd.mul b26 bw) k3).mono (by decide),(Bd.add (Bd.mul b46 bw) k5).mono (by decide),Bd.of (by omega) (by omega),Bd.of (by omega) (by omega)⟩,by decide,fun x' y' z' w' hb hw _=>?_⟩
   exact hP x' y' z' w' n6 hb hw (by omega)
abbrev CV:Stmt:=top 62
theorem BI:FnScope ["_law_bag_here","_law_far","_law_a","_law_b","_law_c"] ["_law_bag_here"] (J3 CV):=⟨rfl,rfl,rfl,by decide +kernel,rfl,by decide +kernel,by decide +kernel⟩
noncomputable def J6e:MU:=fun ds P n=>ds=[.bag]/\n+19<=9000/\∀ (t:T3) (n':Nat),t.ok 40->t.pos->n'<=n+19->P t.d n'
theorem SJ {w:World} {f:Addr} (F:Fun K "_law_face" "_law_face" CV f fd) (Z:Bi mg) {c:Cs} (Y:Ex K mg base c) (g0:Callee P w K mg base CX0 "_law_take" 1 ["_law_bag_here","_law_many"] (Z2 K BT GJ)) (g1:Callee P w K mg base CX0 "_law_corner" 3 ["_law_bag_here","_law_far"] (Z2 K BT VR)) (g2:Callee P w K mg base CX0 "_law_spot" 2 ["_law_numbers"] (Q3 K BT PR)):FnOk P w K mg base CX0 4 f fd ["_law_bag_here"] (Z2 K BT J6e):=by
 refine F.okC BI (fun ds PP n h=>?_) (fun cdv A outer s H E M bg ds PP n hr hS_=>?_)
 · obtain ⟨rfl,hn,hP⟩:=h
   exact ⟨rfl,List.mem_cons_self ..⟩
 · obtain ⟨rfl,hn,hP⟩:=hS_
   refine ⟨_,(V0 (AI (i:=1) BI.nd rfl (by walk_at "o") (IV (Q0 K (by rfl)) V1 (J7 fun H0=>(AS (J0 J1 (J0 J1 (J0 J1 (J0 J1 (J0 J1 (J0 J1 (J0 J1 (J0 J1 J4)))))))))) (V5 g0 hr.m rfl (J6 (cjv 0) (J6 (J7 fun H0=>J1) Q6))) (fun _ _=>rfl)))
    (V0 (ZD (AW [2,3,4]) (PH (X:=(V4 CX0 P w K mg base ["_law_bag_here","_law_far","_law_a","_law_b","_law_c"] "_law_face" (J3 CV) f cdv A outer s H E).nox) (Y8 0) (J5f (X:=(V4 CX0 P w K mg base ["_law_bag_here","_law_far","_law_a","_law_b","_law_c"] "_law_face" (J3 CV) f cdv A outer s H E).nox) (N':=["_law_place","_law_bag_here","_law_far"]) (map:=[none,some 0,some 1]) (by rfl) (by rfl) (by decide +kernel) (by rfl) ⟨⟨rfl,rfl,rfl,by walk_at "o"⟩,⟨⟨rfl,rfl,rfl,by walk_at "o"⟩,True.intro⟩⟩ (gkeep_name rfl) fun cl0 C0 fp0 s0 H0=>⟨(pg_name (X:=(Q9 (V4 CX0 P w K mg base ["_law_bag_here","_law_far","_law_a","_law_b","_law_c"] "_law_face" (J3 CV) f cdv A outer s H E).nox ["_law_place","_law_bag_here","_law_far"] _ cl0 C0 fp0 s0 H0)) (i:=0) (Y1 ["_law_place","_law_bag_here","_law_far"] (by decide +kernel)) rfl (by walk_at "o")),PB,(V5 (X:=(Q9 (V4 CX0 P w K mg base ["_law_bag_here","_law_far","_law_a","_law_b","_law_c"] "_law_face" (J3 CV) f cdv A outer s H E).nox ["_law_place","_law_bag_here","_law_far"] _ cl0 C0 fp0 s0 H0)) g1 hr.m rfl (J6 (cjv 1) (J6 (J7 fun H0=>(jdv 2)) Q6)))⟩) (GQ fun H0=>(BF rfl Z.range_ (J0 J1 J4)))) (PG.or (Z8 (n:=3) K (by rfl) (by rfl) (J5 (pg_name (i:=2) BI.nd rfl (by walk_at "o")) (J5 (pg_name (i:=3) BI.nd rfl (by walk_at "o")) (J5 (pg_name (i:=4) BI.nd rfl (by walk_at "o")) V3)))) (Z9 (n:=3) K (by rfl) (by rfl) (J5 (pg_name (i:=2) BI.nd rfl (by walk_at "o")) (J5 (pg_name (i:=3) BI.nd rfl (by walk_at "o")) (J5 (pg_name (i:=4) BI.nd rfl (by walk_at "o")) V3))))))
    (V0 (FS (DN fun H0=>(AB DK CB (jdv 1) J1 (Y2 _))) (Z1 (AI (i:=4) BI.nd rfl (by walk_at "o") (J7 fun H0=>(Q7 g2 hr.m rfl (J0 (Y7 (J0 (J9 Q8 Y6 (Q5 (Q0 K (by rfl)) V1 (jdv 2) J1 (fun _ _=>rfl)) J1) (J0 (J9 Q8 Y6 (Q5 (Q0 K (by rfl)) V1 (jdv 2) J1 (fun _ _=>rfl)) J1) (J0 (J9 BB Z4 (Q5 (Q0 K (by rfl)) V1 (jdv 2) J1 (fun _ _=>rfl)) J1) (J0 (J9 Q8 Y6 (Q5 (Q0 K (by rfl)) V1 (jdv 2) J1 (fun _ _=>rfl)) J1) J4))))) J4))))) DB)
    (Z1 (CL (J7 fun H0=>(Y7 (J0 (jdv 2) (J0 (jdv 3) (J0 (jdv 4) J4)))))))))),?_⟩
   walk_at "g"
   refine ⟨_,rfl,by omega,by decide,by decide,fun r1 n1 y0 y1 m1=>?_⟩
   walk_at "g"
   refine ixm y0 (by exact y1) fun dz mz=>?_
   obtain ⟨far,rfl,hf⟩:∃ z:Int,dz=.int z/\(z=0\/z=1\/z=3):=by
    simp only [List.mem_cons,List.not_mem_nil,or_false] at mz
    rcases mz with e|e|e|e|e|e|e|e<;>exact ⟨_,e,by decide⟩
   walk_at "g"
   walk_at "gc3"
   refine ⟨far,rfl,hf,by omega,fun ax ay az aw n2 oa pa m2=>?_⟩
   walk_at "g"
   refine ⟨far,rfl,hf,by omega,fun bx b_y bz bw n3 ob pb m3=>?_⟩
   walk_at "g"
   refine ⟨far,rfl,hf,by omega,fun cx cy cz cw n4 oc pc m4=>?_⟩
   obtain ⟨a1,a2,a3,a4⟩:=oa
   obtain ⟨b1,b2,b3,b4⟩:=ob
   obtain ⟨c1,c2,c3,c4⟩:=oc
   walk_at "g"
   walk_at "sp"
   · walk_at "g"
     have t2':Bd 3 2:=Bd.of (by decide) (by decide)
     have t1':Bd 3 1:=Bd.of (by decide) (by decide)
     refine ⟨_,_,_,_,40,rfl,by omega,⟨(Bd.mul a1 t2').mono (by decide),(Bd.mul a2 t2').mono (by decide),(Bd.add a3 t1').mono (by decide),(Bd.mul a4 t2').mono (by decide)⟩,by decide,fun x' y' z' w' hb hw _=>?_⟩
     walk_at "g"
     exact hP ⟨ax,ay,az,aw,bx,b_y,bz,bw,x',y',z',w'⟩ n4 ⟨a1.mono (by decide),a2.mono (by decide),a3.mono (by decide),a4.mono (by decide),b1.mono (by decide),b2.mono (by decide),b3.mono (by decide),b4.mono (by decide),hb.1,hb.2.1,hb.2.2.1,hb.2.2.2⟩ ⟨pa,pb,hw⟩ (by omega)
   · walk_at "g"
     exact hP ⟨ax,ay,az,aw,bx,b_y,bz,bw,cx,cy,cz,cw⟩ n4 ⟨a1.mono (by decide),a2.mono (by decide),a3.mono (by decide),a4.mono (by decide),b1.mono (by decide),b2.mono (by decide),b3.mono (by decide),b4.mono (by decide),c1.mono (by decide),c2.mono (by decide),c3.mono (by decide),c4.mono (by decide)⟩ ⟨pa,pb,pc⟩ (by omega)
theorem EqG.mkL3 {a b c x y z:Int}{neg:Bool}{P:D->Prop}(h:P (.bl ((decide (a=x)&&(decide (b=y)&&decide (c=z)))!=neg))):EqG neg (.lst [.int a,.int b,.int c]) (.lst [.int x,.int y,.int z]) P:=by
 refine ⟨_,_,rfl,rfl,Nat.le_of_ble_eq_true rfl,?_⟩
 have:PyData.eqv (.list [.int a,.int b,.int c]) (.list [.int x,.int y,.int z])=(decide (a=x)&&(decide (b=y)&&decide (c=z))):=by
  simp only [PyData.eqv,PyData.eqvAll,Bool.and_true]
  rfl
 show P (.bl (PyData.eqv (.list [.int a,.int b,.int c]) (.list [.int x,.int y,.int z])!=neg))
 rw [this]
 exact h
abbrev JP:Stmt:=top 65
theorem CF:FnScope ["_law_face_here","_law_dot","_law_a","_law_b","_law_c","_law_signs"] ["_law_face_here","_law_dot"] (J3 JP):=⟨rfl,rfl,rfl,by decide +kernel,rfl,by decide +kernel,by decide +kernel⟩
theorem J8a (t:T3)(px py:Int):(decide (t.s1 px py=1)&&(decide (t.s2 px py=1)&&decide (t.s3 px py=1))||(decide (t.s1 px py = -1)&&(decide (t.s2 px py = -1)&&decide (t.s3 px py = -1))))=decide (t.has px py):=by
 rw [Bool.eq_iff_iff]
 simp only [Bool.or_eq_true,Bool.and_eq_true,decide_eq_true_eq]
 unfold T3.has
 constructor
 · rintro (⟨h1,h2,h3⟩|⟨h1,h2,h3⟩)
   · rw [h1,h2,h3];decide
   · rw [h1,h2,h3];decide
 · rintro ⟨h1,h2,h3⟩
   have:t.s1 px py=1\/t.s1 px py = -1:=by
    have:=EH (shd t.ax t.ay t.aw t.bx t.b_y t.bw px py)
    unfold T3.s1 at h1 ⊢
    rcases this with ⟨_,e⟩|⟨_,e⟩|⟨_,e⟩
    · exact .inl e
    · exact absurd e h1
    · exact .inr e
   rcases this with e|e
   · exact .inl ⟨e,h2.trans e,h3.trans e⟩
   · exact .inr ⟨e,h2.trans e,h3.trans e⟩
noncomputable def ZL:DSp:=fun ds P _=>∃ (t:T3) (px py:Int),ds=[t.d,t2 px py]/\t.ok 600/\Bd 600 px/\Bd 600 py/\P (.bl (decide (t.has px py)))
theorem UN {w:World} {f:Addr} (F:Fun K "_law_has" "_law_has" JP f fd) (Z:Bi mg) {c:Cs} (Y:Ex K mg base c) (g0:Callee P w K mg base CX0 "_law_shifted" 2 ["_law_a","_law_b","_law_dot"] (Q3 K BT J5z)):FnOk P w K mg base CX0 3 f fd ["_law_face_here","_law_dot"] (Q3 K BT ZL):=by
 refine F.okD CF (fun ds PP Ed h=>?_) (fun cdv A outer s H E M bg ds PP Ed hr hS_=>?_)
 · obtain ⟨t,px,py,rfl,ok,hx,hy,hP⟩:=h
   rfl
 · obtain ⟨t,px,py,rfl,ok,hx,hy,hP⟩:=hS_
   refine ⟨_,(J8 (EE (AW [2,3,4]) (jdv 0) (PG.or (Z8 (n:=3) K (by rfl) (by rfl) (J5 (pg_name (i:=2) CF.nd rfl (by walk_at "o")) (J5 (pg_name (i:=3) CF.nd rfl (by walk_at "o")) (J5 (pg_name (i:=4) CF.nd rfl (by walk_at "o")) V3)))) (Z9 (n:=3) K (by rfl) (by rfl) (J5 (pg_name (i:=2) CF.nd rfl (by walk_at "o")) (J5 (pg_name (i:=3) CF.nd rfl (by walk_at "o")) (J5 (pg_name (i:=4) CF.nd rfl (by walk_at "o")) V3))))))
    (J8 (Y0 (i:=5) CF.nd rfl (by walk_at "o") (AS (J0 (Q7 g0 hr.m rfl (J0 (jdv 2) (J0 (jdv 3) (J0 (jdv 1) J4)))) (J0 (Q7 g0 hr.m rfl (J0 (jdv 3) (J0 (jdv 4) (J0 (jdv 1) J4)))) (J0 (Q7 g0 hr.m rfl (J0 (jdv 4) (J0 (jdv 2) (J0 (jdv 1) J4)))) J4)))))
    (Q4 (V6 (Q2o (DJ (J2t K (by rfl) hr.units) IK (jdv 5) (AS (J0 J1 (J0 J1 (J0 J1 J4)))) (Y2 _)) (NM (DJ (J2t K (by rfl) hr.units) IK (jdv 5) (AS (J0 (FD J1) (J0 (FD J1) (J0 (FD J1) J4)))) (Y2 _)))))))),?_⟩
   rw [<- J8a] at hP
   walk_at "g"
   refine ⟨_,_,_,_,_,_,_,_,_,_,rfl,⟨ok.ax,ok.ay,ok.aw⟩,⟨ok.bx,ok.b_y,ok.bw⟩,⟨hx,hy⟩,?_⟩
   walk_at "g"
   refine ⟨_,_,_,_,_,_,_,_,_,_,rfl,⟨ok.bx,ok.b_y,ok.bw⟩,⟨ok.cx,ok.cy,ok.cw⟩,⟨hx,hy⟩,?_⟩
   walk_at "g"
   refine ⟨_,_,_,_,_,_,_,_,_,_,rfl,⟨ok.cx,ok.cy,ok.cw⟩,⟨ok.ax,ok.ay,ok.aw⟩,⟨hx,hy⟩,?_⟩
   unfold T3.s1 T3.s2 T3.s3 at hP
   generalize sgn (shd t.ax t.ay t.aw t.bx t.b_y t.bw px py)=s1 at hP ⊢
   generalize sgn (shd t.bx t.b_y t.bw t.cx t.cy t.cw px py)=s2 at hP ⊢
   generalize sgn (shd t.cx t.cy t.cw t.ax t.ay t.aw px py)=s3 at hP ⊢
   walk_at "g"
   refine EqG.mkL3 ?_
   cases hb:(decide (s1=1)&&(decide (s2=1)&&decide (s3=1)))
   · rw [hb,Bool.false_or] at hP
     walk_at "g"
     refine EqG.mkL3 ?_
     walk_at "g"
     rw [Bool.bne_false]
     exact hP
   · rw [hb,Bool.true_or] at hP
     walk_at "g"
     exact hP
abbrev J6t:Stmt:=top 68
noncomputable def Q7u:DSp:=fun ds P _=>∃ n:Int,ds=[.int n]/\P (.bl true)
abbrev HB:Stmt:=top 74
theorem BJ:FnScope ["_law_face_here","_law_dot","_law_top","_law_near","_law_corner_here","_law_below"] ["_law_face_here","_law_dot"] (J3 HB):=⟨rfl,rfl,rfl,by decide +kernel,rfl,by decide +kernel,by decide +kernel⟩
noncomputable def J6b:DSp:=fun ds P _=>∃ (t:T3) (px py:Int),ds=[t.d,t2 px py]/\t.ok 60/\Bd 60 px/\Bd 60 py/\t.tn≠0/\P (t2 (t.top px py*sgn t.tn) (PN t.tn))
theorem QH {w:World} {f:Addr} (F:Fun K "_law_depth" "_law_depth" HB f fd) (Z:Bi mg) {c:Cs} (Y:Ex K mg base c) (g0:Callee P w K mg base CX0 "_law_turn" 1 ["_law_face_here"] (Q3 K BT TQ)) (g1:Callee P w K mg base CX0 "_law_leans" 2 ["_law_face_here","_law_dot"] (Q3 K BT PU)):FnOk P w K mg base CX0 3 f fd ["_law_face_here","_law_dot"] (Q3 K BT J6b):=by
 refine F.okD BJ (fun ds PP Ed h=>?_) (fun cdv A outer s H E M bg ds PP Ed hr hS_=>?_)
 · obtain ⟨t,px,py,rfl,ok,hx,hy,h0,hP⟩:=h
   rfl
 · obtain ⟨t,px,py,rfl,ok,hx,hy,h0,hP⟩:=hS_
   refine ⟨_,(J8 (Y0 (i:=2) BJ.nd rfl (by walk_at "o") J1)
    (J8 (FA (AW [3,4]) PassesOwn.never rfl (JB (by rfl) false true rfl Z.zip_ (J0 (Q7 g1 hr.m rfl (J0 (jdv 0) (J0 (jdv 1) J4))) (J0 (jdv 0) J4)) (IY K (by rfl) false true rfl Z.zip_ (JA.h (J0 (Q7 g1 hr.m rfl (J0 (jdv 0) (J0 (jdv 1) J4))) (J0 (jdv 0) J4))))) (PG.or (Z8 (n:=2) K (by rfl) (by rfl) (J5 (pg_name (i:=3) BJ.nd rfl (by walk_at "o")) (J5 (pg_name (i:=4) BJ.nd rfl (by walk_at "o")) V3))) (Z9 (n:=2) K (by rfl) (by rfl) (J5 (pg_name (i:=3) BJ.nd rfl (by walk_at "o")) (J5 (pg_name (i:=4) BJ.nd rfl (by walk_at "o")) V3)))) (Q4 (Y0 (i:=2) BJ.nd rfl (by walk_at "o") (J9 BB Z4 (jdv 2) (J9 Q8 Y6 (jdv 3) (Q5 (Q0 K (by rfl)) V1 (jdv 4) J1 (fun _ _=>rfl)))))))
    (J8 (Y0 (i:=5) BJ.nd rfl (by walk_at "o") (Q7 g0 hr.m rfl (J0 (jdv 0) J4)))
    (Q4 (V6 (Q2p (AB UG HV (jdv 5) J1 (Y2 _)) (Y7 (J0 (jdv 2) (J0 (jdv 5) J4))) (Y7 (J0 (J9 AG Z4 J1 (jdv 2)) (J0 (J9 AG Z4 J1 (jdv 5)) J4))))))))),?_⟩
   have bA:=T3.wA_bd ok hx hy (by decide)
   have bB:=T3.wB_bd ok hx hy (by decide)
   have bC:=T3.wC_bd ok hx hy (by decide)
   have z1:=ok.az
   have z2:=ok.bz
   have z3:=ok.cz
   walk_at "g"
   refine ⟨t,px,py,rfl,ok,hx,hy,?_⟩
   walk_at "g"
   walk_at "gr"
   refine ⟨t,rfl,ok,?_⟩
   have e:0+t.wA px py*t.az+t.wB px py*t.bz+t.wC px py*t.cz=t.top px py:=by unfold T3.top;omega
   have s0:0<t.tn->sgn t.tn=1:=fun h=>by unfold sgn;simp [h]
   have s1:t.tn<0->sgn t.tn = -1:=fun h=>by unfold sgn;split<;>omega
   walk_at "g"
   walk_at "sp"
   · rename_i h
     have h:t.tn>0:=h
     rw [s0 h,show PN t.tn=t.tn from if_neg (by omega),Int.mul_one,<- e] at hP
     walk_at "g"
     exact hP
   · rename_i h
     have h:¬ t.tn>0:=h
     rw [s1 (by omega),show PN t.tn=0 - t.tn from (if_pos (by omega)).trans (by omega),show t.top px py * -1=0 - t.top px py by omega,<- e] at hP
     walk_at "g"
     exact hP
abbrev GC:Stmt:=top 75
theorem OA:FnScope ["_law_one","_law_other"] ["_law_one","_law_other"] (J3 GC):=⟨rfl,rfl,rfl,by decide +kernel,rfl,by decide +kernel,by decide +kernel⟩
noncomputable def ZK:DSp:=fun ds P _=>∃ (a b c e:Int),ds=[t2 a b,t2 c e]/\(Bd 2000 a/\Bd 2000 b)/\(Bd 2000 c/\Bd 2000 e)/\P (.bl (decide (a*e<c*b)))
theorem OO {w:World} {f:Addr} (F:Fun K "_law_nearer" "_law_nearer" GC f fd) (Z:Bi mg) {c:Cs} (Y:Ex K mg base c):FnOk P w K mg base CX0 1 f fd ["_law_one","_law_other"] (Q3 K BT ZK):=by
 refine F.okD OA (fun ds PP Ed h=>?_) (fun cdv A outer s H E M bg ds PP Ed hr hS_=>?_)
 · obtain ⟨a,b,c,e,rfl,⟨h1,h2⟩,⟨h3,h4⟩,hP⟩:=h
   rfl
 · obtain ⟨a,b,c,e,rfl,⟨h1,h2⟩,⟨h3,h4⟩,hP⟩:=hS_
   refine ⟨_,(Q4 (V6 (DJ OE HV (J9 Q8 Y6 (Q5 (Q0 K (by rfl)) V1 (jdv 0) J1 (fun _ _=>rfl)) (Q5 (Q0 K (by rfl)) V1 (jdv 1) J1 (fun _ _=>rfl))) (J9 Q8 Y6 (Q5 (Q0 K (by rfl)) V1 (jdv 1) J1 (fun _ _=>rfl)) (Q5 (Q0 K (by rfl)) V1 (jdv 0) J1 (fun _ _=>rfl))) (Y2 _)))),?_⟩
   walk_at "g"
   exact hP
abbrev AK:Stmt:=top 76
theorem AD:FnScope ["_law_things_here","_law_dot","_law_found","_law_face_here","_law_coat_here","_law_cover","_law_deep","_law_at"] ["_law_things_here","_law_dot"] (J3 AK):=⟨rfl,rfl,rfl,by decide +kernel,rfl,by decide +kernel,by decide +kernel⟩
def prD (o:DSh):D:=.tup [dpD o,o.2]
def Q5s:D->D
 | .tup [_,s]=>s
 | _=>.non
theorem Q1k (L:List DSh):(L.map prD).map Q5s=L.map (·.2):=by
 rw [List.map_map]
 rfl
theorem Q4e {ct:Ct}{t:T3}{px py:Int}(co:ct.ok):∃ a b c:Int,ct.at t px py=t3 a b c:=by
 cases ct with
 | pl k=>exact ⟨_,_,_,rfl⟩
 | wv a b k=>exact ⟨_,_,_,rfl⟩
 | pc rows p q r =>
   obtain ⟨row,k,e1,e2,e3,m1,m2⟩:=UF (u:=t.mix px py p.1 q.1 r.1) (v:=t.mix px py p.2 q.2 r.2) co.1.1 fun r hr'=>(co.2.1 r hr').1.1
   exact ⟨_,_,_,e3⟩
def Q6n (d:D):Prop:=∃ a b c i:Int,d=.tup [t3 a b c,.int i]
theorem J9r {px py:Int}{xs:List Thg}(h:∀ x∈xs,x.ok)(i:Nat):∀ o∈shN px py xs i,Q6n o.2:=KJ (q:=fun o=>Q6n o.2) (fun x hx _=>by
 obtain ⟨a,b,c,e⟩:=Q4e (t:=x.t) (px:=px) (py:=py) (h x hx).c
 exact ⟨a,b,c,x.cv,by show Thg.sh x px py=_;unfold Thg.sh;rw [e]⟩) i
noncomputable def RJ:DSp:=fun ds P _=>∃ (xs:List Thg) (px py:Int),ds=[.lst (xs.map Thg.d),t2 px py]/\(∀ x∈xs,x.ok)/\xs.length<=30/\Bd 60 px/\Bd 60 py/\P (.lst ((J6r px py xs).map (·.2)))
theorem OL {w:World} {f:Addr} (F:Fun K "_law_sheets" "_law_sheets" AK f fd) (Z:Bi mg) {c:Cs} (Y:Ex K mg base c) (g0:Callee P w K mg base CX0 "_law_has" 3 ["_law_face_here","_law_dot"] (Q3 K BT ZL)) (g1:Callee P w K mg base CX0 "_law_depth" 3 ["_law_face_here","_law_dot"] (Q3 K BT J6b)) (g2:Callee P w K mg base CX0 "_law_of" 4 ["_law_coat_here","_law_face_here","_law_dot"] (Q3 K BT Q0r)) (g3:Callee P w K mg base CX0 "_law_nearer" 1 ["_law_one","_law_other"] (Q3 K BT ZK)):FnOk P w K mg base CX0 5 f fd ["_law_things_here","_law_dot"] (Q3 K BT RJ):=by
 refine F.okD AD (fun ds PP Ed h=>?_) (fun cdv A outer s H E M bg ds PP Ed hr hS_=>?_)
 · obtain ⟨xs,px,py,rfl,hxs,hl,hx,hy,hP⟩:=h
   rfl
 · obtain ⟨xs,px,py,rfl,hxs,hl,hx,hy,hP⟩:=hS_
   refine ⟨_,(J8 (LC (i:=2) AD.nd rfl (by walk_at "o") J4)
    (J8 (FA (AW [3,4,5]) PassesOwn.never rfl (AZ (by rfl) (jdv 0)) (PG.or (Z8 (n:=3) K (by rfl) (by rfl) (J5 (pg_name (i:=3) AD.nd rfl (by walk_at "o")) (J5 (pg_name (i:=4) AD.nd rfl (by walk_at "o")) (J5 (pg_name (i:=5) AD.nd rfl (by walk_at "o")) V3)))) (Z9 (n:=3) K (by rfl) (by rfl) (J5 (pg_name (i:=3) AD.nd rfl (by walk_at "o")) (J5 (pg_name (i:=4) AD.nd rfl (by walk_at "o")) (J5 (pg_name (i:=5) AD.nd rfl (by walk_at "o")) V3))))) (Q4 (CN (DI (by rfl) (Q7 g0 hr.m rfl (J0 (jdv 3) (J0 (jdv 1) J4))) (fun _=>rfl)) (J8 (Y0 (i:=6) AD.nd rfl (by walk_at "o") (Q7 g1 hr.m rfl (J0 (jdv 3) (J0 (jdv 1) J4))))
    (J8 (Y0 (i:=7) AD.nd rfl (by walk_at "o") (V9 (AL K (by rfl)) HP rfl Z.len_ GI (J0 (Z6 (X:=(V4 CX0 P w K mg base ["_law_things_here","_law_dot","_law_found","_law_face_here","_law_coat_here","_law_cover","_law_deep","_law_at"] "_law_sheets" (J3 AK) f cdv A outer s H E).nox) (Y8 0) (ET (X:=(V4 CX0 P w K mg base ["_law_things_here","_law_dot","_law_found","_law_face_here","_law_coat_here","_law_cover","_law_deep","_law_at"] "_law_sheets" (J3 AK) f cdv A outer s H E).nox) (N':=["_law_one","_law_deep"]) (map:=[none,some 6]) (by rfl) (by rfl) (by decide +kernel) (by rfl) ⟨⟨rfl,rfl,rfl,by walk_at "o"⟩,True.intro⟩ (gkeep_name rfl) fun cl0 C0 fp0 s0 H0=>⟨(pg_name (X:=(Q9 (V4 CX0 P w K mg base ["_law_things_here","_law_dot","_law_found","_law_face_here","_law_coat_here","_law_cover","_law_deep","_law_at"] "_law_sheets" (J3 AK) f cdv A outer s H E).nox ["_law_one","_law_deep"] _ cl0 C0 fp0 s0 H0)) (i:=0) (Y1 ["_law_one","_law_deep"] (by decide +kernel)) rfl (by walk_at "o")),(UW (IZ (DI (by rfl) (Q7 g3 hr.m rfl (J0 (jdv 1) (J0 (Q5 (Q0 K (by rfl)) V1 (jdv 0) J1 (fun _ _=>rfl)) J4))) (fun _=>rfl)))),(jdv (X:=(Q9 (V4 CX0 P w K mg base ["_law_things_here","_law_dot","_law_found","_law_face_here","_law_coat_here","_law_cover","_law_deep","_law_at"] "_law_sheets" (J3 AK) f cdv A outer s H E).nox ["_law_one","_law_deep"] _ cl0 C0 fp0 s0 H0)) 0)⟩) (AZ (by rfl) (jdv 2))) J4)))
    (Q4 (JU (i:=2) (by rfl) (J0 (jdv 7) (J0 (Y7 (J0 (jdv 6) (J0 (Y7 (J0 (Q7 g2 hr.m rfl (J0 (jdv 4) (J0 (jdv 3) (J0 (jdv 1) J4)))) (J0 (jdv 5) J4))) J4))) J4)) (HU PySem.F.plainAttrs_list PySem.F.slot_list_insert PySem.F.type_list_insert ME (pv 2) (JA.h (J0 (jdv 7) (J0 (Y7 (J0 (jdv 6) (J0 (Y7 (J0 (Q7 g2 hr.m rfl (J0 (jdv 4) (J0 (jdv 3) (J0 (jdv 1) J4)))) (J0 (jdv 5) J4))) J4))) J4)))))))) AT)))
    (Q4 (V6 (Z6 (X:=(V4 CX0 P w K mg base ["_law_things_here","_law_dot","_law_found","_law_face_here","_law_coat_here","_law_cover","_law_deep","_law_at"] "_law_sheets" (J3 AK) f cdv A outer s H E).nox) (AW [0,1]) (ET (X:=(V4 CX0 P w K mg base ["_law_things_here","_law_dot","_law_found","_law_face_here","_law_coat_here","_law_cover","_law_deep","_law_at"] "_law_sheets" (J3 AK) f cdv A outer s H E).nox) (N':=["_law_deep","_law_sheet"]) (map:=[none,none]) (by rfl) (by rfl) (by decide +kernel) (by rfl) True.intro (gkeep_seq (js:=[0,1]) (by decide)) fun cl0 C0 fp0 s0 H0=>⟨(PG.or (Z8 (n:=2) K (by rfl) (by rfl) (J5 (pg_name (i:=0) (Y1 ["_law_deep","_law_sheet"] (by decide +kernel)) rfl (by walk_at "o")) (J5 (pg_name (i:=1) (Y1 ["_law_deep","_law_sheet"] (by decide +kernel)) rfl (by walk_at "o")) V3))) (Z9 (n:=2) K (by rfl) (by rfl) (J5 (pg_name (i:=0) (Y1 ["_law_deep","_law_sheet"] (by decide +kernel)) rfl (by walk_at "o")) (J5 (pg_name (i:=1) (Y1 ["_law_deep","_law_sheet"] (by decide +kernel)) rfl (by walk_at "o")) V3)))),Z5,(jdv (X:=(Q9 (V4 CX0 P w K mg base ["_law_things_here","_law_dot","_law_found","_law_face_here","_law_coat_here","_law_cover","_law_deep","_law_at"] "_law_sheets" (J3 AK) f cdv A outer s H E).nox ["_law_deep","_law_sheet"] _ cl0 C0 fp0 s0 H0)) 1)⟩) (AZ (by rfl) (jdv 2))))))),?_⟩
   walk_at "g"
   refine ⟨fun i ρ=>∃ v4 v5 v6 v7 v8,ρ=[some (.lst (xs.map Thg.d)),some (t2 px py),some (.own ((shN px py xs i).map prD)),v4,v5,v6,v7,v8],⟨_,_,_,_,_,rfl⟩,?_,?_⟩
   · rintro i x ρ e ⟨v4,v5,v6,v7,v8,rfl⟩
     rw [List.getElem?_map] at e
     obtain ⟨x,ex,rfl⟩:=Option.map_eq_some_iff.mp e
     have ok:=hxs x (List.mem_of_getElem? ex)
     obtain ⟨cs,ecs⟩:∃ cs,x.ct.d=.tup cs:=by cases x.ct<;>exact ⟨_,rfl⟩
     have hi:=(List.getElem?_eq_some_iff.mp ex).1
     have hlen:=KI px py xs i
     have hb:=KJ (px:=px) (py:=py) (xs:=xs) (q:=fun o=>Bd 300 o.1.1/\Bd 300 o.1.2) (fun x hx' _=>Thg.dp_bd (hxs x hx').t hx hy) i
     have hs:=J9r (px:=px) (py:=py) hxs i
     rw [show x.d=.tup [x.t.d,.tup cs,.int x.cv] from by unfold Thg.d;rw [ecs]]
     rw [TY ex]
     clear e
     generalize shN px py xs i=L at hlen hb hs ⊢
     unfold KH
     walk_at "g"
     refine ⟨x.t,px,py,rfl,ok.t.mono (by decide),hx.mono (by decide),hy.mono (by decide),?_⟩
     by_cases hh:x.t.has px py
     · have t0:=T3.has_tn ok.p hh
       rw [if_pos hh]
       refine IfP.t (by simp [hh]) ?_
       walk_at "g"
       refine ⟨x.t,px,py,rfl,ok.t,hx,hy,t0,?_⟩
       walk_at "g"
       refine And.intro (by rw [List.length_map];omega) ?_
       refine ⟨fun j acc=>acc.length=((L.take j).filter (WY (x.dp px py))).length,rfl,fun j y acc e hacc=>?_,fun acc hacc=>?_⟩
       · rw [List.getElem?_map] at e
         obtain ⟨o,eo,rfl⟩:=Option.map_eq_some_iff.mp e
         obtain ⟨sa,sb,sc,si,eS⟩:=hs o (List.mem_of_getElem? eo)
         have tf:=KF eo (WY (x.dp px py))
         rw [show prD o=.tup [t2 o.1.1 o.1.2,.tup [t3 sa sb sc,.int si]] from by unfold prD;rw [eS];rfl]
         walk_at "g"
         refine ⟨_,_,_,_,rfl,⟨(Thg.dp_bd ok.t hx hy).1.mono (by decide),(Thg.dp_bd ok.t hx hy).2.mono (by decide)⟩,⟨(hb o (List.mem_of_getElem? eo)).1.mono (by decide),(hb o (List.mem_of_getElem? eo)).2.mono (by decide)⟩,?_⟩
         have eq:WY (x.dp px py) o = !decide (x.t.top px py*sgn x.t.tn*o.1.2<o.1.1*PN x.t.tn):=rfl
         rw [eq] at tf
         by_cases hq:x.t.top px py*sgn x.t.tn*o.1.2<o.1.1*PN x.t.tn
         · refine IfP.f (by simp [hq]) ?_
           walk_at "g"
           rw [hacc,tf];simp [hq]
         · refine IfP.t (by simp [hq]) ?_
           walk_at "g"
           rw [List.length_append,hacc,tf];simp [hq]
       · rw [List.length_map,List.take_length] at hacc
         have hacc:acc.length=WI (x.dp px py) L:=hacc
         have hpl:=RW (x.dp px py) L
         walk_at "g"
         refine ⟨x.ct,x.t,px,py,by rw [ecs],ok.c,ok.t,t0,hx,hy,?_⟩
         walk_at "g"
         refine And.intro (ok2 (ct_plain ok.c)) ?_
         walk_at "g"
         refine And.intro ⟨rfl,by omega,by rw [List.length_map];omega,by rw [List.length_map];omega⟩ ?_
         rw [Int.toNat_natCast,hacc,OW]
         exact ⟨_,_,_,_,_,rfl⟩
     · rw [if_neg hh]
       refine IfP.f (by simp [hh]) ?_
       walk_at "g"
       exact ⟨_,_,_,_,_,rfl⟩
   · rintro ρ ⟨v4,v5,v6,v7,v8,rfl⟩
     rw [List.length_map]
     have hlen:=KI px py xs xs.length
     have hs:=J9r (px:=px) (py:=py) hxs xs.length
     have hP:PP (.lst ((shN px py xs xs.length).map (·.2))):=hP
     generalize shN px py xs xs.length=L at hlen hs hP ⊢
     walk_at "g"
     refine And.intro (by rw [List.length_map];omega) ?_
     rw [<- Q1k] at hP
     refine FR Q5s (fun d Q hd hQ=>?_) (fun d hd=>?_) hP
     · obtain ⟨o,ho,rfl⟩:=List.mem_map.mp hd
       obtain ⟨sa,sb,sc,si,eS⟩:=hs o ho
       rw [show prD o=.tup [t2 o.1.1 o.1.2,.tup [t3 sa sb sc,.int si]] from by unfold prD;rw [eS];rfl] at hQ ⊢
       walk_at "g"
       exact hQ
     · obtain ⟨o,ho,rfl⟩:=List.mem_map.mp hd
       obtain ⟨sa,sb,sc,si,eS⟩:=hs o ho
       show plain o.2=true
       rw [eS];rfl
abbrev CA:Stmt:=top 78
theorem AN:FnScope ["_law_things_here","_law_found","_law_face_here","_law_coat_here","_law_cover"] ["_law_things_here"] (J3 CA):=⟨rfl,rfl,rfl,by decide +kernel,rfl,by decide +kernel,by decide +kernel⟩
noncomputable def RK:DSO:=fun ds P _=>∃ xs:List Thg,ds=[.lst (xs.map Thg.d)]/\(∀ x∈xs,x.ok)/\xs.length<=30/\P (xs.map Thg.d)
theorem OQ {w:World} {f:Addr} (F:Fun K "_law_copies" "_law_copies" CA f fd) (Z:Bi mg) {c:Cs} (Y:Ex K mg base c):FnOk P w K mg base CX0 1 f fd ["_law_things_here"] (DR K BT RK):=by
 refine F.okDO AN (fun ds PP Ed h=>?_) (fun cdv A outer s H E M bg ds PP Ed hr hS_=>?_)
 · obtain ⟨xs,rfl,hxs,hl,hP⟩:=h
   rfl
 · obtain ⟨xs,rfl,hxs,hl,hP⟩:=hS_
   refine ⟨_,(J8 (LC (i:=1) AN.nd rfl (by walk_at "o") J4)
    (J8 (FA (AW [2,3,4]) PassesOwn.never rfl (AZ (by rfl) (jdv 0)) (PG.or (Z8 (n:=3) K (by rfl) (by rfl) (J5 (pg_name (i:=2) AN.nd rfl (by walk_at "o")) (J5 (pg_name (i:=3) AN.nd rfl (by walk_at "o")) (J5 (pg_name (i:=4) AN.nd rfl (by walk_at "o")) V3)))) (Z9 (n:=3) K (by rfl) (by rfl) (J5 (pg_name (i:=2) AN.nd rfl (by walk_at "o")) (J5 (pg_name (i:=3) AN.nd rfl (by walk_at "o")) (J5 (pg_name (i:=4) AN.nd rfl (by walk_at "o")) V3))))) (J8 (CN (AB DK CB (Q5 (Q0 K (by rfl)) V1 (jdv 3) J1 (fun _ _=>rfl)) FC (Y2 _)) (Q4 (Y0 (i:=3) AN.nd rfl (by walk_at "o") (J9 (J2u K (by rfl)) J2w (Y7 (J0 (Q5 (Q0 K (by rfl)) V1 (jdv 3) J1 (fun _ _=>rfl)) (J0 (Z6 (X:=(V4 CX0 P w K mg base ["_law_things_here","_law_found","_law_face_here","_law_coat_here","_law_cover"] "_law_copies" (J3 CA) f cdv A outer s H E).nox) (Y8 0) (ET (X:=(V4 CX0 P w K mg base ["_law_things_here","_law_found","_law_face_here","_law_coat_here","_law_cover"] "_law_copies" (J3 CA) f cdv A outer s H E).nox) (N':=["_law_row"]) (map:=[none]) (by rfl) (by rfl) (by decide +kernel) (by rfl) True.intro (gkeep_name rfl) fun cl0 C0 fp0 s0 H0=>⟨(pg_name (X:=(Q9 (V4 CX0 P w K mg base ["_law_things_here","_law_found","_law_face_here","_law_coat_here","_law_cover"] "_law_copies" (J3 CA) f cdv A outer s H E).nox ["_law_row"] _ cl0 C0 fp0 s0 H0)) (i:=0) (Y1 ["_law_row"] (by decide +kernel)) rfl (by walk_at "o")),Z5,(AH (X:=(Q9 (V4 CX0 P w K mg base ["_law_things_here","_law_found","_law_face_here","_law_coat_here","_law_cover"] "_law_copies" (J3 CA) f cdv A outer s H E).nox ["_law_row"] _ cl0 C0 fp0 s0 H0)) (JH K (by rfl)) ZG rfl Z.list_ TH (J0 (jdv 0) J4))⟩) (AZ (by rfl) (Q5 (Q0 K (by rfl)) V1 (jdv 3) J1 (fun _ _=>rfl)))) J4))) (EJ (JJ K (by rfl)) (jdv 3) (FN J1) FP)))) AT)
    (Q4 (XE (i:=1) (by rfl) rfl (by walk_at "v") (J0 (Y7 (J0 (jdv 2) (J0 (jdv 3) (J0 (jdv 4) J4)))) J4) (HU PySem.F.plainAttrs_list PySem.F.slot_list_append PySem.F.type_list_append DY (pv 1) (JA.h (J0 (Y7 (J0 (jdv 2) (J0 (jdv 3) (J0 (jdv 4) J4)))) J4)))))))
    (Q4 (UU (jdv 1))))),?_⟩
   walk_at "g"
   refine ⟨fun i ρ=>∃ v2 v3 v4,ρ=[some (.lst (xs.map Thg.d)),some (.own ((xs.take i).map Thg.d)),v2,v3,v4],⟨_,_,_,rfl⟩,?_,?_⟩
   · rintro i x ρ e ⟨v2,v3,v4,rfl⟩
     rw [List.getElem?_map] at e
     obtain ⟨x,ex,rfl⟩:=Option.map_eq_some_iff.mp e
     have ok:=hxs x (List.mem_of_getElem? ex)
     have hi:=(List.getElem?_eq_some_iff.mp ex).1
     have et:(xs.take (i+1)).map Thg.d=(xs.take i).map Thg.d++[x.d]:=by rw [List.take_succ,ex,List.map_append];rfl
     have hlen:((xs.take i).map Thg.d).length<=30:=by rw [List.length_map,List.length_take];omega
     rw [et]
     clear e et
     generalize (xs.take i).map Thg.d=L at hlen ⊢
     obtain ⟨t,ct,cv⟩:=x
     have hL:(true&&decide (L.length<1000))=true:=by simp;omega
     cases ct with
     | pl k =>
       walk_at "g"
       refine And.intro hL ?_
       exact ⟨_,_,_,rfl⟩
     | wv k1 k2 k3 =>
       walk_at "g"
       refine And.intro hL ?_
       exact ⟨_,_,_,rfl⟩
     | pc rows p q r =>
       obtain ⟨⟨l1,l2⟩,hr,hb⟩:=ok.c
       walk_at "g"
       refine And.intro (by rw [List.length_map];omega) ?_
       refine FR (fun d=>d) (fun d Q hd hQ=>?_) (fun d hd=>?_) ?_
       · obtain ⟨row,hrow,rfl⟩:=List.mem_map.mp hd
         have:=(hr row hrow).1.2
         walk_at "g"
         exact hQ
       · obtain ⟨row,hrow,rfl⟩:=List.mem_map.mp hd
         rfl
       · rw [List.map_id']
         walk_at "g"
         refine And.intro (by intro h;simp [HT.sIx] at h;done) ?_
         walk_at "g"
         refine And.intro hL ?_
         exact ⟨_,_,_,rfl⟩
   · rintro ρ ⟨v2,v3,v4,rfl⟩
     rw [List.length_map,List.take_length]
     walk_at "g"
     exact hP
def UR (t b:Int):Int×Int:=(t.fdiv (low [t] b),b.fdiv (low [t] b))
structure FO (n:Nat)(f:Int×Int):Prop where
 p:0<f.2
 l:0<=f.1
 u:f.1<=255*f.2
 b:Bd n f.2
theorem FO.mono {m n:Nat}{f:Int×Int}(h:FO m f)(k:m<=n):FO n f:=⟨h.p,h.l,h.u,h.b.mono k⟩
theorem FO.t {n:Nat}{f:Int×Int}(h:FO n f):Bd (n+8) f.1:=by
 have h1:=h.b.lt
 have h2:=h.u
 have h3:=h.l
 have h4:=h.p
 refine Bd.of ?_ ?_
 · have:(0:Int)<((2 ^ (n+8):Nat):Int):=by exact_mod_cast Nat.pow_pos (by decide)
   omega
 · have:((2 ^ (n+8):Nat):Int)=256*((2 ^ n:Nat):Int):=by rw [Nat.pow_add];push_cast;omega
   omega
def frD (f:Int×Int):D:=t2 f.1 f.2
theorem YM {t b:Int}(hb:0<b)(ht:0<=t):0<(UR t b).2/\(UR t b).2<=b/\0<=(UR t b).1/\(UR t b).1*b=t*(UR t b).2:=by
 obtain ⟨x,y,e1,e2,y0,g,h,l1,l2⟩:=J3c (top:=t) (bottom:=b) (by omega)
 unfold UR
 rw [e1,e2]
 refine ⟨y0,by omega,?_,h⟩
 show 0<=x
 rcases Int.lt_or_le x 0 with z|z
 · have:=Int.mul_neg_of_neg_of_pos z hb
   have h2:0<=t*y:=Int.mul_nonneg ht (Int.le_of_lt y0)
   omega
 · exact z
def VE (v cv:Int)(f:Int×Int):Int×Int:=UR (cv*v*f.2+(8 - cv)*f.1) (8*f.2)
theorem SX {v cv:Int}{f:Int×Int}{n:Nat}(h:FO n f)(v0:0<=v)(v1:v<=255)(c0:0<=cv)(c1:cv<=8):0<=cv*v*f.2+(8 - cv)*f.1/\cv*v*f.2+(8 - cv)*f.1<=255*(8*f.2):=by
 have a1:0<=cv*v*f.2:=Int.mul_nonneg (Int.mul_nonneg c0 v0) (Int.le_of_lt h.p)
 have a2:0<=(8 - cv)*f.1:=Int.mul_nonneg (by omega) h.l
 have b1:cv*v*f.2<=cv*255*f.2:=Int.mul_le_mul_of_nonneg_right (Int.mul_le_mul_of_nonneg_left v1 c0) (Int.le_of_lt h.p)
 have b2:(8 - cv)*f.1<=(8 - cv)*(255*f.2):=Int.mul_le_mul_of_nonneg_left h.u (by omega)
 have e:cv*255*f.2+(8 - cv)*(255*f.2)=255*(8*f.2):=by
  rw [Int.sub_mul,Int.mul_assoc cv 255 f.2]
  have:(8:Int)*(255*f.2)=255*(8*f.2):=by ac_rfl
  omega
 exact ⟨by omega,by omega⟩
theorem SW {v cv:Int}{f:Int×Int}{n:Nat}(h:FO n f)(v0:0<=v)(v1:v<=255)(c0:0<=cv)(c1:cv<=8):FO (n+3) (VE v cv f):=by
 obtain ⟨h1,h2⟩:=SX h v0 v1 c0 c1
 have hb:0<8*f.2:=by have:=h.p;omega
 obtain ⟨q1,q2,q3,q4⟩:=YM hb h1
 unfold VE
 refine ⟨q1,q3,?_,?_⟩
 · refine Int.le_of_mul_le_mul_right (a:=8*f.2) ?_ hb
   rw [q4]
   calc _<=255*(8*f.2)*(UR (cv*v*f.2+(8 - cv)*f.1) (8*f.2)).2:=Int.mul_le_mul_of_nonneg_right h2 (Int.le_of_lt q1)
    _=_:=by ac_rfl
 · have:=h.b.lt
   have e:((2 ^ (n+3):Nat):Int)=8*((2 ^ n:Nat):Int):=by rw [Nat.pow_add];push_cast;omega
   exact Bd.of (by omega) (by omega)
structure Sh where
 (c0 c1 c2 cv:Int)
def Sh.d (s:Sh):D:=.tup [t3 s.c0 s.c1 s.c2,.int s.cv]
structure Sh.ok (s:Sh):Prop where
 a0:0<=s.c0
 a1:s.c0<=255
 b0:0<=s.c1
 b1:s.c1<=255
 d0:0<=s.c2
 d1:s.c2<=255
 e0:0<=s.cv
 e1:s.cv<=8
structure F9 where
 (f0 f1 f2:Int×Int)
def F9.d (f:F9):D:=.tup [frD f.f0,frD f.f1,frD f.f2]
structure F9.ok (n:Nat)(f:F9):Prop where
 o0:FO n f.f0
 o1:FO n f.f1
 o2:FO n f.f2
def F9.cov (f:F9)(s:Sh):F9:=⟨VE s.c0 s.cv f.f0,VE s.c1 s.cv f.f1,VE s.c2 s.cv f.f2⟩
theorem F9.cov_ok {n:Nat}{f:F9}{s:Sh}(h:f.ok n)(q:s.ok):(f.cov s).ok (n+3):=⟨SW h.o0 q.a0 q.a1 q.e0 q.e1,SW h.o1 q.b0 q.b1 q.e0 q.e1,SW h.o2 q.d0 q.d1 q.e0 q.e1⟩
def thru (ss:List Sh)(f:F9)(i:Nat):F9:=(ss.reverse.take i).foldl F9.cov f
theorem LP {ss:List Sh}{f:F9}{i:Nat}{s:Sh}(e:ss.reverse[i]?=some s):thru ss f (i+1)=(thru ss f i).cov s:=by
 unfold thru
 rw [List.take_succ,e,List.foldl_append]
 rfl
theorem KE {ss:List Sh}{f:F9}{n:Nat}(hf:f.ok n)(hs:∀ s∈ss,s.ok):∀ i,i<=ss.length->(thru ss f i).ok (n+3*i)
 | 0,_=>hf
 | i+1,hi=>by
   have ih:=KE hf hs i (by omega)
   have hl:i<ss.reverse.length:=by rw [List.length_reverse];omega
   have e:ss.reverse[i]?=some ss.reverse[i]:=List.getElem?_eq_getElem hl
   rw [LP e]
   have:=F9.cov_ok ih (hs _ (List.mem_reverse.mp (List.mem_of_getElem? e)))
   exact ⟨this.o0.mono (by omega),this.o1.mono (by omega),this.o2.mono (by omega)⟩
theorem J1y {ss:List Sh}{i:Nat}{x:D}(e:(ss.map Sh.d).reverse[i]?=some x):∃ s,ss.reverse[i]?=some s/\x=s.d:=by
 rw [<- List.map_reverse,List.getElem?_map] at e
 obtain ⟨s,e1,e2⟩:=Option.map_eq_some_iff.mp e
 exact ⟨s,e1,e2.symm⟩
inductive Bh where
 | col (a b c:Int)
 | fr (f:F9)
def Bh.d:Bh->D
 | .col a b c=>t3 a b c
 | .fr f=>f.d
def Bh.f:Bh->F9
 | .col a b c=>⟨(a,1),(b,1),(c,1)⟩
 | .fr f=>f
abbrev GY:Stmt:=top 26
theorem QB:FnScope ["one"] ["one"] (J3 GY):=⟨rfl,rfl,rfl,by decide +kernel,rfl,by decide +kernel,by decide +kernel⟩
noncomputable def ZJ:DSp:=fun ds P _=>∃ (f:Int×Int) (n:Nat),ds=[frD f]/\FO n f/\n<=1000/\P (.int (f.1 / f.2))
theorem QD {w:World} {f:Addr} (F:Fun K "whole_part" "whole_part" GY f fd) (Z:Bi mg) {c:Cs} (Y:Ex K mg base c):FnOk P w K mg base CX0 1 f fd ["one"] (Q3 K BT ZJ):=by
 refine F.okD QB (fun ds PP Ed h=>?_) (fun cdv A outer s H E M bg ds PP Ed hr hS_=>?_)
 · obtain ⟨q,n,rfl,ho,hn,hP⟩:=h
   rfl
 · obtain ⟨q,n,rfl,ho,hn,hP⟩:=hS_
   refine ⟨_,(Q4 (V6 (J9 CY Y6 (Q5 (Q0 K (by rfl)) V1 (jdv 0) J1 (fun _ _=>rfl)) (Q5 (Q0 K (by rfl)) V1 (jdv 0) J1 (fun _ _=>rfl))))),?_⟩
   walk_at "g"
   exact And.intro ⟨ho.p,n,ho.b,by omega⟩ hP
abbrev BN:Stmt:=top 50
theorem NC:FnScope ["behind"] ["behind"] (J3 BN):=⟨rfl,rfl,rfl,by decide +kernel,rfl,by decide +kernel,by decide +kernel⟩
noncomputable def J6k:DSp:=fun ds P _=>∃ h:Bh,ds=[h.d]/\P h.f.d
theorem NF {w:World} {f:Addr} (F:Fun K "as_fractions" "as_fractions" BN f fd) (Z:Bi mg) {c:Cs} (Y:Ex K mg base c):FnOk P w K mg base CX0 1 f fd ["behind"] (Q3 K BT J6k):=by
 refine F.okD NC (fun ds PP Ed h=>?_) (fun cdv A outer s H E M bg ds PP Ed hr hS_=>?_)
 · obtain ⟨h,rfl,hP⟩:=h
   rfl
 · obtain ⟨h,rfl,hP⟩:=hS_
   refine ⟨_,(J8 (CN (DI (by rfl) (V9 (EG K (by rfl)) GR rfl Z.isinstance_ V7 (J0 (Q5 (Q0 K (by rfl)) V1 (jdv 0) J1 (fun _ _=>rfl)) (J0 (IP rfl Z.tuple_ DP) J4))) (fun _=>rfl)) (Q4 (V6 (jdv 0))) AT)
    (Q4 (V6 (AH (BD K (by rfl)) ER rfl Z.tuple_ DP (J0 (Z6 (X:=(V4 CX0 P w K mg base ["behind"] "as_fractions" (J3 BN) f cdv A outer s H E).nox) (Y8 0) (ET (X:=(V4 CX0 P w K mg base ["behind"] "as_fractions" (J3 BN) f cdv A outer s H E).nox) (N':=["number"]) (map:=[none]) (by rfl) (by rfl) (by decide +kernel) (by rfl) True.intro (gkeep_name rfl) fun cl0 C0 fp0 s0 H0=>⟨(pg_name (X:=(Q9 (V4 CX0 P w K mg base ["behind"] "as_fractions" (J3 BN) f cdv A outer s H E).nox ["number"] _ cl0 C0 fp0 s0 H0)) (i:=0) (Y1 ["number"] (by decide +kernel)) rfl (by walk_at "o")),Z5,(Y7 (X:=(Q9 (V4 CX0 P w K mg base ["behind"] "as_fractions" (J3 BN) f cdv A outer s H E).nox ["number"] _ cl0 C0 fp0 s0 H0)) (J0 (jdv 0) (J0 J1 J4)))⟩) (AZ (by rfl) (jdv 0))) J4))))),?_⟩
   cases h with
   | col a b c =>
     walk_at "g"
     refine ⟨false,by rfl,?_⟩
     walk_at "g"
     walk_at "gc"
     exact hP
   | fr q =>
     walk_at "g"
     refine ⟨true,by rfl,?_⟩
     walk_at "g"
     exact hP
abbrev LW:Stmt:=top 51
theorem FI:FnScope ["number","cover","behind","top","bottom"] ["number","cover","behind"] (J3 LW):=⟨rfl,rfl,rfl,by decide +kernel,rfl,by decide +kernel,by decide +kernel⟩
noncomputable def J6h:DSp:=fun ds P _=>∃ (v cv:Int) (q:Int×Int) (n:Nat),ds=[.int v,.int cv,frD q]/\(0<=v/\v<=255)/\(0<=cv/\cv<=8)/\FO n q/\n<=1000/\P (frD (VE v cv q))
theorem WT {w:World} {f:Addr} (F:Fun K "covered" "covered" LW f fd) (Z:Bi mg) {c:Cs} (Y:Ex K mg base c) (g0:Callee P w K mg base CX0 "fraction" 3 ["top","bottom"] (Q3 K BT J6d)):FnOk P w K mg base CX0 4 f fd ["number","cover","behind"] (Q3 K BT J6h):=by
 refine F.okD FI (fun ds PP Ed h=>?_) (fun cdv A outer s H E M bg ds PP Ed hr hS_=>?_)
 · obtain ⟨v,cv,q,n,rfl,⟨v0,v1⟩,⟨c0,c1⟩,ho,hn,hP⟩:=h
   rfl
 · obtain ⟨v,cv,q,n,rfl,⟨v0,v1⟩,⟨c0,c1⟩,ho,hn,hP⟩:=hS_
   refine ⟨_,(J8 (EE (AW [3,4]) (jdv 2) (PG.or (Z8 (n:=2) K (by rfl) (by rfl) (J5 (pg_name (i:=3) FI.nd rfl (by walk_at "o")) (J5 (pg_name (i:=4) FI.nd rfl (by walk_at "o")) V3))) (Z9 (n:=2) K (by rfl) (by rfl) (J5 (pg_name (i:=3) FI.nd rfl (by walk_at "o")) (J5 (pg_name (i:=4) FI.nd rfl (by walk_at "o")) V3)))))
    (Q4 (V6 (Q7 g0 hr.m rfl (J0 (J9 BB Z4 (J9 Q8 Y6 (J9 Q8 Y6 (jdv 1) (jdv 0)) (jdv 4)) (J9 Q8 Y6 (J9 AG Z4 (MH rfl Z.FULL_COVER_) (jdv 1)) (jdv 3))) (J0 (J9 Q8 Y6 (MH rfl Z.FULL_COVER_) (jdv 4)) J4)))))),?_⟩
   have b1:Bd 9 v:=Bd.of (by omega) (by omega)
   have b2:Bd 5 cv:=Bd.of (by omega) (by omega)
   have b3:=ho.b
   have b4:=ho.t
   walk_at "g"
   exact ⟨_,_,4+n,rfl,(by have:=ho.p;omega),Bd.mul (Bd.of (by decide) (by decide):Bd 4 8) ho.b,by omega,hP⟩
abbrev FE:Stmt:=top 52
theorem DX:FnScope ["sheets","behind","told","colour","cover"] ["sheets","behind"] (J3 FE):=⟨rfl,rfl,rfl,by decide +kernel,rfl,by decide +kernel,by decide +kernel⟩
noncomputable def RH:DSp:=fun ds P _=>∃ (ss:List Sh) (h:Bh),ds=[.lst (ss.map Sh.d),h.d]/\(∀ s∈ss,s.ok)/\ss.length<=60/\h.f.ok 30/\P (thru ss h.f ss.length).d
theorem WQ {w:World} {f:Addr} (F:Fun K "through" "through" FE f fd) (Z:Bi mg) {c:Cs} (Y:Ex K mg base c) (g0:Callee P w K mg base CX0 "as_fractions" 1 ["behind"] (Q3 K BT J6k)) (g1:Callee P w K mg base CX0 "covered" 4 ["number","cover","behind"] (Q3 K BT J6h)):FnOk P w K mg base CX0 5 f fd ["sheets","behind"] (Q3 K BT RH):=by
 refine F.okD DX (fun ds PP Ed h=>?_) (fun cdv A outer s H E M bg ds PP Ed hr hS_=>?_)
 · obtain ⟨ss,h,rfl,hs,hl,hf,hP⟩:=h
   rfl
 · obtain ⟨ss,h,rfl,hs,hl,hf,hP⟩:=hS_
   refine ⟨_,(J8 (Y0 (i:=2) DX.nd rfl (by walk_at "o") (Q7 g0 hr.m rfl (J0 (jdv 1) J4)))
    (J8 (FA (AW [3,4]) PassesOwn.never rfl (J7s (by rfl) (J0 (jdv 0) J4) (J7a K (by rfl) rfl Z.reversed_ (JA.h (J0 (jdv 0) J4)))) (PG.or (Z8 (n:=2) K (by rfl) (by rfl) (J5 (pg_name (i:=3) DX.nd rfl (by walk_at "o")) (J5 (pg_name (i:=4) DX.nd rfl (by walk_at "o")) V3))) (Z9 (n:=2) K (by rfl) (by rfl) (J5 (pg_name (i:=3) DX.nd rfl (by walk_at "o")) (J5 (pg_name (i:=4) DX.nd rfl (by walk_at "o")) V3)))) (Q4 (Y0 (i:=2) DX.nd rfl (by walk_at "o") (AH (BD K (by rfl)) ER rfl Z.tuple_ DP (J0 (Z6 (X:=(V4 CX0 P w K mg base ["sheets","behind","told","colour","cover"] "through" (J3 FE) f cdv A outer s H E).nox) (AW [0,1]) (ET (X:=(V4 CX0 P w K mg base ["sheets","behind","told","colour","cover"] "through" (J3 FE) f cdv A outer s H E).nox) (N':=["number","farther","cover"]) (map:=[none,none,some 4]) (by rfl) (by rfl) (by decide +kernel) (by rfl) ⟨⟨rfl,rfl,rfl,by walk_at "o"⟩,True.intro⟩ (gkeep_seq (js:=[0,1]) (by decide)) fun cl0 C0 fp0 s0 H0=>⟨(PG.or (Z8 (n:=2) K (by rfl) (by rfl) (J5 (pg_name (i:=0) (Y1 ["number","farther","cover"] (by decide +kernel)) rfl (by walk_at "o")) (J5 (pg_name (i:=1) (Y1 ["number","farther","cover"] (by decide +kernel)) rfl (by walk_at "o")) V3))) (Z9 (n:=2) K (by rfl) (by rfl) (J5 (pg_name (i:=0) (Y1 ["number","farther","cover"] (by decide +kernel)) rfl (by walk_at "o")) (J5 (pg_name (i:=1) (Y1 ["number","farther","cover"] (by decide +kernel)) rfl (by walk_at "o")) V3)))),Z5,(Q7 (X:=(Q9 (V4 CX0 P w K mg base ["sheets","behind","told","colour","cover"] "through" (J3 FE) f cdv A outer s H E).nox ["number","farther","cover"] _ cl0 C0 fp0 s0 H0)) g1 hr.m rfl (J0 (jdv 0) (J0 (jdv 2) (J0 (jdv 1) J4))))⟩) (JB (by rfl) true true rfl Z.zip_ (J0 (jdv 3) (J0 (jdv 2) J4)) (IY K (by rfl) true true rfl Z.zip_ (JA.h (J0 (jdv 3) (J0 (jdv 2) J4)))))) J4)))))
    (Q4 (V6 (jdv 2))))),?_⟩
   walk_at "g"
   refine And.intro (by cases h<;>rfl) ⟨h,rfl,?_⟩
   walk_at "g"
   refine ⟨fun i ρ=>∃ v3 v4,ρ=[some (.lst (ss.map Sh.d)),some h.d,some (thru ss h.f i).d,v3,v4],⟨_,_,rfl⟩,?_,?_⟩
   · rintro i x ρ e ⟨v3,v4,rfl⟩
     obtain ⟨s',e1,rfl⟩:=J1y e
     have hi:i<ss.length:=by rw [<- List.length_reverse];exact (List.getElem?_eq_some_iff.mp e1).1
     have ok:=hs _ (List.mem_reverse.mp (List.mem_of_getElem? e1))
     have fo:=KE hf hs i (by omega)
     rw [LP e1]
     generalize thru ss h.f i=q at fo ⊢
     walk_at "g"
     walk_at "gc"
     refine ⟨_,_,_,_,rfl,⟨ok.a0,ok.a1⟩,⟨ok.e0,ok.e1⟩,fo.o0,by omega,?_⟩
     walk_at "g"
     refine ⟨_,_,_,_,rfl,⟨ok.b0,ok.b1⟩,⟨ok.e0,ok.e1⟩,fo.o1,by omega,?_⟩
     walk_at "g"
     refine ⟨_,_,_,_,rfl,⟨ok.d0,ok.d1⟩,⟨ok.e0,ok.e1⟩,fo.o2,by omega,?_⟩
     walk_at "g"
     exact ⟨_,_,rfl⟩
   · rintro ρ ⟨v3,v4,rfl⟩
     walk_at "g"
     rw [List.length_reverse,List.length_map]
     exact hP
abbrev AV:Stmt:=top 53
theorem KN:FnScope ["sheets","behind"] ["sheets","behind"] (J3 AV):=⟨rfl,rfl,rfl,by decide +kernel,rfl,by decide +kernel,by decide +kernel⟩
def F9.w (f:F9):D:=t3 (f.f0.1 / f.f0.2) (f.f1.1 / f.f1.2) (f.f2.1 / f.f2.2)
noncomputable def J6g:DSp:=fun ds P _=>∃ (ss:List Sh) (h:Bh),ds=[.lst (ss.map Sh.d),h.d]/\(∀ s∈ss,s.ok)/\ss.length<=60/\h.f.ok 30/\P (thru ss h.f ss.length).w
theorem KY {w:World} {f:Addr} (F:Fun K "colour_through" "colour_through" AV f fd) (Z:Bi mg) {c:Cs} (Y:Ex K mg base c) (g0:Callee P w K mg base CX0 "whole_part" 1 ["one"] (Q3 K BT ZJ)) (g1:Callee P w K mg base CX0 "through" 5 ["sheets","behind"] (Q3 K BT RH)):FnOk P w K mg base CX0 6 f fd ["sheets","behind"] (Q3 K BT J6g):=by
 refine F.okD KN (fun ds PP Ed h=>?_) (fun cdv A outer s H E M bg ds PP Ed hr hS_=>?_)
 · obtain ⟨ss,h,rfl,hs,hl,hf,hP⟩:=h
   rfl
 · obtain ⟨ss,h,rfl,hs,hl,hf,hP⟩:=hS_
   refine ⟨_,(Q4 (V6 (AH (BD K (by rfl)) ER rfl Z.tuple_ DP (J0 (Z6 (X:=(V4 CX0 P w K mg base ["sheets","behind"] "colour_through" (J3 AV) f cdv A outer s H E).nox) (Y8 0) (ET (X:=(V4 CX0 P w K mg base ["sheets","behind"] "colour_through" (J3 AV) f cdv A outer s H E).nox) (N':=["one"]) (map:=[none]) (by rfl) (by rfl) (by decide +kernel) (by rfl) True.intro (gkeep_name rfl) fun cl0 C0 fp0 s0 H0=>⟨(pg_name (X:=(Q9 (V4 CX0 P w K mg base ["sheets","behind"] "colour_through" (J3 AV) f cdv A outer s H E).nox ["one"] _ cl0 C0 fp0 s0 H0)) (i:=0) (Y1 ["one"] (by decide +kernel)) rfl (by walk_at "o")),Z5,(Q7 (X:=(Q9 (V4 CX0 P w K mg base ["sheets","behind"] "colour_through" (J3 AV) f cdv A outer s H E).nox ["one"] _ cl0 C0 fp0 s0 H0)) g0 hr.m rfl (J0 (jdv 0) J4))⟩) (AZ (by rfl) (Q7 g1 hr.m rfl (J0 (jdv 0) (J0 (jdv 1) J4))))) J4)))),?_⟩
   have fo:=KE hf hs ss.length (Nat.le_refl _)
   walk_at "g"
   refine And.intro (by cases h<;>rfl) ⟨ss,h,rfl,hs,hl,hf,?_⟩
   generalize thru ss h.f ss.length=q at fo hP ⊢
   walk_at "g"
   walk_at "gc"
   refine ⟨_,_,rfl,fo.o0,by omega,?_⟩
   walk_at "g"
   refine ⟨_,_,rfl,fo.o1,by omega,?_⟩
   walk_at "g"
   refine ⟨_,_,rfl,fo.o2,by omega,?_⟩
   walk_at "g"
   exact hP
theorem RQ {ax ay aw bx b_y bw px py:Int}(h:sgn (shd ax ay aw bx b_y bw px py)=1):0<=det ax ay aw bx b_y bw px py 1:=by
 by_cases z:det ax ay aw bx b_y bw px py 1=0
 · omega
 · have e:shd ax ay aw bx b_y bw px py=det ax ay aw bx b_y bw px py 1:=by unfold shd;rw [if_neg z]
   rw [e] at h
   rcases EH (det ax ay aw bx b_y bw px py 1) with ⟨q,_⟩|⟨q,_⟩|⟨_,q⟩
   · omega
   · omega
   · rw [q] at h;omega
theorem NU {ax ay aw bx b_y bw px py:Int}(h:sgn (shd ax ay aw bx b_y bw px py) = -1):det ax ay aw bx b_y bw px py 1<=0:=by
 by_cases z:det ax ay aw bx b_y bw px py 1=0
 · omega
 · have e:shd ax ay aw bx b_y bw px py=det ax ay aw bx b_y bw px py 1:=by unfold shd;rw [if_neg z]
   rw [e] at h
   rcases EH (det ax ay aw bx b_y bw px py 1) with ⟨_,q⟩|⟨q,_⟩|⟨q,_⟩
   · rw [q] at h;omega
   · omega
   · omega
theorem T3.sum_t (t:T3)(px py:Int):t.tA px py+t.tB px py+t.tC px py=t.tn:=by
 unfold T3.tA T3.tB T3.tC T3.wA T3.wB T3.wC T3.tn det
 grind
theorem T3.has_t {t:T3}{px py:Int}(hp:t.pos)(h:t.has px py):0<=t.tA px py*t.tn/\0<=t.tB px py*t.tn/\0<=t.tC px py*t.tn:=by
 obtain ⟨h1,h2,h3⟩:=h
 have hs:=T3.sum_t t px py
 unfold T3.s1 at h1 h2 h3
 unfold T3.s2 at h2
 unfold T3.s3 at h3
 rcases EH (shd t.ax t.ay t.aw t.bx t.b_y t.bw px py) with ⟨_,e⟩|⟨_,e⟩|⟨_,e⟩
 · rw [e] at h2 h3
   have a1:0<=t.tC px py:=Int.mul_nonneg (RQ e) (Int.le_of_lt hp.c)
   have a2:0<=t.tA px py:=Int.mul_nonneg (RQ h2) (Int.le_of_lt hp.a)
   have a3:0<=t.tB px py:=Int.mul_nonneg (RQ h3) (Int.le_of_lt hp.b)
   have ht:0<=t.tn:=by omega
   exact ⟨Int.mul_nonneg a2 ht,Int.mul_nonneg a3 ht,Int.mul_nonneg a1 ht⟩
 · exact absurd e h1
 · rw [e] at h2 h3
   have a1:t.tC px py<=0:=Int.mul_nonpos_of_nonpos_of_nonneg (NU e) (Int.le_of_lt hp.c)
   have a2:t.tA px py<=0:=Int.mul_nonpos_of_nonpos_of_nonneg (NU h2) (Int.le_of_lt hp.a)
   have a3:t.tB px py<=0:=Int.mul_nonpos_of_nonpos_of_nonneg (NU h3) (Int.le_of_lt hp.b)
   have ht:t.tn<=0:=by omega
   exact ⟨Int.mul_nonneg_of_nonpos_of_nonpos a2 ht,Int.mul_nonneg_of_nonpos_of_nonpos a3 ht,Int.mul_nonneg_of_nonpos_of_nonpos a1 ht⟩
theorem J0f {f1 f2 top below v cv x y:Int}(h:f1*below=top*f2)(h2:0<f2)(hx:x*(8*f2)=(cv*v*f2+(8 - cv)*f1)*y):x*(below*8)=(cv*v*below+(8 - cv)*top)*y:=by
 refine Int.eq_of_mul_eq_mul_right (a:=f2) (by omega) ?_
 calc x*(below*8)*f2=(x*(8*f2))*below:=by ac_rfl
  _=((cv*v*f2+(8 - cv)*f1)*y)*below:=by rw [hx]
  _=(cv*v*below*f2+(8 - cv)*(f1*below))*y:=by grind
  _=(cv*v*below*f2+(8 - cv)*(top*f2))*y:=by rw [h]
  _=(cv*v*below+(8 - cv)*top)*y*f2:=by grind
theorem JV {a b c d:Int}(hb:0<b)(hd:0<d)(h:a*d=c*b):a / b=c / d:=by
 have e1:a / b=a*d / (b*d):=(Int.mul_ediv_mul_of_pos_left a b hd).symm
 have e2:c / d=c*b / (d*b):=(Int.mul_ediv_mul_of_pos_left c d hb).symm
 rw [e1,e2,h,Int.mul_comm b d]
theorem J8d {n d:Int}(h0:0<=n*d)(h1:n*d<=255*(d*d))(hd:d≠0):0<=n.fdiv d/\n.fdiv d<=255:=by
 rcases Int.lt_or_gt_of_ne hd with z|z
 · have e:n.fdiv d=(-n) / (-d):=by
    rw [<- Int.neg_fdiv_neg,Int.fdiv_eq_ediv_of_nonneg _ (by omega)]
   have n0:0<=-n:=by
    rcases Int.lt_or_le (-n) 0 with y|y
    · have:=Int.mul_neg_of_pos_of_neg (show 0<n by omega) z
      omega
    · exact y
   have n1 : -n<=255*(-d):=by
    refine Int.le_of_mul_le_mul_right (a:=-d) ?_ (by omega)
    calc -n * -d=n*d:=by rw [Int.neg_mul_neg]
     _<=255*(d*d):=h1
     _=255 * -d * -d:=by grind
   rw [e]
   refine ⟨Int.ediv_nonneg n0 (by omega),?_⟩
   exact Int.ediv_le_of_le_mul (by omega) n1
 · have n0:0<=n:=by
    rcases Int.lt_or_le n 0 with y|y
    · have:=Int.mul_neg_of_neg_of_pos y z
      omega
    · exact y
   have n1:n<=255*d:=by
    refine Int.le_of_mul_le_mul_right (a:=d) ?_ z
    calc n*d<=255*(d*d):=h1
     _=255*d*d:=by grind
   rw [Int.fdiv_eq_ediv_of_nonneg _ (by omega)]
   exact ⟨Int.ediv_nonneg n0 (by omega),Int.ediv_le_of_le_mul z n1⟩
theorem T3.mix_in {t:T3}{px py a b c:Int}(hp:t.pos)(h:t.has px py)(ha:0<=a/\a<=255)(hb:0<=b/\b<=255)(hc:0<=c/\c<=255):0<=t.mix px py a b c/\t.mix px py a b c<=255:=by
 obtain ⟨h1,h2,h3⟩:=T3.has_t hp h
 have hs:=t.sum_t px py
 have h0:=T3.has_tn hp h
 unfold T3.mix
 generalize t.tA px py=x at h1 hs ⊢
 generalize t.tB px py=y at h2 hs ⊢
 generalize t.tC px py=z at h3 hs ⊢
 generalize t.tn=d at *
 have e:(a*x+b*y+c*z)*d=a*(x*d)+b*(y*d)+c*(z*d):=by grind
 have e2:d*d=x*d+y*d+z*d:=by rw [<- hs];grind
 have k1:a*(x*d)<=255*(x*d):=Int.mul_le_mul_of_nonneg_right ha.2 h1
 have k2:b*(y*d)<=255*(y*d):=Int.mul_le_mul_of_nonneg_right hb.2 h2
 have k3:c*(z*d)<=255*(z*d):=Int.mul_le_mul_of_nonneg_right hc.2 h3
 have l1:0<=a*(x*d):=Int.mul_nonneg ha.1 h1
 have l2:0<=b*(y*d):=Int.mul_nonneg hb.1 h2
 have l3:0<=c*(z*d):=Int.mul_nonneg hc.1 h3
 refine J8d (by rw [e];omega) (by rw [e,e2];omega) h0
theorem Ct.at_col {ct:Ct}{t:T3}{px py:Int}(co:ct.ok)(hp:t.pos)(h:t.has px py):∃ k:Col,k.ok/\ct.at t px py=k.d:=by
 cases ct with
 | pl k=>exact ⟨k,co,rfl⟩
 | wv a b c =>
   obtain ⟨oa,ob,oc⟩:=co
   exact ⟨⟨_,_,_⟩,⟨T3.mix_in hp h oa.h0 ob.h0 oc.h0,T3.mix_in hp h oa.h1 ob.h1 oc.h1,T3.mix_in hp h oa.h2 ob.h2 oc.h2⟩,rfl⟩
 | pc rows p q r =>
   obtain ⟨row,k,e1,e2,e3,m1,m2⟩:=UF (u:=t.mix px py p.1 q.1 r.1) (v:=t.mix px py p.2 q.2 r.2) co.1.1 fun r hr'=>(co.2.1 r hr').1.1
   exact ⟨k,(co.2.1 row m1).2 k m2,e3⟩
abbrev JL:Stmt:=top 17
theorem UB:FnScope ["thing"] ["thing"] (J3 JL):=⟨rfl,rfl,rfl,by decide +kernel,rfl,by decide +kernel,by decide +kernel⟩
def whD:D->Bool
 | .int _=>true
 | _=>false
noncomputable def J6c:DSp:=fun ds P _=>∃ d,ds=[d]/\(LO d).isSome=true/\CD d=true/\P (.bl (whD d))
theorem UJ {w:World} {f:Addr} (F:Fun K "is_whole" "is_whole" JL f fd) (Z:Bi mg) {c:Cs} (Y:Ex K mg base c):FnOk P w K mg base CX0 1 f fd ["thing"] (Q3 K BT J6c):=by
 refine F.okD UB (fun ds PP Ed h=>?_) (fun cdv A outer s H E M bg ds PP Ed hr hS_=>?_)
 · obtain ⟨d,rfl,hd,hno,hP⟩:=h
   rfl
 · obtain ⟨d,rfl,hd,hno,hP⟩:=hS_
   refine ⟨_,(Q4 (V6 (LD (V9 (EG K (by rfl)) GR rfl Z.isinstance_ V7 (J0 (jdv 0) (J0 (IP rfl Z.int_ JZ) J4))) (NM (J7u (V9 (EG K (by rfl)) GR rfl Z.isinstance_ V7 (J0 (jdv 0) (J0 (IP rfl Z.bool_ J9g) J4)))))))),?_⟩
   cases d<;>(try (simp [LO] at hd;done))<;>(try (simp [CD] at hno;done))
   all_goals first
    | (walk_at "g";refine ⟨false,by rfl,?_⟩;walk_at "g";exact hP)
    | (walk_at "g";refine ⟨true,by rfl,?_⟩;walk_at "g";refine ⟨true,by rfl,?_⟩;walk_at "g";exact hP)
    | (walk_at "g";refine ⟨true,by rfl,?_⟩;walk_at "g";refine ⟨false,by rfl,?_⟩;walk_at "g";exact hP)
abbrev AU:Stmt:=top 18
theorem KM:FnScope ["thing","many"] ["thing","many"] (J3 AU):=⟨rfl,rfl,rfl,by decide +kernel,rfl,by decide +kernel,by decide +kernel⟩
def tkD:D->Bool
 | .tup xs=>decide (xs.length<=100)&&xs.all fun d=>(LO d).isSome&&CD d
 | d=>(LO d).isSome&&CD d
def wtD (n:Nat):D->Bool
 | .tup xs=>decide (xs.length=n)&&xs.all whD
 | _=>false
noncomputable def J5v:DSp:=fun ds P _=>∃ (d:D) (n:Nat),ds=[d,.int n]/\tkD d=true/\P (.bl (wtD n d))
theorem KU {w:World} {f:Addr} (F:Fun K "is_whole_tuple" "is_whole_tuple" AU f fd) (Z:Bi mg) {c:Cs} (Y:Ex K mg base c) (g0:Callee P w K mg base CX0 "is_whole" 1 ["thing"] (Q3 K BT J6c)):FnOk P w K mg base CX0 2 f fd ["thing","many"] (Q3 K BT J5v):=by
 refine F.okD KM (fun ds PP Ed h=>?_) (fun cdv A outer s H E M bg ds PP Ed hr hS_=>?_)
 · obtain ⟨d,n,rfl,hd,hP⟩:=h
   rfl
 · obtain ⟨d,n,rfl,hd,hP⟩:=hS_
   refine ⟨_,(Q4 (V6 (LD (V9 (EG K (by rfl)) GR rfl Z.isinstance_ V7 (J0 (jdv 0) (J0 (IP rfl Z.tuple_ DP) J4))) (LD (DJ DK CB (V9 (AL K (by rfl)) HP rfl Z.len_ GI (J0 (jdv 0) J4)) (jdv 1) (Y2 _)) (NM (V9 (RD K (by rfl) (by rfl)) J5e rfl Z.all_ J5o (J0 (Z6 (X:=(V4 CX0 P w K mg base ["thing","many"] "is_whole_tuple" (J3 AU) f cdv A outer s H E).nox) (Y8 0) (ET (X:=(V4 CX0 P w K mg base ["thing","many"] "is_whole_tuple" (J3 AU) f cdv A outer s H E).nox) (N':=["part"]) (map:=[none]) (by rfl) (by rfl) (by decide +kernel) (by rfl) True.intro (gkeep_name rfl) fun cl0 C0 fp0 s0 H0=>⟨(pg_name (X:=(Q9 (V4 CX0 P w K mg base ["thing","many"] "is_whole_tuple" (J3 AU) f cdv A outer s H E).nox ["part"] _ cl0 C0 fp0 s0 H0)) (i:=0) (Y1 ["part"] (by decide +kernel)) rfl (by walk_at "o")),Z5,(Q7 (X:=(Q9 (V4 CX0 P w K mg base ["thing","many"] "is_whole_tuple" (J3 AU) f cdv A outer s H E).nox ["part"] _ cl0 C0 fp0 s0 H0)) g0 hr.m rfl (J0 (jdv 0) J4))⟩) (AZ (by rfl) (jdv 0))) J4))))))),?_⟩
   by_cases ht:∃ xs,d=.tup xs
   · obtain ⟨xs,rfl⟩:=ht
     obtain ⟨hl,ha⟩:=(Bool.and_eq_true _ _).mp hd
     have hl:=of_decide_eq_true hl
     have key:∀ b:Bool,b=wtD n (.tup xs)->PP (.bl b):=fun b h=>by rw [h];exact hP
     walk_at "g"
     refine ⟨true,by rfl,?_⟩
     walk_at "g"
     walk_at "sp"
     · rename_i hn
       walk_at "g"
       refine And.intro (by omega) ?_
       refine FR (fun x=>.bl (whD x)) (fun x Q hx q=>?_) (fun _ _=>rfl) ?_
       · have:=List.all_eq_true.mp ha x hx
         obtain ⟨t1,t2⟩:=(Bool.and_eq_true _ _).mp this
         walk_at "g"
         exact ⟨by show (CD x&&true)=true;rw [t2];rfl,x,rfl,t1,t2,q⟩
       · have eb:HW (xs.map fun x=>D.bl (whD x))=some (xs.map whD):=by
          have:=J1g (xs.map whD)
          rw [List.map_map] at this
          exact this
         walk_at "g"
         rw [eb]
         walk_at "g"
         refine key _ ?_
         show _=(decide (xs.length=n)&&xs.all whD)
         rw [decide_eq_true (by omega)]
         simp [List.all_map]
     · rename_i hn
       walk_at "g"
       refine key _ ?_
       show _=(decide (xs.length=n)&&xs.all whD)
       rw [decide_eq_false (by omega)]
       simp
   · have ew:wtD n d=false:=by
      cases d<;>first|rfl|exact absurd ⟨_,rfl⟩ ht
     rw [ew] at hP
     cases d<;>(try (exact absurd ⟨_,rfl⟩ ht))<;>(try (simp [tkD,LO,CD] at hd;done))
     all_goals
      walk_at "g"
      refine ⟨false,by rfl,?_⟩
      walk_at "g"
      exact hP
abbrev IE:Stmt:=top 29
theorem RS:FnScope ["number"] ["number"] (J3 IE):=⟨rfl,rfl,rfl,by decide +kernel,rfl,by decide +kernel,by decide +kernel⟩
def IL (n:Int):Bool:=decide (1<=n)&&decide (n<=16)
noncomputable def ZM:DSp:=fun ds P _=>∃ n:Int,ds=[.int n]/\P (.bl (IL n))
theorem SD {w:World} {f:Addr} (F:Fun K "is_length" "is_length" IE f fd) (Z:Bi mg) {c:Cs} (Y:Ex K mg base c):FnOk P w K mg base CX0 1 f fd ["number"] (Q3 K BT ZM):=by
 refine F.okD RS (fun ds PP Ed h=>?_) (fun cdv A outer s H E M bg ds PP Ed hr hS_=>?_)
 · obtain ⟨n,rfl,hP⟩:=h
   rfl
 · obtain ⟨n,rfl,hP⟩:=hS_
   refine ⟨_,(Q4 (V6 (J0p J9x J9x HV HV J1 (jdv 0) (MH rfl Z.LONGEST_)))),?_⟩
   unfold IL at hP
   walk_at "g"
   by_cases h:1<=n
   · refine IfP.t (by simp [h]) ?_
     walk_at "g"
     simp [h] at hP
     exact hP
   · refine IfP.f (by simp [h]) ?_
     walk_at "g"
     simp [h] at hP
     exact hP
def EK:D->Bool
 | .tup [.int x,.int y]=>IL x&&IL y
 | _=>false
theorem wt2 {d:D}(h:wtD 2 d=true):∃ x y:Int,d=t2 x y:=by
 cases d<;>try (simp [wtD] at h;done)
 rename_i xs
 obtain ⟨h1,h2⟩:=(Bool.and_eq_true _ _).mp h
 have h1:=of_decide_eq_true h1
 have hw:∀ d∈xs,∃ i:Int,d=.int i:=fun d hd=>by
  have:=List.all_eq_true.mp h2 d hd
  cases d<;>first|cases this|skip
  exact ⟨_,rfl⟩
 match xs,h1 with
 | [a,b],_ =>
   obtain ⟨x,rfl⟩:=hw a (by simp)
   obtain ⟨y,rfl⟩:=hw b (by simp)
   exact ⟨x,y,rfl⟩
theorem J5p {d:D}(h:wtD 2 d=false):EK d=false:=by
 unfold EK
 split
 · cases h
 · rfl
abbrev BZ:Stmt:=top 30
theorem NY:FnScope ["thing"] ["thing"] (J3 BZ):=⟨rfl,rfl,rfl,by decide +kernel,rfl,by decide +kernel,by decide +kernel⟩
noncomputable def J6j (c:Cs):DSp:=fun ds P Ed=>∃ d:D,ds=[d]/\tkD d=true/\CD d=true/\(EK d=false->Ed c.NoBoard)/\(EK d=true->P .non)
theorem OI {w:World} {f:Addr} (F:Fun K "check_board" "check_board" BZ f fd) (Z:Bi mg) {c:Cs} (Y:Ex K mg base c) (g0:Callee P w K mg base CX0 "is_whole_tuple" 2 ["thing","many"] (Q3 K BT J5v)) (g1:Callee P w K mg base CX0 "is_length" 1 ["number"] (Q3 K BT ZM)):FnOk P w K mg base (CX1 P w base) 3 f fd ["thing"] (Q3 K BT (J6j c)):=by
 refine F.okDX NY (fun ds PP Ed h=>?_) (fun cdv A outer s H E M bg ds PP Ed hr hE hS_=>?_)
 · obtain ⟨d,rfl,hd,hno,h0,h1⟩:=h
   rfl
 · obtain ⟨d,rfl,hd,hno,h0,h1⟩:=hS_
   refine ⟨_,(Q4 (CN (J3g (IZ (DI (by rfl) (Q7 g0 hr.m rfl (J0 (jdv 0) (J0 J1 J4))) (fun _=>rfl))) (YN (IZ (DI (by rfl) (V9 (RD K (by rfl) (by rfl)) J5e rfl Z.all_ J5o (J0 (Z6 (X:=(V4 (CX1 P w base) P w K mg base ["thing"] "check_board" (J3 BZ) f cdv A outer s H E)) (Y8 0) (ET (X:=(V4 (CX1 P w base) P w K mg base ["thing"] "check_board" (J3 BZ) f cdv A outer s H E)) (N':=["number"]) (map:=[none]) (by rfl) (by rfl) (by decide +kernel) (by rfl) True.intro (gkeep_name rfl) fun cl0 C0 fp0 s0 H0=>⟨(pg_name (X:=(Q9 (V4 (CX1 P w base) P w K mg base ["thing"] "check_board" (J3 BZ) f cdv A outer s H E) ["number"] _ cl0 C0 fp0 s0 H0)) (i:=0) (Y1 ["number"] (by decide +kernel)) rfl (by walk_at "o")),Z5,(Q7 (X:=(Q9 (V4 (CX1 P w base) P w K mg base ["thing"] "check_board" (J3 BZ) f cdv A outer s H E) ["number"] _ cl0 C0 fp0 s0 H0)) g1 hr.m rfl (J0 (jdv 0) J4))⟩) (AZ (by rfl) (jdv 0))) J4)) (fun _=>rfl))))) (Q4 (MG hE (LZ Y.o_NoBoard rfl))) AT)),?_⟩
   walk_at "g"
   refine ⟨by show (CD d&&true)=true;rw [hno];rfl,d,2,rfl,hd,?_⟩
   cases hw:wtD 2 d
   · walk_at "g"
     exact h0 (J5p hw)
   · obtain ⟨x,y,rfl⟩:=wt2 hw
     walk_at "g"
     walk_at "gc"
     refine ⟨x,rfl,?_⟩
     walk_at "g"
     refine ⟨y,rfl,?_⟩
     walk_at "g"
     have e:EK (t2 x y)=(IL x&&IL y):=rfl
     rw [e] at h0 h1
     cases hx:IL x<;>cases hy:IL y<;>rw [hx,hy] at h0 h1<;>walk_at "g"
     · exact h0 rfl
     · exact h0 rfl
     · exact h0 rfl
     · exact h1 rfl
def Q1b:D->Sh
 | .tup [.tup [.int a,.int b,.int c],.int v]=>⟨a,b,c,v⟩
 | _=>⟨0,0,0,0⟩
theorem J1q (s:Sh):Q1b s.d=s:=rfl
def shS (px py:Int)(xs:List Thg):List Sh:=(J6r px py xs).map fun o=>Q1b o.2
theorem J9q {px py:Int}{xs:List Thg}(h:∀ x∈xs,x.ok)(i:Nat):∀ o∈shN px py xs i,∃ s:Sh,s.ok/\o.2=s.d:=KJ (q:=fun o=>∃ s:Sh,s.ok/\o.2=s.d) (fun x hx hh=>by
 obtain ⟨k,ko,e⟩:=Ct.at_col (t:=x.t) (px:=px) (py:=py) (h x hx).c (h x hx).p hh
 exact ⟨⟨k.c0,k.c1,k.c2,x.cv⟩,⟨ko.h0.1,ko.h0.2,ko.h1.1,ko.h1.2,ko.h2.1,ko.h2.2,(h x hx).v.1,(h x hx).v.2⟩,by show Thg.sh x px py=_;unfold Thg.sh;rw [e];rfl⟩) i
theorem J9s {px py:Int}{xs:List Thg}(h:∀ x∈xs,x.ok):(J6r px py xs).map (·.2)=(shS px py xs).map Sh.d/\(∀ s∈shS px py xs,s.ok)/\(shS px py xs).length<=xs.length:=by
 refine ⟨?_,fun s hs=>?_,?_⟩
 · unfold shS
   rw [List.map_map]
   refine List.map_congr_left fun o ho=>?_
   obtain ⟨s,_,e⟩:=J9q h _ o ho
   show o.2=(Q1b o.2).d
   rw [e,J1q]
 · obtain ⟨o,ho,rfl⟩:=List.mem_map.mp hs
   obtain ⟨s,so,e⟩:=J9q h _ o ho
   rw [e,J1q]
   exact so
 · unfold shS
   rw [List.length_map]
   exact KI px py xs xs.length
def IU (xs:List Thg)(h:Bh)(y:Int):D->D
 | .int x=>(thru (shS x y xs) h.f (shS x y xs).length).w
 | _=>.non
def J4x (xs:List Thg)(h:Bh)(w:Nat):D->List D
 | .int y=>(Y4 0 w).map (IU xs h y)
 | _=>[]
def MZ (xs:List Thg)(h:Bh)(wd hg:Nat):List (List D):=(Y4 0 hg).map (J4x xs h wd)
theorem CW {n:Nat}{d:D}(h:d∈Y4 0 n):∃ i:Nat,i<n/\d=.int i:=by
 unfold Y4 at h
 obtain ⟨i,hi,rfl⟩:=List.mem_map.mp h
 exact ⟨i,List.mem_range.mp hi,by simp⟩
theorem rangeD_le (n:Nat):(Y4 0 n).length=n:=by unfold Y4;simp
theorem MN {a:Int}(h:0<=a/\a<=255):FO 30 (a,1):=⟨show (0:Int)<1 by decide,h.1,by show a<=255*1;omega,show Bd 30 (1:Int) from Bd.of (by decide) (by decide)⟩
theorem Q0n {a b c:Int}(ha:0<=a/\a<=255)(hb:0<=b/\b<=255)(hc:0<=c/\c<=255):(Bh.col a b c).f.ok 30:=⟨MN ha,MN hb,MN hc⟩
abbrev BY:Stmt:=top 55
theorem EM:FnScope ["things","board","behind","wide","high"] ["things","board","behind"] (J3 BY):=⟨rfl,rfl,rfl,by decide +kernel,rfl,by decide +kernel,by decide +kernel⟩
noncomputable def XU (c:Cs):DSG:=fun ds P Ed=>∃ (xs:List Thg) (d:D) (k0 k1 k2:Int),ds=[.lst (xs.map Thg.d),d,t3 k0 k1 k2]/\(∀ x∈xs,x.ok)/\xs.length<=30/\(0<=k0/\k0<=255)/\(0<=k1/\k1<=255)/\(0<=k2/\k2<=255)/\tkD d=true/\CD d=true/\(EK d=false->Ed c.NoBoard)/\∀ w h:Nat,d=t2 w h->(1<=w/\w<=16/\1<=h/\h<=16)->P (MZ xs (.col k0 k1 k2) w h)
theorem UL {w:World} {f:Addr} (F:Fun K "coloured" "coloured" BY f fd) (Z:Bi mg) {c:Cs} (Y:Ex K mg base c) (g0:Callee P w K mg base (CX1 P w base) "check_board" 3 ["thing"] (Q3 K BT (J6j c))) (g1:Callee P w K mg base CX0 "colour_through" 6 ["sheets","behind"] (Q3 K BT J6g)) (g2:Callee P w K mg base CX0 "sheets_at" 7 ["things","dot"] (DR K BT VM)):FnOk P w K mg base (CX1 P w base) 8 f fd ["things","board","behind"] (DU K BT (XU c)):=by
 refine F.okDXG EM (fun ds PP Ed h=>?_) (fun cdv A outer s H E M bg ds PP Ed hr hE hS_=>?_)
 · obtain ⟨xs,d,q0,q1,q2,rfl,hxs,hl,b0,b1,b2,hd,hno,h0,hP⟩:=h
   rfl
 · obtain ⟨xs,d,q0,q1,q2,rfl,hxs,hl,b0,b1,b2,hd,hno,h0,hP⟩:=hS_
   refine ⟨_,(UT (UV (IN hE XW g0 hr.m rfl (J0 (jdv 1) J4)))
    (UT (EE (AW [3,4]) (jdv 1) (PG.or (Z8 (n:=2) K (by rfl) (by rfl) (J5 (pg_name (i:=3) EM.nd rfl (by walk_at "o")) (J5 (pg_name (i:=4) EM.nd rfl (by walk_at "o")) V3))) (Z9 (n:=2) K (by rfl) (by rfl) (J5 (pg_name (i:=3) EM.nd rfl (by walk_at "o")) (J5 (pg_name (i:=4) EM.nd rfl (by walk_at "o")) V3)))))
    (J7p (X:=(V4 (CX1 P w base) P w K mg base ["things","board","behind","wide","high"] "coloured" (J3 BY) f cdv A outer s H E)) (Y8 0) (V0l (X:=(V4 (CX1 P w base) P w K mg base ["things","board","behind","wide","high"] "coloured" (J3 BY) f cdv A outer s H E)) (N':=["y","wide","things","behind"]) (map:=[none,some 3,some 0,some 2]) (by rfl) (by rfl) (by decide +kernel) (by rfl) ⟨⟨rfl,rfl,rfl,by walk_at "o"⟩,⟨⟨rfl,rfl,rfl,by walk_at "o"⟩,⟨⟨rfl,rfl,rfl,by walk_at "o"⟩,True.intro⟩⟩⟩ (gkeep_name rfl) fun cl0 C0 fp0 s0 H0=>⟨(pg_name (X:=(Q9 (V4 (CX1 P w base) P w K mg base ["things","board","behind","wide","high"] "coloured" (J3 BY) f cdv A outer s H E) ["y","wide","things","behind"] _ cl0 C0 fp0 s0 H0)) (i:=0) (Y1 ["y","wide","things","behind"] (by decide +kernel)) rfl (by walk_at "o")),Z5,(J3k (X:=(Q9 (V4 (CX1 P w base) P w K mg base ["things","board","behind","wide","high"] "coloured" (J3 BY) f cdv A outer s H E) ["y","wide","things","behind"] _ cl0 C0 fp0 s0 H0)) (Y8 0) (ET (X:=(Q9 (V4 (CX1 P w base) P w K mg base ["things","board","behind","wide","high"] "coloured" (J3 BY) f cdv A outer s H E) ["y","wide","things","behind"] _ cl0 C0 fp0 s0 H0)) (N':=["x","things","y","behind"]) (map:=[none,some 2,some 0,some 3]) (by rfl) (by rfl) (by decide +kernel) (by rfl) ⟨⟨rfl,rfl,rfl,by walk_at "o"⟩,⟨⟨rfl,rfl,rfl,by walk_at "o"⟩,⟨⟨rfl,rfl,rfl,by walk_at "o"⟩,True.intro⟩⟩⟩ (gkeep_name rfl) fun cl1 C1 fp1 s1 H1=>⟨(pg_name (X:=(Q9 (Q9 (V4 (CX1 P w base) P w K mg base ["things","board","behind","wide","high"] "coloured" (J3 BY) f cdv A outer s H E) ["y","wide","things","behind"] _ cl0 C0 fp0 s0 H0) ["x","things","y","behind"] _ cl1 C1 fp1 s1 H1)) (i:=0) (Y1 ["x","things","y","behind"] (by decide +kernel)) rfl (by walk_at "o")),Z5,(Q7 (X:=(Q9 (Q9 (V4 (CX1 P w base) P w K mg base ["things","board","behind","wide","high"] "coloured" (J3 BY) f cdv A outer s H E) ["y","wide","things","behind"] _ cl0 C0 fp0 s0 H0) ["x","things","y","behind"] _ cl1 C1 fp1 s1 H1)) g1 hr.m rfl (J0 (J3l g2 hr.m rfl (J0 (jdv 1) (J0 (Y7 (J0 (jdv 0) (J0 (jdv 2) J4))) J4))) (J0 (jdv 3) J4)))⟩) (BF rfl Z.range_ (J0 (jdv 1) J4)))⟩) (BF rfl Z.range_ (J0 (jdv 4) J4))))),?_⟩
   walk_at "g"
   refine ⟨by show (CD d&&true)=true;rw [hno];rfl,d,rfl,hd,hno,h0,fun hb=>?_⟩
   obtain ⟨wd,h,rfl,h1,h2,h3,h4⟩:∃ w h:Nat,d=t2 w h/\1<=w/\w<=16/\1<=h/\h<=16:=by
    unfold EK at hb
    split at hb
    · rename_i x y
      simp only [IL,Bool.and_eq_true,decide_eq_true_eq] at hb
      exact ⟨x.toNat,y.toNat,by rw [Int.toNat_of_nonneg (by omega),Int.toNat_of_nonneg (by omega)],by omega,by omega,by omega,by omega⟩
    · cases hb
   replace hP:=hP wd h rfl ⟨h1,h2,h3,h4⟩
   walk_at "g"
   refine And.intro ⟨by omega,by omega⟩ ?_
   walk_at "g"
   refine And.intro (by rw [rangeD_le];omega) ?_
   refine ⟨fun i acc=>acc=((Y4 0 h).take i).map (J4x xs (.col q0 q1 q2) wd),rfl,fun i x acc e hacc=>?_,fun acc hacc=>?_⟩
   · have et:((Y4 0 h).take (i+1)).map (J4x xs (.col q0 q1 q2) wd)=acc++[J4x xs (.col q0 q1 q2) wd x]:=by rw [hacc,List.take_succ,show (Y4 0 h)[i]?=some x from e,List.map_append];rfl
     rw [et]
     obtain ⟨y,hy,rfl⟩:=CW (List.mem_of_getElem? e)
     clear et e hacc
     walk_at "g"
     refine And.intro ⟨by omega,by omega⟩ ?_
     walk_at "g"
     refine And.intro (by rw [rangeD_le];omega) ?_
     refine FR (IU xs (.col q0 q1 q2) y) (fun d Q hd hQ=>?_) (fun d hd=>?_) rfl
     · obtain ⟨x,hx,rfl⟩:=CW hd
       have hx:x<wd:=hx
       obtain ⟨ed,so,sl⟩:=J9s (px:=x) (py:=y) hxs
       walk_at "g"
       refine ⟨xs,x,y,rfl,hxs,hl,(Bd.of (by omega) (by omega)),(Bd.of (by omega) (by omega)),?_⟩
       rw [ed]
       refine ⟨KZ fun d hd=>?_,?_⟩
       · obtain ⟨s,_,rfl⟩:=List.mem_map.mp hd
         rfl
       walk_at "g"
       exact ⟨_,.col q0 q1 q2,rfl,so,by omega,Q0n b0 b1 b2,hQ⟩
     · obtain ⟨x,hx,rfl⟩:=CW hd
       rfl
   · rw [hacc,show ((Y4 0 h).take (Y4 0 (Int.toNat h)).length)=Y4 0 h from List.take_length]
     exact hP
abbrev BK:Stmt:=top 80
theorem BH:FnScope ["_law_sheets_here","_law_behind","_law_tops","_law_below","_law_colour_here","_law_cover"] ["_law_sheets_here","_law_behind"] (J3 BK):=⟨rfl,rfl,rfl,by decide +kernel,rfl,by decide +kernel,by decide +kernel⟩
theorem FO.step {v cv t b:Int}{n:Nat}(h:FO n (t,b))(v0:0<=v)(v1:v<=255)(c0:0<=cv)(c1:cv<=8):FO (n+3) (cv*v*b+(8 - cv)*t,b*8):=by
 obtain ⟨h1,h2⟩:=SX h v0 v1 c0 c1
 have hp:(0:Int)<b:=h.p
 refine ⟨show (0:Int)<b*8 by omega,h1,by show cv*v*b+(8 - cv)*t<=255*(b*8);have:cv*v*b+(8 - cv)*t<=255*(8*b):=h2;omega,?_⟩
 have hb:=h.b.lt
 refine Bd.of ?_ ?_
 · show -((2 ^ (n+3):Nat):Int)<b*8
   have:(0:Int)<((2 ^ (n+3):Nat):Int):=by exact_mod_cast Nat.pow_pos (by decide)
   omega
 · show b*8<((2 ^ (n+3):Nat):Int)
   have:((2 ^ (n+3):Nat):Int)=8*((2 ^ n:Nat):Int):=by rw [Nat.pow_add];push_cast;omega
   have hb2:(b:Int)<((2 ^ n:Nat):Int):=by have:=hb;omega
   omega
theorem XH {v cv t b:Int}{f:Int×Int}{n:Nat}(h:FO n f)(v0:0<=v)(v1:v<=255)(c0:0<=cv)(c1:cv<=8)(e:f.1*b=t*f.2):(VE v cv f).1*(b*8)=(cv*v*b+(8 - cv)*t)*(VE v cv f).2:=by
 have hp:=h.p
 exact J0f e hp (YM (t:=cv*v*f.2+(8 - cv)*f.1) (b:=8*f.2) (by omega) (SX h v0 v1 c0 c1).1).2.2.2
noncomputable def J5x:DSp:=fun ds P _=>∃ (ss:List Sh) (k0 k1 k2:Int),ds=[.lst (ss.map Sh.d),t3 k0 k1 k2]/\(∀ s∈ss,s.ok)/\ss.length<=60/\(0<=k0/\k0<=255)/\(0<=k1/\k1<=255)/\(0<=k2/\k2<=255)/\P (thru ss (Bh.col k0 k1 k2).f ss.length).w
theorem SH {w:World} {f:Addr} (F:Fun K "_law_over" "_law_over" BK f fd) (Z:Bi mg) {c:Cs} (Y:Ex K mg base c):FnOk P w K mg base CX0 1 f fd ["_law_sheets_here","_law_behind"] (Q3 K BT J5x):=by
 refine F.okD BH (fun ds PP Ed h=>?_) (fun cdv A outer s H E M bg ds PP Ed hr hS_=>?_)
 · obtain ⟨ss,q0,q1,q2,rfl,hs,hl,hb0,hb1,hb2,hP⟩:=h
   rfl
 · obtain ⟨ss,q0,q1,q2,rfl,hs,hl,hb0,hb1,hb2,hP⟩:=hS_
   refine ⟨_,(J8 (Y0 (i:=2) BH.nd rfl (by walk_at "o") (AH (JH K (by rfl)) ZG rfl Z.list_ TH (J0 (jdv 1) J4)))
    (J8 (Y0 (i:=3) BH.nd rfl (by walk_at "o") J1)
    (J8 (FA (AW [4,5]) PassesOwn.never rfl (AZ (by rfl) (J7t (jdv 0) (FD J1) (Q1w K (by rfl) (JE.h (jdv 0)) (JE.h (FD J1)) (fun _ _=>by with_unfolding_all rfl)))) (PG.or (Z8 (n:=2) K (by rfl) (by rfl) (J5 (pg_name (i:=4) BH.nd rfl (by walk_at "o")) (J5 (pg_name (i:=5) BH.nd rfl (by walk_at "o")) V3))) (Z9 (n:=2) K (by rfl) (by rfl) (J5 (pg_name (i:=4) BH.nd rfl (by walk_at "o")) (J5 (pg_name (i:=5) BH.nd rfl (by walk_at "o")) V3)))) (J8 (J3h (X:=(V4 CX0 P w K mg base ["_law_sheets_here","_law_behind","_law_tops","_law_below","_law_colour_here","_law_cover"] "_law_over" (J3 BK) f cdv A outer s H E).nox) false (i:=2) BH.nd rfl (by walk_at "o") (AW [0,1]) (ET (X:=(V4 CX0 P w K mg base ["_law_sheets_here","_law_behind","_law_tops","_law_below","_law_colour_here","_law_cover"] "_law_over" (J3 BK) f cdv A outer s H E).nox) (N':=["_law_number","_law_top","_law_cover","_law_below"]) (map:=[none,none,some 5,some 3]) (by rfl) (by rfl) (by decide +kernel) (by rfl) ⟨⟨rfl,rfl,rfl,by walk_at "o"⟩,⟨⟨rfl,rfl,rfl,by walk_at "o"⟩,True.intro⟩⟩ (gkeep_seq (js:=[0,1]) (by decide)) fun cl0 C0 fp0 s0 H0=>⟨(PG.or (Z8 (n:=2) K (by rfl) (by rfl) (J5 (pg_name (i:=0) (Y1 ["_law_number","_law_top","_law_cover","_law_below"] (by decide +kernel)) rfl (by walk_at "o")) (J5 (pg_name (i:=1) (Y1 ["_law_number","_law_top","_law_cover","_law_below"] (by decide +kernel)) rfl (by walk_at "o")) V3))) (Z9 (n:=2) K (by rfl) (by rfl) (J5 (pg_name (i:=0) (Y1 ["_law_number","_law_top","_law_cover","_law_below"] (by decide +kernel)) rfl (by walk_at "o")) (J5 (pg_name (i:=1) (Y1 ["_law_number","_law_top","_law_cover","_law_below"] (by decide +kernel)) rfl (by walk_at "o")) V3)))),Z5,(J9 (X:=(Q9 (V4 CX0 P w K mg base ["_law_sheets_here","_law_behind","_law_tops","_law_below","_law_colour_here","_law_cover"] "_law_over" (J3 BK) f cdv A outer s H E).nox ["_law_number","_law_top","_law_cover","_law_below"] _ cl0 C0 fp0 s0 H0)) BB Z4 (J9 Q8 Y6 (J9 Q8 Y6 (jdv 2) (jdv 0)) (jdv 3)) (J9 Q8 Y6 (J9 AG Z4 J1 (jdv 2)) (jdv 1)))⟩) (JB (by rfl) true false rfl Z.zip_ (J0 (jdv 4) (J0 (jdv 2) J4)) (IY K (by rfl) true false rfl Z.zip_ (JA.h (J0 (jdv 4) (J0 (jdv 2) J4))))))
    (Q4 (Y0 (i:=3) BH.nd rfl (by walk_at "o") (J9 Q8 Y6 (jdv 3) J1)))))
    (Q4 (V6 (AH (BD K (by rfl)) ER rfl Z.tuple_ DP (J0 (Z6 (X:=(V4 CX0 P w K mg base ["_law_sheets_here","_law_behind","_law_tops","_law_below","_law_colour_here","_law_cover"] "_law_over" (J3 BK) f cdv A outer s H E).nox) (Y8 0) (ET (X:=(V4 CX0 P w K mg base ["_law_sheets_here","_law_behind","_law_tops","_law_below","_law_colour_here","_law_cover"] "_law_over" (J3 BK) f cdv A outer s H E).nox) (N':=["_law_top","_law_below"]) (map:=[none,some 3]) (by rfl) (by rfl) (by decide +kernel) (by rfl) ⟨⟨rfl,rfl,rfl,by walk_at "o"⟩,True.intro⟩ (gkeep_name rfl) fun cl0 C0 fp0 s0 H0=>⟨(pg_name (X:=(Q9 (V4 CX0 P w K mg base ["_law_sheets_here","_law_behind","_law_tops","_law_below","_law_colour_here","_law_cover"] "_law_over" (J3 BK) f cdv A outer s H E).nox ["_law_top","_law_below"] _ cl0 C0 fp0 s0 H0)) (i:=0) (Y1 ["_law_top","_law_below"] (by decide +kernel)) rfl (by walk_at "o")),Z5,(J9 (X:=(Q9 (V4 CX0 P w K mg base ["_law_sheets_here","_law_behind","_law_tops","_law_below","_law_colour_here","_law_cover"] "_law_over" (J3 BK) f cdv A outer s H E).nox ["_law_top","_law_below"] _ cl0 C0 fp0 s0 H0)) CY Y6 (jdv 0) (jdv 1))⟩) (AZ (by rfl) (jdv 2))) J4))))))),?_⟩
   have hf:=Q0n hb0 hb1 hb2
   walk_at "g"
   refine ⟨fun i ρ=>∃ (t0 t1 t2 b:Int) (v4 v5:Option D),ρ=[some (.lst (ss.map Sh.d)),some (t3 q0 q1 q2),some (.lst [.int t0,.int t1,.int t2]),some (.int b),v4,v5]/\(FO (30+3*i) (t0,b)/\FO (30+3*i) (t1,b)/\FO (30+3*i) (t2,b))/\(thru ss (Bh.col q0 q1 q2).f i).f0.1*b=t0*(thru ss (Bh.col q0 q1 q2).f i).f0.2/\(thru ss (Bh.col q0 q1 q2).f i).f1.1*b=t1*(thru ss (Bh.col q0 q1 q2).f i).f1.2/\(thru ss (Bh.col q0 q1 q2).f i).f2.1*b=t2*(thru ss (Bh.col q0 q1 q2).f i).f2.2,⟨q0,q1,q2,1,_,_,rfl,⟨MN hb0,MN hb1,MN hb2⟩,rfl,rfl,rfl⟩,?_,?_⟩
   · rintro i x ρ e ⟨t0,t1,t2,b,v4,v5,rfl,⟨g0,g1,g2⟩,e0,e1,e2⟩
     obtain ⟨s',es,rfl⟩:=J1y e
     have hi:i<ss.length:=by rw [<- List.length_reverse];exact (List.getElem?_eq_some_iff.mp es).1
     have ok:=hs _ (List.mem_reverse.mp (List.mem_of_getElem? es))
     have fo:=KE hf hs i (by omega)
     rw [LP es]
     generalize thru ss (Bh.col q0 q1 q2).f i=q at fo e0 e1 e2 ⊢
     have c0:Bd 9 s'.c0:=Bd.of (by have:=ok.a0;omega) (by have:=ok.a1;omega)
     have c1:Bd 9 s'.c1:=Bd.of (by have:=ok.b0;omega) (by have:=ok.b1;omega)
     have c2:Bd 9 s'.c2:=Bd.of (by have:=ok.d0;omega) (by have:=ok.d1;omega)
     have c3:Bd 5 s'.cv:=Bd.of (by have:=ok.e0;omega) (by have:=ok.e1;omega)
     have c4:Bd 5 (8 - s'.cv):=Bd.of (by have:=ok.e1;omega) (by have:=ok.e0;omega)
     have w0:Bd (30+3*i+8) t0:=g0.t
     have w1:Bd (30+3*i+8) t1:=g1.t
     have w2:Bd (30+3*i+8) t2:=g2.t
     have w3:Bd (30+3*i) b:=g0.b
     walk_at "g"
     walk_at "gc"
     exact ⟨_,_,_,_,_,_,rfl,⟨g0.step ok.a0 ok.a1 ok.e0 ok.e1,g1.step ok.b0 ok.b1 ok.e0 ok.e1,g2.step ok.d0 ok.d1 ok.e0 ok.e1⟩,XH fo.o0 ok.a0 ok.a1 ok.e0 ok.e1 e0,XH fo.o1 ok.b0 ok.b1 ok.e0 ok.e1 e1,XH fo.o2 ok.d0 ok.d1 ok.e0 ok.e1 e2⟩
   · rintro ρ ⟨t0,t1,t2,b,v4,v5,rfl,⟨g0,g1,g2⟩,e0,e1,e2⟩
     rw [List.length_reverse,List.length_map] at e0 e1 e2 g0 g1 g2
     have fo:=KE hf hs ss.length (Nat.le_refl _)
     have hb:0<b:=g0.p
     unfold F9.w at hP
     rw [JV fo.o0.p hb e0,JV fo.o1.p hb e1,JV fo.o2.p hb e2] at hP
     walk_at "g"
     walk_at "gc"
     refine And.intro ⟨hb,_,g0.b,by omega⟩ ?_
     walk_at "g"
     refine And.intro ⟨hb,_,g0.b,by omega⟩ ?_
     walk_at "g"
     refine And.intro ⟨hb,_,g0.b,by omega⟩ ?_
     walk_at "g"
     exact hP
theorem Q1h:PyData.strOk "plain" = true:=by decide +kernel
theorem Q1g:PyData.strOk "woven" = true:=by decide +kernel
theorem Q1i:PyData.strOk "picture" = true:=by decide +kernel
theorem Ct.fine (ct:Ct):BV 4 ct.d=true:=by
 cases ct with
 | pl k=>simp [Ct.d,Col.d,BV,CZ,Q1h,t3]
 | wv a b k=>simp [Ct.d,Col.d,BV,CZ,Q1g,t3]
 | pc rows p q r =>
   have:CZ 2 (rows.map fun r=>D.lst (r.map Col.d))=true:=FG fun d hd=>by
    obtain ⟨row,_,rfl⟩:=List.mem_map.mp hd
    show CZ 1 (row.map Col.d)=true
    exact FG fun e he=>by
     obtain ⟨k,_,rfl⟩:=List.mem_map.mp he
     rfl
   simp [Ct.d,J9t,BV,CZ,Q1i,t2,this]
theorem Thg.fine (x:Thg):BV 5 x.d=true:=by
 have h:=x.ct.fine
 have h2:BV 4 x.t.d=true:=rfl
 simp [Thg.d,BV,CZ,h,h2]
theorem MX (xs:List Thg):CZ 5 (xs.map Thg.d)=true:=FG fun d hd=>by
 obtain ⟨x,_,rfl⟩:=List.mem_map.mp hd
 exact x.fine
abbrev FZ:Stmt:=top 77
theorem Z0:FnScope ["_law_bag_here","_law_most","_law_found","_law_place","_law_face_here","_law_way","_law_a","_law_b","_law_c"] ["_law_bag_here","_law_most"] (J3 FZ):=⟨rfl,rfl,rfl,by decide +kernel,rfl,by decide +kernel,by decide +kernel⟩
noncomputable def VL:MU:=fun ds P n=>∃ most:Int,ds=[.bag,.int most]/\(6<=most/\most<=24)/\n+7729<=9000/\∀ (xs:List Thg) (n':Nat),(∀ x∈xs,x.ok)->xs.length<=24->n'<=n+7729->P (.lst (xs.map Thg.d)) n'
theorem OJ {w:World} {f:Addr} (F:Fun K "_law_things" "_law_things" FZ f fd) (Z:Bi mg) {c:Cs} (Y:Ex K mg base c) (g0:Callee P w K mg base CX0 "_law_take" 1 ["_law_bag_here","_law_many"] (Z2 K BT GJ)) (g1:Callee P w K mg base CX0 "_law_face" 4 ["_law_bag_here"] (Z2 K BT J6e)) (g2:Callee P w K mg base CX0 "_law_coat" 3 ["_law_bag_here"] (Z2 K BT ZN)):FnOk P w K mg base CX0 5 f fd ["_law_bag_here","_law_most"] (Z2 K BT VL):=by
 refine F.okC Z0 (fun ds PP n h=>?_) (fun cdv A outer s H E M bg ds PP n hr hS_=>?_)
 · obtain ⟨most,rfl,hm,hn,hP⟩:=h
   exact ⟨rfl,List.mem_cons_self ..⟩
 · obtain ⟨most,rfl,hm,hn,hP⟩:=hS_
   refine ⟨_,(V0 (LH (i:=2) Z0.nd rfl (by walk_at "o") Q6)
    (V0 (LJ (Y8 3) PassesOwn.never rfl (PD rfl Z.range_ (J6 (V5 g0 hr.m rfl (J6 (cjv 0) (J6 (J7 fun H0=>(J9 BB Z4 (jdv 1) J1)) Q6))) Q6)) (pg_name (i:=3) Z0.nd rfl (by walk_at "o")) (V0 (AI (i:=4) Z0.nd rfl (by walk_at "o") (V5 g1 hr.m rfl (J6 (cjv 0) Q6)))
    (V0 (AI (i:=5) Z0.nd rfl (by walk_at "o") (V5 g0 hr.m rfl (J6 (cjv 0) (J6 (J7 fun H0=>J1) Q6))))
    (V0 (FS (DN fun H0=>(J7q (AB OE HV (jdv 5) J1 (Y2 _)) (J3f (AB (MC K (by rfl) hr.units) IK (jdv 2) (AS J4) (Y2 _))))) (V0 (ZD (AW [6,7,8]) (IV (Q0 K (by rfl)) V1 (IV (Q0 K (by rfl)) V1 (cjv 2) (V5 g0 hr.m rfl (J6 (cjv 0) (J6 (J7 fun H0=>(V9 (AL K (by rfl)) HP rfl Z.len_ GI (J0 (jdv 2) J4))) Q6))) (fun _ _=>rfl)) (J7 fun H0=>J1) (fun _ _=>rfl)) (PG.or (Z8 (n:=3) K (by rfl) (by rfl) (J5 (pg_name (i:=6) Z0.nd rfl (by walk_at "o")) (J5 (pg_name (i:=7) Z0.nd rfl (by walk_at "o")) (J5 (pg_name (i:=8) Z0.nd rfl (by walk_at "o")) V3)))) (Z9 (n:=3) K (by rfl) (by rfl) (J5 (pg_name (i:=6) Z0.nd rfl (by walk_at "o")) (J5 (pg_name (i:=7) Z0.nd rfl (by walk_at "o")) (J5 (pg_name (i:=8) Z0.nd rfl (by walk_at "o")) V3))))))
    (Z1 (AI (i:=4) Z0.nd rfl (by walk_at "o") (J7 fun H0=>(Q5 (Q0 K (by rfl)) V1 (AS (J0 (Y7 (J0 (jdv 6) (J0 (jdv 7) (J0 (jdv 8) J4)))) (J0 (Y7 (J0 (jdv 7) (J0 (jdv 8) (J0 (jdv 6) J4)))) J4))) (jdv 5) (fun _ _=>rfl)))))) DB)
    (Z1 (HN (i:=2) (by rfl) rfl (by walk_at "v") (J6 (FW (J6 (J7 fun H0=>(jdv 4)) (J6 (V5 g2 hr.m rfl (J6 (cjv 0) Q6)) (J6 (V5 g0 hr.m rfl (J6 (cjv 0) (J6 (J7 fun H0=>J1) Q6))) Q6)))) Q6) (HU PySem.F.plainAttrs_list PySem.F.slot_list_append PySem.F.type_list_append DY (pv 2) (CJA.h (J6 (FW (J6 (J7 fun H0=>(jdv 4)) (J6 (V5 g2 hr.m rfl (J6 (cjv 0) Q6)) (J6 (V5 g0 hr.m rfl (J6 (cjv 0) (J6 (J7 fun H0=>J1) Q6))) Q6)))) Q6)))))))))
    (Z1 (CL (cjv 2))))),?_⟩
   have hm24:6<=most/\most<=24:=hm
   walk_at "g"
   refine ⟨_,rfl,by omega,by omega,by omega,fun r1 n1 y0 y1 m1=>?_⟩
   walk_at "g"
   refine And.intro ⟨by omega,by omega⟩ ?_
   have hlen:(Y4 0 r1.toNat).length=r1.toNat:=by simp [Y4]
   refine ⟨fun i ρ n'=>∃ (xs:List Thg) (v3 v4 v5 v6 v7 v8:Option D),ρ=[some .bag,some (.int most),some (.own (xs.map Thg.d)),v3,v4,v5,v6,v7,v8]/\xs.length=i/\(∀ x∈xs,x.ok)/\n'<=n+1+322*i,⟨[],_,_,_,_,_,_,rfl,rfl,by simp,by omega⟩,?_,?_⟩
   · rintro i x ρ n' e ⟨xs,v3,v4,v5,v6,v7,v8,rfl,hl,hxs,hn'⟩
     obtain ⟨rfl,hi⟩:=HI e
     clear e
     have hi:i<24:=by omega
     walk_at "g"
     refine ⟨by omega,fun t n2 ok pos m2=>?_⟩
     walk_at "g"
     refine ⟨_,rfl,by omega,by decide,by decide,fun way n3 w0 w1 m3=>?_⟩
     have w1:way<6:=w1
     walk_at "g"
     by_cases hw:way<2
     · refine IfP.t (by simp [hw]) ?_
       walk_at "g"
       refine J8f 5 (MX xs) ?_
       cases hE:(xs.map Thg.d).isEmpty
       · walk_at "g"
         have h0:0<xs.length:=by
          cases xs with
          | nil=>cases hE
          | cons _ _=>simp
         refine ⟨_,rfl,by omega,by rw [List.length_map];omega,by rw [List.length_map];omega,fun k n4 k0 k1 m4=>?_⟩
         rw [List.length_map] at k1
         walk_at "g"
         refine ixm k0 (by rw [List.length_map];exact k1) fun dz mz=>?_
         obtain ⟨x,hx,rfl⟩:=List.mem_map.mp mz
         obtain ⟨xok,xpos,_,_⟩:=hxs x hx
         clear mz
         obtain ⟨ds,eds⟩:∃ ds,x.ct.d=.tup ds:=by cases x.ct<;>exact ⟨_,rfl⟩
         rw [show x.d=.tup [x.t.d,.tup ds,.int x.cv] from by unfold Thg.d;rw [eds]]
         walk_at "g"
         obtain rfl|rfl:way=0\/way=1:=by omega
         · walk_at "g"
           refine ⟨by omega,fun ct n5 co m5=>?_⟩
           obtain ⟨cs,ecs⟩:∃ cs,ct.d=.tup cs:=by cases ct<;>exact ⟨_,rfl⟩
           rw [ecs]
           walk_at "g"
           refine ⟨_,rfl,by omega,by decide,by decide,fun cv n6 c0 c1 m6=>?_⟩
           have c1:cv<9:=c1
           walk_at "g"
           refine And.intro (by show (true&&decide ((xs.map Thg.d).length<1000))=true;rw [List.length_map];simp;omega) ?_
           refine ⟨xs++[⟨x.t,ct,cv⟩],_,_,_,_,_,_,by rw [List.map_append,show [(⟨x.t,ct,cv⟩:Thg)].map Thg.d=[.tup [(x.t:T3).d,.tup cs,.int cv]] from by rw [<- ecs];rfl];rfl,by simp [hl],fun y hy=>?_,by omega⟩
           rcases List.mem_append.mp hy with q|q
           · exact hxs y q
           · have:y=⟨x.t,ct,cv⟩:=by simpa using q
             rw [this]
             exact ⟨xok,xpos,co,⟨c0,by show cv<=8;omega⟩⟩
         · walk_at "g"
           refine ⟨by omega,fun ct n5 co m5=>?_⟩
           obtain ⟨cs,ecs⟩:∃ cs,ct.d=.tup cs:=by cases ct<;>exact ⟨_,rfl⟩
           rw [ecs]
           walk_at "g"
           refine ⟨_,rfl,by omega,by decide,by decide,fun cv n6 c0 c1 m6=>?_⟩
           have c1:cv<9:=c1
           walk_at "g"
           refine And.intro (by show (true&&decide ((xs.map Thg.d).length<1000))=true;rw [List.length_map];simp;omega) ?_
           refine ⟨xs++[⟨⟨x.t.bx,x.t.b_y,x.t.bz,x.t.bw,x.t.cx,x.t.cy,x.t.cz,x.t.cw,x.t.ax,x.t.ay,x.t.az,x.t.aw⟩,ct,cv⟩],_,_,_,_,_,_,by rw [List.map_append,show [(⟨⟨x.t.bx,x.t.b_y,x.t.bz,x.t.bw,x.t.cx,x.t.cy,x.t.cz,x.t.cw,x.t.ax,x.t.ay,x.t.az,x.t.aw⟩,ct,cv⟩:Thg)].map Thg.d=[.tup [(⟨x.t.bx,x.t.b_y,x.t.bz,x.t.bw,x.t.cx,x.t.cy,x.t.cz,x.t.cw,x.t.ax,x.t.ay,x.t.az,x.t.aw⟩:T3).d,.tup cs,.int cv]] from by rw [<- ecs];rfl];rfl,by simp [hl],fun y hy=>?_,by omega⟩
           rcases List.mem_append.mp hy with q|q
           · exact hxs y q
           · have:y=⟨⟨x.t.bx,x.t.b_y,x.t.bz,x.t.bw,x.t.cx,x.t.cy,x.t.cz,x.t.cw,x.t.ax,x.t.ay,x.t.az,x.t.aw⟩,ct,cv⟩:=by simpa using q
             rw [this]
             exact ⟨⟨xok.bx,xok.b_y,xok.bz,xok.bw,xok.cx,xok.cy,xok.cz,xok.cw,xok.ax,xok.ay,xok.az,xok.aw⟩,⟨xpos.b,xpos.c,xpos.a⟩,co,⟨c0,by show cv<=8;omega⟩⟩
       · walk_at "g"
         refine ⟨by omega,fun ct n5 co m5=>?_⟩
         obtain ⟨cs,ecs⟩:∃ cs,ct.d=.tup cs:=by cases ct<;>exact ⟨_,rfl⟩
         rw [ecs]
         walk_at "g"
         refine ⟨_,rfl,by omega,by decide,by decide,fun cv n6 c0 c1 m6=>?_⟩
         have c1:cv<9:=c1
         walk_at "g"
         refine And.intro (by show (true&&decide ((xs.map Thg.d).length<1000))=true;rw [List.length_map];simp;omega) ?_
         refine ⟨xs++[⟨t,ct,cv⟩],_,_,_,_,_,_,by rw [List.map_append,show [(⟨t,ct,cv⟩:Thg)].map Thg.d=[.tup [(t:T3).d,.tup cs,.int cv]] from by rw [<- ecs];rfl];rfl,by simp [hl],fun y hy=>?_,by omega⟩
         rcases List.mem_append.mp hy with q|q
         · exact hxs y q
         · have:y=⟨t,ct,cv⟩:=by simpa using q
           rw [this]
           exact ⟨ok.mono (by decide),pos,co,⟨c0,by show cv<=8;omega⟩⟩
     · refine IfP.f (by simp [hw]) ?_
       walk_at "g"
       refine ⟨by omega,fun ct n5 co m5=>?_⟩
       obtain ⟨cs,ecs⟩:∃ cs,ct.d=.tup cs:=by cases ct<;>exact ⟨_,rfl⟩
       rw [ecs]
       walk_at "g"
       refine ⟨_,rfl,by omega,by decide,by decide,fun cv n6 c0 c1 m6=>?_⟩
       have c1:cv<9:=c1
       walk_at "g"
       refine And.intro (by show (true&&decide ((xs.map Thg.d).length<1000))=true;rw [List.length_map];simp;omega) ?_
       refine ⟨xs++[⟨t,ct,cv⟩],_,_,_,_,_,_,by rw [List.map_append,show [(⟨t,ct,cv⟩:Thg)].map Thg.d=[.tup [(t:T3).d,.tup cs,.int cv]] from by rw [<- ecs];rfl];rfl,by simp [hl],fun y hy=>?_,by omega⟩
       rcases List.mem_append.mp hy with q|q
       · exact hxs y q
       · have:y=⟨t,ct,cv⟩:=by simpa using q
         rw [this]
         exact ⟨ok.mono (by decide),pos,co,⟨c0,by show cv<=8;omega⟩⟩
   · rintro ρ n' ⟨xs,v3,v4,v5,v6,v7,v8,rfl,hl,hxs,hn'⟩
     rw [hlen] at hl hn'
     walk_at "g"
     exact hP xs n' hxs (by omega) (by omega)
abbrev HE:Stmt:=top 79
theorem DM:FnScope ["_law_e","_law_kinds"] ["_law_e"] (J3 HE):=⟨rfl,rfl,rfl,by decide +kernel,rfl,by decide +kernel,by decide +kernel⟩
theorem J3b {X:Cx}:MtM X "list.count" YE:=J0k
noncomputable def JD (c:Cs):Addr->Sp:=fun y vs H Q _=>vs=[.ref y]/\H y=some (ExcO y c.NoBoard)/\∀ H',Same H H'->Q (.bl true) H'
theorem QI {w:World} {f:Addr} (F:Fun K "_law_alone" "_law_alone" HE f fd) (Z:Bi mg) {c:Cs} (Y:Ex K mg base c):FnOkM P w K mg base 1 f fd ["_law_e"] (JD c):=by
 refine F.okM DM (fun y vs H Q E h=>?_) (fun cdv A outer s H vs Q y hr hh h=>?_)
 · obtain ⟨rfl,hx,k⟩:=h
   rfl
 · obtain ⟨rfl,hx,k⟩:=h
   refine ⟨_,(AQ (CK (i:=1) DM.nd rfl (by walk_at "o") (HK (V2 (AE (Y9 K (by rfl)) rfl Z.isinstance_ V7 (V2 (pv 0) (V2 (BP rfl Y.g_NoFraction) AA))) (V2 (AE (Y9 K (by rfl)) rfl Z.isinstance_ V7 (V2 (pv 0) (V2 (BP rfl Y.g_NoSpot) AA))) (V2 (AE (Y9 K (by rfl)) rfl Z.isinstance_ V7 (V2 (pv 0) (V2 (BP rfl Y.g_NoBody) AA))) (V2 (AE (Y9 K (by rfl)) rfl Z.isinstance_ V7 (V2 (pv 0) (V2 (BP rfl Y.g_NoMove) AA))) AA))))))
    (AQ (CK (i:=1) DM.nd rfl (by walk_at "o") (BE SA (pv 1) (HK (V2 (AE (Y9 K (by rfl)) rfl Z.isinstance_ V7 (V2 (pv 0) (V2 (BP rfl Y.g_NoFlat) AA))) (V2 (AE (Y9 K (by rfl)) rfl Z.isinstance_ V7 (V2 (pv 0) (V2 (BP rfl Y.g_NoBoard) AA))) (V2 (AE (Y9 K (by rfl)) rfl Z.isinstance_ V7 (V2 (pv 0) (V2 (BP rfl Y.g_NoLight) AA))) (V2 (AE (Y9 K (by rfl)) rfl Z.isinstance_ V7 (V2 (pv 0) (V2 (BP rfl Y.g_NoDeed) AA))) AA)))))))
    (AQ (CK (i:=1) DM.nd rfl (by walk_at "o") (BE SA (pv 1) (HK (V2 (AE (Y9 K (by rfl)) rfl Z.isinstance_ V7 (V2 (pv 0) (V2 (BP rfl Y.g_NoText) AA))) (V2 (AE (Y9 K (by rfl)) rfl Z.isinstance_ V7 (V2 (pv 0) (V2 (BP rfl Y.g_NoName) AA))) (V2 (AE (Y9 K (by rfl)) rfl Z.isinstance_ V7 (V2 (pv 0) (V2 (BP rfl Y.g_NoRow) AA))) (V2 (AE (Y9 K (by rfl)) rfl Z.isinstance_ V7 (V2 (pv 0) (V2 (BP rfl Y.g_Behind) AA))) AA)))))))
    (AQ (CK (i:=1) DM.nd rfl (by walk_at "o") (BE SA (pv 1) (HK (V2 (AE (Y9 K (by rfl)) rfl Z.isinstance_ V7 (V2 (pv 0) (V2 (BP rfl Y.g_TooMany) AA))) (V2 (AE (Y9 K (by rfl)) rfl Z.isinstance_ V7 (V2 (pv 0) (V2 (BP rfl Y.g_NoFace) AA))) AA)))))
    (EC (GG (RZ (AE (Y9 K (by rfl)) rfl Z.isinstance_ V7 (V2 (pv 0) (V2 (BP rfl Y.g_NoBoard) AA))) (RZ (AE (QM K (by rfl)) rfl Z.isinstance_ V7 (V2 (pv 0) (V2 (YK (v:=.ty "ValueError") rfl Z.ValueError_ QN rfl) AA))) (WN (RY DK (HU PySem.F.plainAttrs_list PySem.F.slot_list_count PySem.F.type_list_count J3b (pv 1) (V2 J9v AA)) AC (Y2 _))))))))))),?_⟩
   walk_at "rd"
   refine ⟨_,_,_,false,rfl,hx,.inr ⟨rfl,Y.x_NoBoard,Y.n_NoBoard_NoFraction⟩,?_⟩
   walk_at "rd"
   refine ⟨_,_,_,false,rfl,hx,.inr ⟨rfl,Y.x_NoBoard,Y.n_NoBoard_NoSpot⟩,?_⟩
   walk_at "rd"
   refine ⟨_,_,_,false,rfl,hx,.inr ⟨rfl,Y.x_NoBoard,Y.n_NoBoard_NoBody⟩,?_⟩
   walk_at "rd"
   refine ⟨_,_,_,false,rfl,hx,.inr ⟨rfl,Y.x_NoBoard,Y.n_NoBoard_NoMove⟩,?_⟩
   walk_at "rd"
   refine ⟨Nat.le_trans (Nat.le_of_ble_eq_true rfl) AF,fun p1 en1=>?_⟩
   have hN:upd H p1 (.lst [.bl false,.bl false,.bl false,.bl false]) p1=some (.lst [.bl false,.bl false,.bl false,.bl false]):=Y3
   have hx:upd H p1 (.lst [.bl false,.bl false,.bl false,.bl false]) y=some (ExcO y c.NoBoard):=Same.upd en1 _ _ hx
   have S1:Same H (upd H p1 (.lst [.bl false,.bl false,.bl false,.bl false])):=Same.upd en1
   generalize upd H p1 (.lst [.bl false,.bl false,.bl false,.bl false])=G0 at hN hx S1 ⊢
   clear en1
   walk_at "rd"
   refine ⟨_,_,_,false,rfl,hx,.inr ⟨rfl,Y.x_NoBoard,Y.n_NoBoard_NoFlat⟩,?_⟩
   walk_at "rd"
   refine ⟨_,_,_,true,rfl,hx,.inl ⟨rfl,rfl⟩,?_⟩
   walk_at "rd"
   refine ⟨_,_,_,false,rfl,hx,.inr ⟨rfl,Y.x_NoBoard,Y.n_NoBoard_NoLight⟩,?_⟩
   walk_at "rd"
   refine ⟨_,_,_,false,rfl,hx,.inr ⟨rfl,Y.x_NoBoard,Y.n_NoBoard_NoDeed⟩,?_⟩
   walk_at "rd"
   refine ⟨Nat.le_trans (Nat.le_of_ble_eq_true rfl) AF,fun q1 eq1=>?_⟩
   refine ⟨_,_,[.bl false,.bl false,.bl false,.bl false],[.bl false,.bl true,.bl false,.bl false],rfl,rfl,Same.upd eq1 _ _ hN,Y3,Nat.le_trans (Nat.le_of_ble_eq_true rfl) AF,fun p2 en2=>?_⟩
   have S2:=(Same.upd (o:=.lst [.bl false,.bl true,.bl false,.bl false]) eq1).trans (Same.upd (o:=.lst ([.bl false,.bl false,.bl false,.bl false]++[.bl false,.bl true,.bl false,.bl false])) en2)
   have hN':upd (upd G0 q1 (.lst [.bl false,.bl true,.bl false,.bl false])) p2 (.lst ([.bl false,.bl false,.bl false,.bl false]++[.bl false,.bl true,.bl false,.bl false])) p2=some (.lst [.bl false,.bl false,.bl false,.bl false,.bl false,.bl true,.bl false,.bl false]):=Y3
   replace hx:=S2 _ _ hx
   replace S1:=S1.trans S2
   clear S2
   generalize upd (upd G0 q1 (.lst [.bl false,.bl true,.bl false,.bl false])) p2 (.lst ([.bl false,.bl false,.bl false,.bl false]++[.bl false,.bl true,.bl false,.bl false]))=G1 at hN' hx S1 ⊢
   clear hN en2 eq1
   have hN:=hN'
   clear hN'
   walk_at "rd"
   refine ⟨_,_,_,false,rfl,hx,.inr ⟨rfl,Y.x_NoBoard,Y.n_NoBoard_NoText⟩,?_⟩
   walk_at "rd"
   refine ⟨_,_,_,false,rfl,hx,.inr ⟨rfl,Y.x_NoBoard,Y.n_NoBoard_NoName⟩,?_⟩
   walk_at "rd"
   refine ⟨_,_,_,false,rfl,hx,.inr ⟨rfl,Y.x_NoBoard,Y.n_NoBoard_NoRow⟩,?_⟩
   walk_at "rd"
   refine ⟨_,_,_,false,rfl,hx,.inr ⟨rfl,Y.x_NoBoard,Y.n_NoBoard_Behind⟩,?_⟩
   walk_at "rd"
   refine ⟨Nat.le_trans (Nat.le_of_ble_eq_true rfl) AF,fun q2 eq2=>?_⟩
   refine ⟨_,_,[.bl false,.bl false,.bl false,.bl false,.bl false,.bl true,.bl false,.bl false],[.bl false,.bl false,.bl false,.bl false],rfl,rfl,Same.upd eq2 _ _ hN,Y3,Nat.le_trans (Nat.le_of_ble_eq_true rfl) AF,fun p3 en3=>?_⟩
   have S2:=(Same.upd (o:=.lst [.bl false,.bl false,.bl false,.bl false]) eq2).trans (Same.upd (o:=.lst ([.bl false,.bl false,.bl false,.bl false,.bl false,.bl true,.bl false,.bl false]++[.bl false,.bl false,.bl false,.bl false])) en3)
   have hN':upd (upd G1 q2 (.lst [.bl false,.bl false,.bl false,.bl false])) p3 (.lst ([.bl false,.bl false,.bl false,.bl false,.bl false,.bl true,.bl false,.bl false]++[.bl false,.bl false,.bl false,.bl false])) p3=some (.lst [.bl false,.bl false,.bl false,.bl false,.bl false,.bl true,.bl false,.bl false,.bl false,.bl false,.bl false,.bl false]):=Y3
   replace hx:=S2 _ _ hx
   replace S1:=S1.trans S2
   clear S2
   generalize upd (upd G1 q2 (.lst [.bl false,.bl false,.bl false,.bl false])) p3 (.lst ([.bl false,.bl false,.bl false,.bl false,.bl false,.bl true,.bl false,.bl false]++[.bl false,.bl false,.bl false,.bl false]))=G2 at hN' hx S1 ⊢
   clear hN en3 eq2
   have hN:=hN'
   clear hN'
   walk_at "rd"
   refine ⟨_,_,_,false,rfl,hx,.inr ⟨rfl,Y.x_NoBoard,Y.n_NoBoard_TooMany⟩,?_⟩
   walk_at "rd"
   refine ⟨_,_,_,false,rfl,hx,.inr ⟨rfl,Y.x_NoBoard,Y.n_NoBoard_NoFace⟩,?_⟩
   walk_at "rd"
   refine ⟨Nat.le_trans (Nat.le_of_ble_eq_true rfl) AF,fun q3 eq3=>?_⟩
   refine ⟨_,_,[.bl false,.bl false,.bl false,.bl false,.bl false,.bl true,.bl false,.bl false,.bl false,.bl false,.bl false,.bl false],[.bl false,.bl false],rfl,rfl,Same.upd eq3 _ _ hN,Y3,Nat.le_trans (Nat.le_of_ble_eq_true rfl) AF,fun p4 en4=>?_⟩
   have S2:=(Same.upd (o:=.lst [.bl false,.bl false]) eq3).trans (Same.upd (o:=.lst ([.bl false,.bl false,.bl false,.bl false,.bl false,.bl true,.bl false,.bl false,.bl false,.bl false,.bl false,.bl false]++[.bl false,.bl false])) en4)
   have hN':upd (upd G2 q3 (.lst [.bl false,.bl false])) p4 (.lst ([.bl false,.bl false,.bl false,.bl false,.bl false,.bl true,.bl false,.bl false,.bl false,.bl false,.bl false,.bl false]++[.bl false,.bl false])) p4=some (.lst [.bl false,.bl false,.bl false,.bl false,.bl false,.bl true,.bl false,.bl false,.bl false,.bl false,.bl false,.bl false,.bl false,.bl false]):=Y3
   replace hx:=S2 _ _ hx
   replace S1:=S1.trans S2
   clear S2
   generalize upd (upd G2 q3 (.lst [.bl false,.bl false])) p4 (.lst ([.bl false,.bl false,.bl false,.bl false,.bl false,.bl true,.bl false,.bl false,.bl false,.bl false,.bl false,.bl false]++[.bl false,.bl false]))=G3 at hN' hx S1 ⊢
   clear hN en4 eq3
   have hN:=hN'
   clear hN'
   walk_at "rd"
   refine ⟨_,_,_,true,rfl,hx,.inl ⟨rfl,rfl⟩,?_⟩
   walk_at "rd"
   refine ⟨_,_,_,rfl,hx,Y.v_NoBoard,PZ,?_⟩
   walk_at "rd"
   refine ⟨.inl ⟨rfl,_,SqL.of hN⟩,?_⟩
   refine ⟨_,[false,false,false,false,false,true,false,false,false,false,false,false,false,false],true,rfl,rfl,hN,?_⟩
   walk_at "rd"
   exact k _ S1
abbrev FM:Stmt:=top 82
theorem HR:FnScope ["_law_things_here","_law_board","_law_behind","_law_e"] ["_law_things_here","_law_board","_law_behind"] (J3 FM):=⟨rfl,rfl,rfl,by decide +kernel,rfl,by decide +kernel,by decide +kernel⟩
noncomputable def RI (c:Cs):DSp:=fun ds P _=>∃ (xs:List Thg) (d:D) (k0 k1 k2:Int),ds=[.lst (xs.map Thg.d),d,t3 k0 k1 k2]/\(∀ x∈xs,x.ok)/\xs.length<=30/\(0<=k0/\k0<=255)/\(0<=k1/\k1<=255)/\(0<=k2/\k2<=255)/\tkD d=true/\CD d=true/\plain d=true/\EK d=false/\P (.bl true)
theorem NH {w:World} {f:Addr} (F:Fun K "_law_refused" "_law_refused" FM f fd) (Z:Bi mg) {c:Cs} (Y:Ex K mg base c) (g0:Callee P w K mg base (CX1 P w base) "coloured" 8 ["things","board","behind"] (DU K BT (XU c))) (g1:CalleeM P w K mg base "_law_alone" 1 ["_law_e"] (JD c)):FnOk P w K mg base CX0 9 f fd ["_law_things_here","_law_board","_law_behind"] (Q3 K BT (RI c)):=by
 refine F.okD HR (fun ds PP Ed h=>?_) (fun cdv A outer s H E M bg ds PP Ed hr hS_=>?_)
 · obtain ⟨xs,d,q0,q1,q2,rfl,hxs,hl,b0,b1,b2,h1,h2,h4,h3,hP⟩:=h
   rfl
 · obtain ⟨xs,d,q0,q1,q2,rfl,hxs,hl,b0,b1,b2,h1,h2,h4,h3,hP⟩:=hS_
   refine ⟨_,(J8 (J7r (fun C=>C=c.NoBoard) (hd:=fun C F=>C=c.NoBoard/\F.rt (.bl true)) (by
    intro C x H' E F pn l hd k o hx
    obtain ⟨rfl,hd⟩:=hd
    refine ⟨Y.s_NoBoard,?_⟩
    walk_at "rd"
    refine ⟨Y3,fun H2 S2=>?_⟩
    exact l.rt (.bl true) (.bl true) H2 hd rfl (Kp.trans k (Kp.same ((Same.upd hx).trans S2))) (okB.same o ((Same.upd hx).trans S2))) (Q1t (i:=3) K (by rfl) (by rfl) (by rfl) rfl Y.g_ShadeError Y.sh HR.nd rfl rfl (fun xe pn E1 hp=>PSs.withE fun hE1=>JSs.h (Q4 (UV (J0o hE1 hp g0 hr.m rfl (J0 (jdv 0) (J0 (jdv 1) (J0 (jdv 2) J4))))))) (fun y=>(EC (GG (J7b (by exact rfl) g1 (hr.m.mark _) rfl (V2 (pv 3) AA)))))))
    (Q4 (V6 MI))),?_⟩
   refine ⟨?_,fun C e=>⟨e,hP⟩⟩
   walk_at "g"
   refine ⟨xs,bor d,q0,q1,q2,rfl,hxs,hl,b0,b1,b2,?_,?_,fun z=>rfl,fun wd hg e hb=>?_⟩
   · cases d<;>first|exact h1|cases h4
   · cases d<;>first|exact h2|cases h4
   · have eb:bor d=d:=by cases d<;>first|rfl|cases h4
     rw [eb] at e
     subst e
     have:EK (t2 wd hg)=true:=by
      simp only [EK,IL,Bool.and_eq_true,decide_eq_true_eq]
      omega
     rw [this] at h3
     cases h3
abbrev JN:Stmt:=top 81
theorem IB:FnScope ["_law_bag_here","_law_thing","_law_some"] ["_law_bag_here"] (J3 JN):=⟨rfl,rfl,rfl,by decide +kernel,rfl,by decide +kernel,by decide +kernel⟩
noncomputable def Q0p:MU:=fun ds P n=>ds=[.bag]/\n+2<=9000/\∀ (d:D) (n':Nat),tkD d=true->CD d=true->plain d=true->EK d=false->n'<=n+2->P d n'
theorem UM {w:World} {f:Addr} (F:Fun K "_law_odd" "_law_odd" JN f fd) (Z:Bi mg) {c:Cs} (Y:Ex K mg base c) (g0:Callee P w K mg base CX0 "_law_take" 1 ["_law_bag_here","_law_many"] (Z2 K BT GJ)):FnOk P w K mg base CX0 2 f fd ["_law_bag_here"] (Z2 K BT Q0p):=by
 refine F.okC IB (fun ds PP n h=>?_) (fun cdv A outer s H E M bg ds PP n hr hS_=>?_)
 · obtain ⟨rfl,hn,hP⟩:=h
   exact ⟨rfl,List.mem_cons_self ..⟩
 · obtain ⟨rfl,hn,hP⟩:=hS_
   refine ⟨_,(V0 (AI (i:=1) IB.nd rfl (by walk_at "o") (IV (Q0 K (by rfl)) V1 (J7 fun H0=>(AS (J0 J1 (J0 J1 (J0 MI (J0 YO (J0 FC (J0 (FD J1) (J0 (Y7 (J0 J1 J4)) (J0 (J9 GH Y6 J1 J1) J4)))))))))) (V5 g0 hr.m rfl (J6 (cjv 0) (J6 (J7 fun H0=>J1) Q6))) (fun _ _=>rfl)))
    (V0 (AI (i:=2) IB.nd rfl (by walk_at "o") (J7 fun H0=>(AS (J0 (Y7 (J0 (jdv 1) (J0 J1 J4))) (J0 (Y7 (J0 J1 (J0 (jdv 1) J4))) (J0 (AS (J0 J1 (J0 J1 J4))) (J0 (Y7 (J0 J1 J4)) (J0 (Y7 (J0 J1 (J0 J1 (J0 J1 J4)))) (J0 YO (J0 J1 (J0 (jdv 1) J4)))))))))))
    (Z1 (CL (IV (Q0 K (by rfl)) V1 (J7 fun H0=>(jdv 2)) (IV (Q0 K (by rfl)) V1 (J7 fun H0=>(AS (J0 J1 (J0 J1 (J0 J1 (J0 J1 (J0 J1 (J0 J1 (J0 J1 (J0 J1 (J0 J1 (J0 J1 J4)))))))))))) (V5 g0 hr.m rfl (J6 (cjv 0) (J6 (J7 fun H0=>J1) Q6))) (fun _ _=>rfl)) (fun _ _=>rfl)))))),?_⟩
   walk_at "g"
   refine ⟨_,rfl,by omega,by decide,by decide,fun r1 n1 a0 a1 m1=>?_⟩
   walk_at "g"
   refine ixm a0 (by exact a1) fun dz mz=>?_
   have hz:dz=.int 0\/dz=.int 17\/dz=.bl true\/dz=.non\/dz=.str "3"\/dz=.int (-1)\/dz=.tup [.int 3]\/dz=.int ((10:Int) ^ (11:Int).toNat):=by
    simpa only [List.mem_cons,List.not_mem_nil,or_false] using mz
   have pz:plain dz=true:=by rcases hz with rfl|rfl|rfl|rfl|rfl|rfl|rfl|rfl<;>rfl
   clear mz
   rcases hz with rfl|rfl|rfl|rfl|rfl|rfl|rfl|rfl
   all_goals
    walk_at "g"
    refine ⟨_,rfl,by omega,by decide,by decide,fun r2 n2 b0 b1 m2=>?_⟩
    walk_at "g"
    refine ixm b0 (by exact b1) fun dj mj=>?_
    obtain ⟨j,rfl,j0,j1⟩:∃ j:Int,dj=.int j/\0<=j/\j<8:=by
     simp only [List.mem_cons,List.not_mem_nil,or_false] at mj
     rcases mj with e|e|e|e|e|e|e|e|e|e<;>exact ⟨_,e,by decide,by decide⟩
    walk_at "g"
    refine ixm j0 (by exact j1) fun d md=>?_
    simp only [List.mem_cons,List.not_mem_nil,or_false] at md
    refine ⟨by rcases md with rfl|rfl|rfl|rfl|rfl|rfl|rfl|rfl<;>rfl,?_⟩
    rcases md with rfl|rfl|rfl|rfl|rfl|rfl|rfl|rfl<;>exact hP _ n2 rfl rfl rfl rfl (by omega)
def WE (xs:List Thg)(h:Bh)(w:Nat)(d:D):D:=.lst (J4x xs h w d)
theorem J1x (xs:List Thg)(h:Bh)(w hg:Nat):(Y4 0 hg).map (WE xs h w)=(MZ xs h w hg).map D.lst:=by
 unfold MZ
 rw [List.map_map]
 rfl
def isC (d:D):Prop:=(∃ a b c:Int,d=t3 a b c)\/∃ n:Int,d=.int n
theorem isC.fine {d:D}(h:isC d)(n:Nat):BV (n+1) d=true:=by
 rcases h with ⟨a,b,c,rfl⟩|⟨m,rfl⟩<;>rfl
theorem isC.noL {d:D}(h:isC d):noL d=true:=by
 rcases h with ⟨a,b,c,rfl⟩|⟨m,rfl⟩<;>rfl
theorem J9a {xs:List Thg}{h:Bh}{w hg:Nat}:(MZ xs h w hg).length=hg/\∀ r∈MZ xs h w hg,r.length=w/\∀ d∈r,isC d:=by
 unfold MZ
 refine ⟨by rw [List.length_map,rangeD_le],fun r hr=>?_⟩
 obtain ⟨y,hy,rfl⟩:=List.mem_map.mp hr
 obtain ⟨i,hi,rfl⟩:=CW hy
 refine ⟨by show ((Y4 0 w).map _).length=w;rw [List.length_map,rangeD_le],fun d hd=>?_⟩
 obtain ⟨z,hz,rfl⟩:=List.mem_map.mp (show d∈(Y4 0 w).map (IU xs h i) from hd)
 obtain ⟨j,hj,rfl⟩:=CW hz
 exact .inl ⟨_,_,_,rfl⟩
theorem QS {rows:List (List D)}(h:∀ r∈rows,∀ d∈r,isC d)(n:Nat):BV (n+3) (.lst (rows.map D.lst))=true:=by
 unfold BV
 refine FG fun d hd=>?_
 obtain ⟨r,hr,rfl⟩:=List.mem_map.mp hd
 unfold BV
 exact FG fun d hd=>(h r hr d hd).fine n
def MS (rows:List (List D))(n:Nat):List (List D):=rows.mapIdx fun i r=>if i<n then r++[.int (i:Int)] else r
theorem J1h (rows:List (List D)):MS rows 0=rows:=by
 unfold MS
 apply List.ext_getElem?
 intro i
 rw [List.getElem?_mapIdx]
 cases rows[i]?<;>simp
theorem J9j {rows:List (List D)}{n:Nat}{row:List D}(e:rows[n]?=some row):(MS rows n)[n]?=some row:=by
 unfold MS
 rw [List.getElem?_mapIdx,e]
 simp
theorem J5r {rows:List (List D)}{n:Nat}{row:List D}(e:rows[n]?=some row):(MS rows n).set n (row++[.int (n:Int)])=MS rows (n+1):=by
 have hn:=(List.getElem?_eq_some_iff.mp e).1
 apply List.ext_getElem?
 intro i
 unfold MS
 rw [List.getElem?_mapIdx]
 by_cases z:n=i
 · subst z
   rw [List.getElem?_set,e]
   simp [hn]
 · rw [List.getElem?_set_ne z,List.getElem?_mapIdx]
   cases rows[i]? with
   | none=>rfl
   | some r =>
     simp only [Option.map_some]
     congr 1
     by_cases y:i<n
     · rw [if_pos y,if_pos (by omega)]
     · rw [if_neg y,if_neg (by omega)]
def SB:D->D
 | .tup [.int n,.lst r]=>.lst (r++[.int n])
 | _=>.non
theorem UH (rows:List (List D)):(enumD (rows.map D.lst)).map SB=(MS rows rows.length).map D.lst:=by
 apply List.ext_getElem?
 intro i
 unfold enumD MS
 simp only [List.getElem?_map,List.getElem?_mapIdx]
 cases e:rows[i]? with
 | none=>rfl
 | some r =>
   have:=(List.getElem?_eq_some_iff.mp e).1
   simp [SB,this]
theorem J5s {rows:List (List D)}(h:∀ r∈rows,∀ d∈r,isC d)(n:Nat):∀ r∈MS rows n,∀ d∈r,isC d:=fun r hr d hd=>by
 unfold MS at hr
 obtain ⟨i,hi,rfl⟩:=List.mem_mapIdx.mp hr
 split at hd
 · rcases List.mem_append.mp hd with z|z
   · exact h _ (List.getElem_mem hi) d z
   · rw [List.mem_singleton.mp z];exact .inr ⟨_,rfl⟩
 · exact h _ (List.getElem_mem hi) d hd
theorem J4w {a b c:Int}:MZ [] (.col a b c) 3 2=[[t3 a b c,t3 a b c,t3 a b c],[t3 a b c,t3 a b c,t3 a b c]]:=by
 have e:∀ x y:Int,(thru (shS x y []) (Bh.col a b c).f (shS x y []).length).w=t3 a b c:=fun x y=>by
  show t3 (a / 1) (b / 1) (c / 1)=_
  rw [Int.ediv_one,Int.ediv_one,Int.ediv_one]
 have e':∀ x y:Int,IU [] (.col a b c) y (.int x)=t3 a b c:=fun x y=>e x y
 show [[IU [] (.col a b c) 0 (.int 0),IU [] (.col a b c) 0 (.int 1),IU [] (.col a b c) 0 (.int 2)],[IU [] (.col a b c) 1 (.int 0),IU [] (.col a b c) 1 (.int 1),IU [] (.col a b c) 1 (.int 2)]]=_
 rw [e',e',e',e',e',e']
abbrev EN:Stmt:=top 83
theorem BQ:FnScope ["_law_script","_law_bag_here","_law_wide","_law_high","_law_way","_law_things_here","_law_behind","_law_due","_law_y","_law_handed","_law_turn_about","_law_found","_law_k","_law_row"] ["_law_script"] (J3 EN):=⟨rfl,rfl,rfl,by decide +kernel,rfl,by decide +kernel,by decide +kernel⟩
noncomputable def RO (K:Fg):Sp:=fun vs H Q _=>∃ (a:Addr) (ns:List Int),vs=[.ref a]/\SqL K H a (ns.map V.int)/\ns.length<=63/\∀ H',Q (.bl true) H'
theorem J4s {X:Cx}{W:Wd}(s1 s2:List Stmt){sts:List Stmt}{Q:DS3->Prop}(R:DS3->Prop)(e:s1++s2=sts)(h2:∃ d2,CJSs X W s2 d2/\R d2)(h1:∀ d2,CJSs X W s2 d2->R d2->∃ d,CJSs X W (s1++s2) d/\Q d):∃ d,CJSs X W sts d/\Q d:=by
 obtain ⟨d2,t2,r⟩:=h2
 rw [<- e]
 exact h1 d2 t2 r
theorem Q1z {w:World} {f:Addr} (F:Fun K "law" "law" EN f fd) (Z:Bi mg) {c:Cs} (Y:Ex K mg base c) (g0:Callee P w K mg base CX0 "_law_bag" 1 ["_law_script","_law_k"] (TL K BT RV)) (g1:Callee P w K mg base CX0 "_law_take" 1 ["_law_bag_here","_law_many"] (Z2 K BT GJ)) (g2:Callee P w K mg base CX0 "_law_things" 5 ["_law_bag_here","_law_most"] (Z2 K BT VL)) (g3:Callee P w K mg base CX0 "_law_colour" 2 ["_law_bag_here"] (Z2 K BT PX)) (g4:Callee P w K mg base CX0 "_law_copies" 1 ["_law_things_here"] (DR K BT RK)) (g5:Callee P w K mg base (CX1 P w base) "coloured" 8 ["things","board","behind"] (DU K BT (XU c))) (g6:Callee P w K mg base CX0 "_law_refused" 9 ["_law_things_here","_law_board","_law_behind"] (Q3 K BT (RI c))) (g7:Callee P w K mg base CX0 "_law_odd" 2 ["_law_bag_here"] (Z2 K BT Q0p)) (g8:Callee P w K mg base CX0 "_law_over" 1 ["_law_sheets_here","_law_behind"] (Q3 K BT J5x)) (g9:Callee P w K mg base CX0 "_law_sheets" 5 ["_law_things_here","_law_dot"] (Q3 K BT RJ)):FnOk P w K mg base CX0 10 f fd ["_law_script"] (RO K):=by
 refine F.okLC BT BQ (fun cdv A outer s H E ns hr hlen=>?_)
 refine J4s ((BW EN).take 7) ((BW EN).drop 7) (fun d2=>∀ (w h:Nat) (way:Int) (xs:List Thg) (n4:Nat),1<=w->w<=16->1<=h->h<=16->(∀ x∈xs,x.ok)->xs.length<=24->n4<=7900->d2 { nx:=fun _ _=>D.non=.bl true,rt:=fun d _=>d=.bl true } [some (.scr ns),some .bag,some (.int w),some (.int h),some (.int way),some (.lst (xs.map Thg.d)),none,none,none,none,none,none,none,none] n4) rfl ⟨_,(V0 (AI (i:=6) BQ.nd rfl (by walk_at "o") (V5 g3 hr.m rfl (J6 (cjv 1) Q6)))
  (V0 (LH (i:=7) BQ.nd rfl (by walk_at "o") Q6)
  (V0 (LJ (Y8 8) PassesOwn.never rfl (GQ fun H0=>(BF rfl Z.range_ (J0 (jdv 3) J4))) (pg_name (i:=8) BQ.nd rfl (by walk_at "o")) (Z1 (HN (i:=7) (by rfl) rfl (by walk_at "v") (PJ fun H0=>(J0 (Z6 (X:=(V4 CX0 P w K mg base ["_law_script","_law_bag_here","_law_wide","_law_high","_law_way","_law_things_here","_law_behind","_law_due","_law_y","_law_handed","_law_turn_about","_law_found","_law_k","_law_row"] "law" (J3 EN) f cdv A outer s H E).nox) (Y8 0) (ET (X:=(V4 CX0 P w K mg base ["_law_script","_law_bag_here","_law_wide","_law_high","_law_way","_law_things_here","_law_behind","_law_due","_law_y","_law_handed","_law_turn_about","_law_found","_law_k","_law_row"] "law" (J3 EN) f cdv A outer s H E).nox) (N':=["_law_x","_law_things_here","_law_y","_law_behind"]) (map:=[none,some 5,some 8,some 6]) (by rfl) (by rfl) (by decide +kernel) (by rfl) ⟨⟨rfl,rfl,rfl,by walk_at "o"⟩,⟨⟨rfl,rfl,rfl,by walk_at "o"⟩,⟨⟨rfl,rfl,rfl,by walk_at "o"⟩,True.intro⟩⟩⟩ (gkeep_name rfl) fun cl0 C0 fp0 s0 H0=>⟨(pg_name (X:=(Q9 (V4 CX0 P w K mg base ["_law_script","_law_bag_here","_law_wide","_law_high","_law_way","_law_things_here","_law_behind","_law_due","_law_y","_law_handed","_law_turn_about","_law_found","_law_k","_law_row"] "law" (J3 EN) f cdv A outer s H E).nox ["_law_x","_law_things_here","_law_y","_law_behind"] _ cl0 C0 fp0 s0 H0)) (i:=0) (Y1 ["_law_x","_law_things_here","_law_y","_law_behind"] (by decide +kernel)) rfl (by walk_at "o")),Z5,(Q7 (X:=(Q9 (V4 CX0 P w K mg base ["_law_script","_law_bag_here","_law_wide","_law_high","_law_way","_law_things_here","_law_behind","_law_due","_law_y","_law_handed","_law_turn_about","_law_found","_law_k","_law_row"] "law" (J3 EN) f cdv A outer s H E).nox ["_law_x","_law_things_here","_law_y","_law_behind"] _ cl0 C0 fp0 s0 H0)) g8 hr.m rfl (J0 (Q7 g9 hr.m rfl (J0 (jdv 1) (J0 (Y7 (J0 (jdv 0) (J0 (jdv 2) J4))) J4))) (J0 (jdv 3) J4)))⟩) (BF rfl Z.range_ (J0 (jdv 2) J4))) J4)) (HU PySem.F.plainAttrs_list PySem.F.slot_list_append PySem.F.type_list_append DY (pv 7) (CJA.h (PJ fun H0=>(J0 (Z6 (X:=(V4 CX0 P w K mg base ["_law_script","_law_bag_here","_law_wide","_law_high","_law_way","_law_things_here","_law_behind","_law_due","_law_y","_law_handed","_law_turn_about","_law_found","_law_k","_law_row"] "law" (J3 EN) f cdv A outer s H E).nox) (Y8 0) (ET (X:=(V4 CX0 P w K mg base ["_law_script","_law_bag_here","_law_wide","_law_high","_law_way","_law_things_here","_law_behind","_law_due","_law_y","_law_handed","_law_turn_about","_law_found","_law_k","_law_row"] "law" (J3 EN) f cdv A outer s H E).nox) (N':=["_law_x","_law_things_here","_law_y","_law_behind"]) (map:=[none,some 5,some 8,some 6]) (by rfl) (by rfl) (by decide +kernel) (by rfl) ⟨⟨rfl,rfl,rfl,by walk_at "o"⟩,⟨⟨rfl,rfl,rfl,by walk_at "o"⟩,⟨⟨rfl,rfl,rfl,by walk_at "o"⟩,True.intro⟩⟩⟩ (gkeep_name rfl) fun cl0 C0 fp0 s0 H0=>⟨(pg_name (X:=(Q9 (V4 CX0 P w K mg base ["_law_script","_law_bag_here","_law_wide","_law_high","_law_way","_law_things_here","_law_behind","_law_due","_law_y","_law_handed","_law_turn_about","_law_found","_law_k","_law_row"] "law" (J3 EN) f cdv A outer s H E).nox ["_law_x","_law_things_here","_law_y","_law_behind"] _ cl0 C0 fp0 s0 H0)) (i:=0) (Y1 ["_law_x","_law_things_here","_law_y","_law_behind"] (by decide +kernel)) rfl (by walk_at "o")),Z5,(Q7 (X:=(Q9 (V4 CX0 P w K mg base ["_law_script","_law_bag_here","_law_wide","_law_high","_law_way","_law_things_here","_law_behind","_law_due","_law_y","_law_handed","_law_turn_about","_law_found","_law_k","_law_row"] "law" (J3 EN) f cdv A outer s H E).nox ["_law_x","_law_things_here","_law_y","_law_behind"] _ cl0 C0 fp0 s0 H0)) g8 hr.m rfl (J0 (Q7 g9 hr.m rfl (J0 (jdv 1) (J0 (Y7 (J0 (jdv 0) (J0 (jdv 2) J4))) J4))) (J0 (jdv 3) J4)))⟩) (BF rfl Z.range_ (J0 (jdv 2) J4))) J4)))))))
  (OZ 7 (V0 (J4y (i:=9) BQ.nd rfl (by walk_at "o") g4 hr.m rfl (fun H0=>(J0 (jdv 5) J4)))
  (OZ 9 (V0 (LJ (Y8 10) PassesOwn.never rfl (GQ fun H0=>(BF rfl Z.range_ (J0 J1 J4))) (pg_name (i:=10) BQ.nd rfl (by walk_at "o")) (V0 (RC (fun _=>ML) OD (i:=11) BQ.nd rfl (by walk_at "o") g5 hr.m rfl (fun H0=>(J0 (jdv 9) (J0 (Y7 (J0 (jdv 2) (J0 (jdv 3) J4))) (J0 (jdv 6) J4)))))
  (V0 (FS (DN fun H0=>(J3g (IZ (DI (by rfl) (V9 (EG K (by rfl)) XM rfl Z.isinstance_ V7 (J0 (jdv 11) (J0 (IP rfl Z.list_ TH) J4))) (fun _=>rfl))) (Q2m (AB (MC K (by rfl) hr.units) IK (jdv 11) (jdv 7) (Y2 _)) (YN (AB (MC K (by rfl) hr.units) IK (jdv 9) (jdv 5) (Y2 _)))))) (Z1 (CL (J7 fun H0=>MI))) DB)
  (V0 (J4z (i:=11) (AW [12,13]) PassesOwn.never rfl (YH (X:=(V4 CX0 P w K mg base ["_law_script","_law_bag_here","_law_wide","_law_high","_law_way","_law_things_here","_law_behind","_law_due","_law_y","_law_handed","_law_turn_about","_law_found","_law_k","_law_row"] "law" (J3 EN) f cdv A outer s H E).nox) K (by rfl) rfl Z.enumerate_ (V2 (pv 11) AA)) (PG.or (Z8 (n:=2) K (by rfl) (by rfl) (J5 (pg_name (i:=12) BQ.nd rfl (by walk_at "o")) (J5 (pg_name (i:=13) BQ.nd rfl (by walk_at "o")) V3))) (Z9 (n:=2) K (by rfl) (by rfl) (J5 (pg_name (i:=12) BQ.nd rfl (by walk_at "o")) (J5 (pg_name (i:=13) BQ.nd rfl (by walk_at "o")) V3)))) (Z1 (J5a (i:=11) (j:=13) (by rfl) (fun H0=>HU PySem.F.plainAttrs_list PySem.F.slot_list_append PySem.F.type_list_append DY (pv 13) (JA.h (J0 (jdv 12) J4))))))
  (V0 (FS (DN fun H0=>(AB (MC K (by rfl) hr.units) IK (jdv 11) (Z6 (X:=(V4 CX0 P w K mg base ["_law_script","_law_bag_here","_law_wide","_law_high","_law_way","_law_things_here","_law_behind","_law_due","_law_y","_law_handed","_law_turn_about","_law_found","_law_k","_law_row"] "law" (J3 EN) f cdv A outer s H E).nox) (AW [0,1]) (ET (X:=(V4 CX0 P w K mg base ["_law_script","_law_bag_here","_law_wide","_law_high","_law_way","_law_things_here","_law_behind","_law_due","_law_y","_law_handed","_law_turn_about","_law_found","_law_k","_law_row"] "law" (J3 EN) f cdv A outer s H E).nox) (N':=["_law_k","_law_row"]) (map:=[none,none]) (by rfl) (by rfl) (by decide +kernel) (by rfl) True.intro (gkeep_seq (js:=[0,1]) (by decide)) fun cl0 C0 fp0 s0 H0=>⟨(PG.or (Z8 (n:=2) K (by rfl) (by rfl) (J5 (pg_name (i:=0) (Y1 ["_law_k","_law_row"] (by decide +kernel)) rfl (by walk_at "o")) (J5 (pg_name (i:=1) (Y1 ["_law_k","_law_row"] (by decide +kernel)) rfl (by walk_at "o")) V3))) (Z9 (n:=2) K (by rfl) (by rfl) (J5 (pg_name (i:=0) (Y1 ["_law_k","_law_row"] (by decide +kernel)) rfl (by walk_at "o")) (J5 (pg_name (i:=1) (Y1 ["_law_k","_law_row"] (by decide +kernel)) rfl (by walk_at "o")) V3)))),Z5,(J9 (X:=(Q9 (V4 CX0 P w K mg base ["_law_script","_law_bag_here","_law_wide","_law_high","_law_way","_law_things_here","_law_behind","_law_due","_law_y","_law_handed","_law_turn_about","_law_found","_law_k","_law_row"] "law" (J3 EN) f cdv A outer s H E).nox ["_law_k","_law_row"] _ cl0 C0 fp0 s0 H0)) SA Q2a (jdv 1) (AS (J0 (jdv 0) J4)))⟩) (J3j (by rfl) (J0 (jdv 7) J4) (YH K (by rfl) rfl Z.enumerate_ (JA.h (J0 (jdv 7) J4))))) (Y2 _))) (Z1 (CL (J7 fun H0=>MI))) DB)
  (Z1 (J5c (i:=11) (by rfl) (fun H0=>HU PySem.F.plainAttrs_list PySem.F.slot_list_append PySem.F.type_list_append DY (pv 11) (JA.h (J0 (AS J4) J4))))))))))
  (V0 (RC (fun _=>ML) OD (i:=11) BQ.nd rfl (by walk_at "o") g5 hr.m rfl (fun H0=>(J0 (AS J4) (J0 (Y7 (J0 J1 (J0 J1 J4))) (J0 (jdv 6) J4)))))
  (V0 (FS (DN fun H0=>(AB (MC K (by rfl) hr.units) IK (jdv 11) (AS (J0 (J9 WO WX (AS (J0 (jdv 6) J4)) J1) (J0 (J9 WO WX (AS (J0 (jdv 6) J4)) J1) J4))) (Y2 _))) (Z1 (CL (J7 fun H0=>MI))) DB)
  (V0 (J5b (i:=11) (k:=0) (by rfl) (fun H0=>HU PySem.F.plainAttrs_list PySem.F.slot_list_append PySem.F.type_list_append DY (HS YQ (pv 11) AC (fun _ _=>rfl)) (JA.h (J0 J1 J4))))
  (J1c 11 (V0 (FS (DN fun H0=>(AB (MC K (by rfl) hr.units) IK (Q5 (Q0 K (by rfl)) V1 (jdv 11) J1 (fun _ _=>rfl)) (J9 WO WX (AS (J0 (jdv 6) J4)) J1) (Y2 _))) (Z1 (CL (J7 fun H0=>MI))) DB)
  (Z1 (CL (J9e (PF g6 hr.m rfl (J6 (cjv 9) (J6 (V5 g7 hr.m rfl (J6 (cjv 1) Q6)) (J6 (J7 fun H0=>(jdv 6)) Q6)))) (J9d (PF g6 hr.m rfl (J6 (J7 fun H0=>(AS J4)) (J6 (V5 g7 hr.m rfl (J6 (cjv 1) Q6)) (J6 (J7 fun H0=>(jdv 6)) Q6)))))))))))))))))))),?_⟩ (fun d2 tR hR=>⟨_,(V0 (J9c (i:=1) rfl BQ.nd rfl (by walk_at "o") g0 hr.m rfl (PJ fun H0=>(J0 (jdv 0) (J0 J1 J4))))
  (V0 (AI (i:=2) BQ.nd rfl (by walk_at "o") (BR BB Z4 (J7 fun H0=>J1) (V5 g1 hr.m rfl (J6 (cjv 1) (J6 (J7 fun H0=>J1) Q6)))))
  (V0 (AI (i:=3) BQ.nd rfl (by walk_at "o") (BR BB Z4 (J7 fun H0=>J1) (V5 g1 hr.m rfl (J6 (cjv 1) (J6 (J7 fun H0=>J1) Q6)))))
  (V0 (AI (i:=4) BQ.nd rfl (by walk_at "o") (V5 g1 hr.m rfl (J6 (cjv 1) (J6 (J7 fun H0=>J1) Q6))))
  (V0 (AI (i:=5) BQ.nd rfl (by walk_at "o") (V5 g2 hr.m rfl (J6 (cjv 1) (J6 (J7 fun H0=>(Q5 (Q0 K (by rfl)) V1 (AS (J0 J1 (J0 J1 J4))) (AH FH LL rfl Z.int_ JZ (J0 (DJ DK CB (jdv 4) J1 (Y2 _)) J4)) (fun _ _=>rfl))) Q6))))
  (V0 (FS (DN fun H0=>(AB DK CB (jdv 4) J1 (Y2 _))) (V0 (AI (i:=2) BQ.nd rfl (by walk_at "o") (J7 fun H0=>(V9 (GS (by rfl)) NA rfl Z.min_ PM (J0 (jdv 2) (J0 J1 J4)))))
  (Z1 (AI (i:=3) BQ.nd rfl (by walk_at "o") (J7 fun H0=>(V9 (GS (by rfl)) NA rfl Z.min_ PM (J0 (jdv 3) (J0 J1 J4))))))) DB)
  (V0 (FS (DN fun H0=>(AB DK CB (jdv 4) J1 (Y2 _))) (V0 (AI (i:=2) BQ.nd rfl (by walk_at "o") (BR BB Z4 (J7 fun H0=>J1) (V5 g1 hr.m rfl (J6 (cjv 1) (J6 (J7 fun H0=>J1) Q6)))))
  (V0 (AI (i:=3) BQ.nd rfl (by walk_at "o") (BR BB Z4 (J7 fun H0=>J1) (V5 g1 hr.m rfl (J6 (cjv 1) (J6 (J7 fun H0=>J1) Q6)))))
  (Z1 (AI (i:=5) BQ.nd rfl (by walk_at "o") (J7 fun H0=>(EJ (JJ K (by rfl)) (jdv 5) FP (FN J1))))))) DB)
  tR))))))),?_⟩)
 · intro w h way xs n4 hw1 hw hh1 hh hxs hl hn4
   walk_at "g"
   refine ⟨by omega,fun k0 k1 k2 n8 b0 b1 b2 m8=>?_⟩
   walk_at "g"
   refine And.intro ⟨by omega,by omega⟩ ?_
   refine ⟨fun i ρ n'=>∃ v8 v9 v10 v11 v12 v13,ρ=[some (.scr ns),some .bag,some (.int w),some (.int h),some (.int way),some (.lst (xs.map Thg.d)),some (t3 k0 k1 k2),some (.own (((Y4 0 h).take i).map (WE xs (.col k0 k1 k2) w))),v8,v9,v10,v11,v12,v13]/\n'<=8000,⟨_,_,_,_,_,_,rfl,by omega⟩,?_,?_⟩
   · rintro i x ρ n' e ⟨v8,v9,v10,v11,v12,v13,rfl,hn'⟩
     have et:((Y4 0 h).take (i+1)).map (WE xs (.col k0 k1 k2) w)=((Y4 0 h).take i).map (WE xs (.col k0 k1 k2) w)++[WE xs (.col k0 k1 k2) w x]:=by rw [List.take_succ,show (Y4 0 h)[i]?=some x from e,List.map_append];rfl
     rw [et]
     have hll:(((Y4 0 h).take i).map (WE xs (.col k0 k1 k2) w)).length<=16:=by rw [List.length_map,List.length_take,rangeD_le];omega
     generalize (((Y4 0 h).take i).map (WE xs (.col k0 k1 k2) w))=L at hll ⊢
     obtain ⟨y,hy,rfl⟩:=CW (List.mem_of_getElem? e)
     have hy:y<h:=hy
     clear et e
     walk_at "g"
     refine And.intro ⟨by omega,by omega⟩ ?_
     walk_at "g"
     refine And.intro (by rw [rangeD_le];omega) ?_
     refine FR (IU xs (.col k0 k1 k2) y) (fun d Q hd hQ=>?_) (fun d hd=>?_) ?_
     · obtain ⟨x,hx,rfl⟩:=CW hd
       have hx:x<w:=hx
       obtain ⟨ed,so,sl⟩:=J9s (px:=x) (py:=y) hxs
       walk_at "g"
       refine ⟨xs,x,y,rfl,hxs,by omega,(Bd.of (by omega) (by omega)),(Bd.of (by omega) (by omega)),?_⟩
       rw [ed]
       walk_at "g"
       exact ⟨_,k0,k1,k2,rfl,so,by omega,b0,b1,b2,hQ⟩
     · obtain ⟨x,hx,rfl⟩:=CW hd
       rfl
     walk_at "g"
     refine And.intro (by show (true&&decide (L.length<1000))=true;simp;omega) ?_
     exact ⟨_,_,_,_,_,_,rfl,hn'⟩
   · rintro ρ n' ⟨v8,v9,v10,v11,v12,v13,rfl,hn'⟩
     rw [show ((Y4 0 h).take (Y4 0 (Int.toNat h)).length)=Y4 0 h from List.take_length,J1x]
     have cis:=@J9a xs (.col k0 k1 k2) w h
     have hbd:EK (t2 w h)=true:=by
      simp only [EK,IL,Bool.and_eq_true,decide_eq_true_eq]
      omega
     generalize hR:MZ xs (.col k0 k1 k2) w h=rows at cis
     walk_at "g"
     refine ⟨xs,rfl,hxs,by omega,?_⟩
     walk_at "g"
     refine ⟨fun i ρ n'=>∃ v8 v10 v11 v12 v13,ρ=[some (.scr ns),some .bag,some (.int w),some (.int h),some (.int way),some (.lst (xs.map Thg.d)),some (t3 k0 k1 k2),some (.lst (rows.map D.lst)),v8,some (.lst (xs.map Thg.d)),v10,v11,v12,v13]/\n'<=8000,⟨_,_,_,_,_,rfl,hn'⟩,?_,?_⟩
     · rintro i x ρ n' e ⟨v8,v10,v11,v12,v13,rfl,hn'⟩
       clear e
       walk_at "g"
       refine ⟨xs,t2 w h,k0,k1,k2,rfl,hxs,by omega,b0,b1,b2,rfl,rfl,fun z=>absurd (hbd.symm.trans z) (by decide),fun w' h' e _=>?_⟩
       obtain ⟨rfl,rfl⟩:w=w'/\h=h':=by
        unfold t2 at e
        simp at e
        omega
       rw [hR]
       refine ⟨fun r hr'=>KZ fun d hd=>((cis.2 r hr').2 d hd).noL,fun a rs hrs=>?_⟩
       walk_at "g"
       refine ⟨true,by rfl,?_⟩
       walk_at "g"
       refine IT 3 (QS (fun r h=>(cis.2 r h).2) 0) rfl (by decide) ?_
       walk_at "g"
       refine IT 6 (MX xs) rfl (by decide) ?_
       walk_at "g"
       refine ⟨a,rs,rows,rfl,fun n ρ n'=>∃ u8 u10 u12 u13,ρ=[some (.scr ns),some .bag,some (.int w),some (.int h),some (.int way),some (.lst (xs.map Thg.d)),some (t3 k0 k1 k2),some (.lst (rows.map D.lst)),u8,some (.lst (xs.map Thg.d)),u10,some (grd K a rs (MS rows n)),u12,u13]/\n'<=8000,⟨_,_,_,_,by rw [J1h];rfl,hn'⟩,?_,?_,?_⟩
       · rintro n ρ n' ⟨u8,u10,u12,u13,rfl,_⟩
         exact ⟨_,rfl⟩
       · rintro n r ρ n' er ⟨u8,u10,u12,u13,rfl,hn'⟩
         have hn:=(List.getElem?_eq_some_iff.mp er).1
         obtain ⟨row,erow⟩:∃ row,rows[n]?=some row:=⟨rows[n]'(by omega),List.getElem?_eq_getElem _⟩
         have hlr:=(cis.2 row (List.mem_of_getElem? erow)).1
         walk_at "g"
         refine ⟨a,rs,MS rows n,r,n,row,rfl,rfl,er,J9j erow,?_⟩
         walk_at "g"
         refine And.intro (by show (true&&decide (row.length<1000))=true;simp;omega) ?_
         exact ⟨_,_,_,_,by rw [<- J5r erow];rfl,hn'⟩
       · rintro ρ n' ⟨u8,u10,u12,u13,rfl,hn'⟩
         rw [hrs]
         walk_at "g"
         refine And.intro (by simp [enumD];omega) ?_
         refine FR SB (fun d Q hd hQ=>?_) (fun d hd=>?_) ?_
         · unfold enumD at hd
           obtain ⟨j,hj,rfl⟩:=List.mem_mapIdx.mp hd
           rw [List.getElem_map] at hQ ⊢
           have hj2:j<rows.length:=by rw [List.length_map] at hj;exact hj
           have hlr:=(cis.2 _ (List.getElem_mem hj2)).1
           generalize rows[j]=row at hQ hlr ⊢
           walk_at "g"
           refine And.intro (by simp;omega) ?_
           exact hQ
         · unfold enumD at hd
           obtain ⟨j,hj,rfl⟩:=List.mem_mapIdx.mp hd
           rw [List.getElem_map];rfl
         · rw [UH]
           refine IT 3 (QS (J5s (fun r hr'=>(cis.2 r hr').2) _) 0) rfl (by decide) ?_
           walk_at "g"
           refine ⟨a,rs,_,rfl,by omega,?_⟩
           walk_at "g"
           exact ⟨_,_,_,_,_,rfl,hn'⟩
     · rintro ρ n' ⟨v8,v10,v11,v12,v13,rfl,hn'⟩
       walk_at "g"
       refine ⟨[],t2 3 2,k0,k1,k2,rfl,(fun x hx=>by cases hx),by decide,b0,b1,b2,rfl,rfl,(fun z=>by cases z),fun w' h' e _=>?_⟩
       obtain ⟨rfl,rfl⟩:3=w'/\2=h':=by
        unfold t2 at e
        simp at e
        omega
       rw [J4w]
       refine ⟨fun r hr'=>KZ fun d hd=>?_,fun a rs hrs=>?_⟩
       · simp only [List.mem_cons,List.not_mem_nil,or_false] at hr'
         rcases hr' with rfl|rfl <;>
         · simp only [List.mem_cons,List.not_mem_nil,or_false] at hd
           rcases hd with rfl|rfl|rfl<;>rfl
       walk_at "g"
       refine And.intro ⟨by decide,by decide,by show 1*3<=1000;decide⟩ ?_
       walk_at "g"
       refine And.intro ⟨by decide,by decide,by show 1*3<=1000;decide⟩ ?_
       walk_at "g"
       refine IT 3 rfl rfl (by decide) ?_
       walk_at "g"
       refine ⟨a,rs,_,_,rfl,hrs,rfl,?_⟩
       walk_at "g"
       refine And.intro ⟨by decide,by decide,by show 1*3<=1000;decide⟩ ?_
       walk_at "g"
       refine IT 2 rfl rfl (by decide) ?_
       walk_at "g"
       refine ⟨by omega,fun d1 n9 e1 e2 e3 e4 m9=>?_⟩
       walk_at "g"
       refine ⟨by show (true&&(plain d1&&true))=true;rw [e3];rfl,xs,d1,k0,k1,k2,rfl,hxs,by omega,b0,b1,b2,e1,e2,e3,e4,?_⟩
       walk_at "g"
       refine ⟨by omega,fun d2 n10 g1 g2 g3 g4 m10=>?_⟩
       walk_at "g"
       refine ⟨by show (true&&(plain d2&&true))=true;rw [g3];rfl,[],d2,k0,k1,k2,rfl,(fun x hx=>by cases hx),by decide,b0,b1,b2,g1,g2,g3,g4,?_⟩
       walk_at "g"
 · walk_at "g"
   refine And.intro ⟨ns,0,rfl,by decide⟩ ?_
   walk_at "g"
   refine ⟨_,rfl,by decide,by decide,by decide,fun x n1 x0 x1 m1=>?_⟩
   have x1:x<7:=x1
   walk_at "g"
   refine ⟨_,rfl,by omega,by decide,by decide,fun y n2 y0 y1 m2=>?_⟩
   have y1:y<7:=y1
   walk_at "g"
   refine ⟨_,rfl,by omega,by decide,by decide,fun way n3 w0 w1 m3=>?_⟩
   have w1:way<8:=w1
   obtain ⟨w,ew⟩:∃ w:Nat,1+x=w:=⟨(1+x).toNat,by omega⟩
   obtain ⟨h,eh⟩:∃ h:Nat,1+y=h:=⟨(1+y).toNat,by omega⟩
   rw [ew,eh]
   by_cases h6:way=6
   · subst h6
     walk_at "g"
     refine ⟨24,rfl,by decide,by omega,fun xs n4 hxs hl m4=>?_⟩
     walk_at "g"
     obtain ⟨w2,ew2,hw1,hw⟩:∃ w2:Nat,((fun i j=>if j<i then j else i) (w:Int) 3:Int)=w2/\1<=w2/\w2<=16:=by
      dsimp only
      split
      · exact ⟨3,rfl,by decide,by decide⟩
      · exact ⟨w,rfl,by omega,by omega⟩
     obtain ⟨h2,eh2,hh1,hh⟩:∃ h2:Nat,((fun i j=>if j<i then j else i) (h:Int) 3:Int)=h2/\1<=h2/\h2<=16:=by
      dsimp only
      split
      · exact ⟨3,rfl,by decide,by decide⟩
      · exact ⟨h,rfl,by omega,by omega⟩
     rw [ew2,eh2]
     exact hR w2 h2 6 xs n4 hw1 hw hh1 hh hxs hl (by omega)
   · have e6:decide (way=6)=false:=by simp [h6]
     walk_at "g"
     rw [e6]
     walk_at "g"
     refine ⟨6,rfl,by decide,by omega,fun xs n4 hxs hl m4=>?_⟩
     walk_at "g"
     refine IfP.f (by rw [e6];rfl) ?_
     by_cases h7:way=7
     · subst h7
       walk_at "g"
       refine ⟨_,rfl,by omega,by decide,by decide,fun x' n5 x0' x1' m5=>?_⟩
       have x1':x'<16:=x1'
       walk_at "g"
       refine ⟨_,rfl,by omega,by decide,by decide,fun y' n6 y0' y1' m6=>?_⟩
       have y1':y'<16:=y1'
       walk_at "g"
       obtain ⟨w3,ew3⟩:∃ w:Nat,1+x'=w:=⟨(1+x').toNat,by omega⟩
       obtain ⟨h3,eh3⟩:∃ h:Nat,1+y'=h:=⟨(1+y').toNat,by omega⟩
       rw [ew3,eh3]
       have eC:L2.VD (xs.map Thg.d) none (some 3)=(xs.take 3).map Thg.d:=by
        unfold L2.VD
        have e1:HT.sIx (xs.map Thg.d).length 0 none=0:=rfl
        have e2:HT.sIx (xs.map Thg.d).length (xs.map Thg.d).length (some 3)=min 3 xs.length:=by unfold HT.sIx;rw [List.length_map];simp
        rw [e1,e2,List.drop_zero,Nat.sub_zero,List.map_take,List.take_eq_take_iff,List.length_map]
        omega
       rw [eC]
       exact hR w3 h3 7 (xs.take 3) n6 (by omega) (by omega) (by omega) (by omega) (fun x hx=>hxs x (List.mem_of_mem_take hx)) (by rw [List.length_take];omega) (by omega)
     · walk_at "g"
       refine IfP.f (by simp [h7]) ?_
       exact hR w h way xs n4 (by omega) (by omega) (by omega) (by omega) hxs hl (by omega)
end K
namespace K
open PySem L2
structure FnIn (K:Fg)(x:Str)(st:Stmt):Prop where
 ex:∃ (f:Addr) (fd:FuncData),PySem.W.nsIn K mainGlobals x=some (some (.ref f))/\Fun K x x st f fd
theorem fn_in {x:Str}{st:Stmt}{f:Addr}{oc:Value}{od an:Option Addr}{osl:Array (Option Value)}{kV doc pm cdv ct:Value}(a:PySem.W.nsIn K mainGlobals x=some (some (.ref f)))(l:K.lookup f=some ⟨oc,od,.func (PySem.W.fnOf x x (LF st) (BW st) (J3 st) .none kV doc pm an cdv ct),osl⟩)(c:PySem.W.codeIn K cdv x=true)(k:PySem.W.keepIn K (.ref f)=true):FnIn K x st:=⟨⟨_,_,a,Q2z l c k⟩⟩
local macro_rules | `(tactic| walk_at "b1") => `(tactic| exact fun _ _ _ _ _ _ us hl => match us,hl with | [_],_ => rfl)
local macro_rules | `(tactic| walk_at "b2") => `(tactic| exact fun _ _ _ _ _ _ us hl => match us,hl with | [_,_],_ => rfl)
local macro_rules | `(tactic| walk_at "b3") => `(tactic| exact fun _ _ _ _ _ _ us hl => match us,hl with | [_,_,_],_ => rfl)
theorem Q4s {l:PySem.W.OpenLaw}{w:World} {h:Heap} {fa:Addr}(X:K.In h)(G:h.Ns mainGlobals mg)(hfa:mg "law" = some (.ref fa))
 (h0:FnIn K "_law_bag" HC)
 (h1:FnIn K "_law_take" CU)
 (h2:FnIn K "_law_shared" GA)
 (h3:FnIn K "_law_spot" IG)
 (h4:FnIn K "_law_corner" GE)
 (h5:FnIn K "_law_face" CV)
 (h6:FnIn K "_law_places" GB)
 (h7:FnIn K "_law_colour" GF)
 (h8:FnIn K "_law_coat" BA)
 (h9:FnIn K "_law_things" FZ)
 (h10:FnIn K "_law_copies" CA)
 (h11:FnIn K "is_whole" JL)
 (h12:FnIn K "is_whole_tuple" AU)
 (h13:FnIn K "is_length" IE)
 (h14:FnIn K "check_board" BZ)
 (h15:FnIn K "whole_part" GY)
 (h16:FnIn K "as_fractions" BN)
 (h17:FnIn K "common_divisor" DF)
 (h18:FnIn K "lowest_terms" BM)
 (h19:FnIn K "fraction" JM)
 (h20:FnIn K "covered" LW)
 (h21:FnIn K "through" FE)
 (h22:FnIn K "colour_through" AV)
 (h23:FnIn K "determinant" FY)
 (h24:FnIn K "on_board" JK)
 (h25:FnIn K "side_number" FX)
 (h26:FnIn K "sign" WD)
 (h27:FnIn K "growth" OB)
 (h28:FnIn K "shifted_side" FK)
 (h29:FnIn K "has_dot" LV)
 (h30:FnIn K "turn" WC)
 (h31:FnIn K "products_added" BL)
 (h32:FnIn K "weights" LS)
 (h33:FnIn K "unreduced_depth" AO)
 (h34:FnIn K "share_tops" DD)
 (h35:FnIn K "blended" CC)
 (h36:FnIn K "nearest_place" ES)
 (h37:FnIn K "coat_at" LX)
 (h38:FnIn K "is_less" LU)
 (h39:FnIn K "sheets_at" CT)
 (h40:FnIn K "coloured" BY)
 (h41:FnIn K "_law_alone" HE)
 (h42:FnIn K "_law_refused" FM)
 (h43:FnIn K "_law_odd" JN)
 (h44:FnIn K "_law_over" BK)
 (h45:FnIn K "_law_lean" IH)
 (h46:FnIn K "_law_shifted" FL)
 (h47:FnIn K "_law_has" JP)
 (h48:FnIn K "_law_turn" IF)
 (h49:FnIn K "_law_leans" HA)
 (h50:FnIn K "_law_depth" HB)
 (h51:FnIn K "_law_mixed" GZ)
 (h52:FnIn K "_law_of" Z7)
 (h53:FnIn K "_law_nearer" GC)
 (h54:FnIn K "_law_sheets" AK)
 (h55:FnIn K "law" EN)
 (z_abs:PySem.W.nsIn K mainGlobals "abs" = some none)
 (z_len:PySem.W.nsIn K mainGlobals "len" = some none)
 (z_max:PySem.W.nsIn K mainGlobals "max" = some none)
 (z_min:PySem.W.nsIn K mainGlobals "min" = some none)
 (z_range:PySem.W.nsIn K mainGlobals "range" = some none)
 (z_isinstance:PySem.W.nsIn K mainGlobals "isinstance" = some none)
 (z_int:PySem.W.nsIn K mainGlobals "int" = some none)
 (z_bool:PySem.W.nsIn K mainGlobals "bool" = some none)
 (z_tuple:PySem.W.nsIn K mainGlobals "tuple" = some none)
 (z_zip:PySem.W.nsIn K mainGlobals "zip" = some none)
 (z_sum:PySem.W.nsIn K mainGlobals "sum" = some none)
 (z_list:PySem.W.nsIn K mainGlobals "list" = some none)
 (z_all:PySem.W.nsIn K mainGlobals "all" = some none)
 (z_str:PySem.W.nsIn K mainGlobals "str" = some none)
 (z_reversed:PySem.W.nsIn K mainGlobals "reversed" = some none)
 (z_enumerate:PySem.W.nsIn K mainGlobals "enumerate" = some none)
 (z_ValueError:PySem.W.nsIn K mainGlobals "ValueError" = some none)
 {t_LONGEST:Tok} (z_LONGEST:PySem.W.nsIn K mainGlobals "LONGEST" = some (some (.int 16 t_LONGEST)))
 {t_FULL_COVER:Tok} (z_FULL_COVER:PySem.W.nsIn K mainGlobals "FULL_COVER" = some (some (.int 8 t_FULL_COVER)))
 {c_ShadeError:Addr} (e_ShadeError:PySem.W.nsIn K mainGlobals "ShadeError" = some (some (.ref c_ShadeError)))
 {c_NoFraction:Addr} (e_NoFraction:PySem.W.nsIn K mainGlobals "NoFraction" = some (some (.ref c_NoFraction)))
 {c_NoSpot:Addr} (e_NoSpot:PySem.W.nsIn K mainGlobals "NoSpot" = some (some (.ref c_NoSpot)))
 {c_NoBody:Addr} (e_NoBody:PySem.W.nsIn K mainGlobals "NoBody" = some (some (.ref c_NoBody)))
 {c_NoMove:Addr} (e_NoMove:PySem.W.nsIn K mainGlobals "NoMove" = some (some (.ref c_NoMove)))
 {c_NoFlat:Addr} (e_NoFlat:PySem.W.nsIn K mainGlobals "NoFlat" = some (some (.ref c_NoFlat)))
 {c_NoFace:Addr} (e_NoFace:PySem.W.nsIn K mainGlobals "NoFace" = some (some (.ref c_NoFace)))
 {c_NoBoard:Addr} (e_NoBoard:PySem.W.nsIn K mainGlobals "NoBoard" = some (some (.ref c_NoBoard)))
 {c_NoLight:Addr} (e_NoLight:PySem.W.nsIn K mainGlobals "NoLight" = some (some (.ref c_NoLight)))
 {c_NoDeed:Addr} (e_NoDeed:PySem.W.nsIn K mainGlobals "NoDeed" = some (some (.ref c_NoDeed)))
 {c_NoText:Addr} (e_NoText:PySem.W.nsIn K mainGlobals "NoText" = some (some (.ref c_NoText)))
 {c_NoName:Addr} (e_NoName:PySem.W.nsIn K mainGlobals "NoName" = some (some (.ref c_NoName)))
 {c_NoRow:Addr} (e_NoRow:PySem.W.nsIn K mainGlobals "NoRow" = some (some (.ref c_NoRow)))
 {c_Behind:Addr} (e_Behind:PySem.W.nsIn K mainGlobals "Behind" = some (some (.ref c_Behind)))
 {c_TooMany:Addr} (e_TooMany:PySem.W.nsIn K mainGlobals "TooMany" = some (some (.ref c_TooMany)))
 (q_NoBoard:PySem.W.excIn K c_NoBoard bmV "ValueError.__new__" = true) (x1_NoBoard:PySem.W.findIn K (.ref c_NoBoard) "__getattribute__" = some (some (.builtin "BaseException.__getattribute__"))) (x5_NoBoard:PySem.W.findIn K (.ref c_NoBoard) "__getattr__" = some none) (x6_NoBoard:PySem.W.subIn K (.ref c_NoBoard) (.type "BaseException")=some true) (x2_NoBoard:PySem.W.findObj K c_NoBoard none "__class__" = some (.bind (.builtin "getset_descriptor.__get__") (.builtin "object.__class__"))) (x3_NoBoard:PySem.W.mroIn K c_NoBoard (.type "object")=some true) (x4_NoBoard:(PySem.W.clsIn K c_NoBoard).isSome=true) (v_NoBoard:PySem.W.subIn K (.ref c_NoBoard) (.type "ValueError")=some true) (s_NoBoard:PySem.W.subIn K (.ref c_NoBoard) (.ref c_ShadeError)=some true)
 (n_NoBoard_NoFraction:PySem.W.kin_not K c_NoBoard c_NoFraction=true)
 (n_NoBoard_NoSpot:PySem.W.kin_not K c_NoBoard c_NoSpot=true)
 (n_NoBoard_NoBody:PySem.W.kin_not K c_NoBoard c_NoBody=true)
 (n_NoBoard_NoMove:PySem.W.kin_not K c_NoBoard c_NoMove=true)
 (n_NoBoard_NoFlat:PySem.W.kin_not K c_NoBoard c_NoFlat=true)
 (n_NoBoard_NoFace:PySem.W.kin_not K c_NoBoard c_NoFace=true)
 (n_NoBoard_NoLight:PySem.W.kin_not K c_NoBoard c_NoLight=true)
 (n_NoBoard_NoDeed:PySem.W.kin_not K c_NoBoard c_NoDeed=true)
 (n_NoBoard_NoText:PySem.W.kin_not K c_NoBoard c_NoText=true)
 (n_NoBoard_NoName:PySem.W.kin_not K c_NoBoard c_NoName=true)
 (n_NoBoard_NoRow:PySem.W.kin_not K c_NoBoard c_NoRow=true)
 (n_NoBoard_Behind:PySem.W.kin_not K c_NoBoard c_Behind=true)
 (n_NoBoard_TooMany:PySem.W.kin_not K c_NoBoard c_TooMany=true)
 (q_NoFace:PySem.W.excIn K c_NoFace bmV "ValueError.__new__" = true) (x1_NoFace:PySem.W.findIn K (.ref c_NoFace) "__getattribute__" = some (some (.builtin "BaseException.__getattribute__"))) (x5_NoFace:PySem.W.findIn K (.ref c_NoFace) "__getattr__" = some none) (x6_NoFace:PySem.W.subIn K (.ref c_NoFace) (.type "BaseException")=some true) (x2_NoFace:PySem.W.findObj K c_NoFace none "__class__" = some (.bind (.builtin "getset_descriptor.__get__") (.builtin "object.__class__"))) (x3_NoFace:PySem.W.mroIn K c_NoFace (.type "object")=some true) (x4_NoFace:(PySem.W.clsIn K c_NoFace).isSome=true) (v_NoFace:PySem.W.subIn K (.ref c_NoFace) (.type "ValueError")=some true) (s_NoFace:PySem.W.subIn K (.ref c_NoFace) (.ref c_ShadeError)=some true)
 (n_NoFace_NoFraction:PySem.W.kin_not K c_NoFace c_NoFraction=true)
 (n_NoFace_NoSpot:PySem.W.kin_not K c_NoFace c_NoSpot=true)
 (n_NoFace_NoBody:PySem.W.kin_not K c_NoFace c_NoBody=true)
 (n_NoFace_NoMove:PySem.W.kin_not K c_NoFace c_NoMove=true)
 (n_NoFace_NoFlat:PySem.W.kin_not K c_NoFace c_NoFlat=true)
 (n_NoFace_NoBoard:PySem.W.kin_not K c_NoFace c_NoBoard=true)
 (n_NoFace_NoLight:PySem.W.kin_not K c_NoFace c_NoLight=true)
 (n_NoFace_NoDeed:PySem.W.kin_not K c_NoFace c_NoDeed=true)
 (n_NoFace_NoText:PySem.W.kin_not K c_NoFace c_NoText=true)
 (n_NoFace_NoName:PySem.W.kin_not K c_NoFace c_NoName=true)
 (n_NoFace_NoRow:PySem.W.kin_not K c_NoFace c_NoRow=true)
 (n_NoFace_Behind:PySem.W.kin_not K c_NoFace c_Behind=true)
 (n_NoFace_TooMany:PySem.W.kin_not K c_NoFace c_TooMany=true)
 (xb1:(PySem.W.clsIn K c_ShadeError).isSome=true) (xb2:PySem.W.typeIn K (.ref c_ShadeError)=some (.type "type")) (xb3:PySem.W.subIn K (.ref c_ShadeError) (.type "BaseException")=some true)
 : ∃ fd:FuncData,(∀ (s:Shared) (v:Value),BindsTo s fd ⟨[v],[]⟩ [("_law_script",v)])/\∀ base:Heap,K.In base->base.Ns mainGlobals mg->FnOk l.prog w K mg base CX0 10 fa fd ["_law_script"] (RO K):=by
 obtain ⟨f0,d0,a0,F0⟩:=h0.ex
 obtain ⟨f1,d1,a1,F1⟩:=h1.ex
 obtain ⟨f2,d2,a2,F2⟩:=h2.ex
 obtain ⟨f3,d3,a3,F3⟩:=h3.ex
 obtain ⟨f4,d4,a4,F4⟩:=h4.ex
 obtain ⟨f5,d5,a5,F5⟩:=h5.ex
 obtain ⟨f6,d6,a6,F6⟩:=h6.ex
 obtain ⟨f7,d7,a7,F7⟩:=h7.ex
 obtain ⟨f8,d8,a8,F8⟩:=h8.ex
 obtain ⟨f9,d9,a9,F9⟩:=h9.ex
 obtain ⟨f10,d10,a10,F10⟩:=h10.ex
 obtain ⟨f11,d11,a11,F11⟩:=h11.ex
 obtain ⟨f12,d12,a12,F12⟩:=h12.ex
 obtain ⟨f13,d13,a13,F13⟩:=h13.ex
 obtain ⟨f14,d14,a14,F14⟩:=h14.ex
 obtain ⟨f15,d15,a15,F15⟩:=h15.ex
 obtain ⟨f16,d16,a16,F16⟩:=h16.ex
 obtain ⟨f17,d17,a17,F17⟩:=h17.ex
 obtain ⟨f18,d18,a18,F18⟩:=h18.ex
 obtain ⟨f19,d19,a19,F19⟩:=h19.ex
 obtain ⟨f20,d20,a20,F20⟩:=h20.ex
 obtain ⟨f21,d21,a21,F21⟩:=h21.ex
 obtain ⟨f22,d22,a22,F22⟩:=h22.ex
 obtain ⟨f23,d23,a23,F23⟩:=h23.ex
 obtain ⟨f24,d24,a24,F24⟩:=h24.ex
 obtain ⟨f25,d25,a25,F25⟩:=h25.ex
 obtain ⟨f26,d26,a26,F26⟩:=h26.ex
 obtain ⟨f27,d27,a27,F27⟩:=h27.ex
 obtain ⟨f28,d28,a28,F28⟩:=h28.ex
 obtain ⟨f29,d29,a29,F29⟩:=h29.ex
 obtain ⟨f30,d30,a30,F30⟩:=h30.ex
 obtain ⟨f31,d31,a31,F31⟩:=h31.ex
 obtain ⟨f32,d32,a32,F32⟩:=h32.ex
 obtain ⟨f33,d33,a33,F33⟩:=h33.ex
 obtain ⟨f34,d34,a34,F34⟩:=h34.ex
 obtain ⟨f35,d35,a35,F35⟩:=h35.ex
 obtain ⟨f36,d36,a36,F36⟩:=h36.ex
 obtain ⟨f37,d37,a37,F37⟩:=h37.ex
 obtain ⟨f38,d38,a38,F38⟩:=h38.ex
 obtain ⟨f39,d39,a39,F39⟩:=h39.ex
 obtain ⟨f40,d40,a40,F40⟩:=h40.ex
 obtain ⟨f41,d41,a41,F41⟩:=h41.ex
 obtain ⟨f42,d42,a42,F42⟩:=h42.ex
 obtain ⟨f43,d43,a43,F43⟩:=h43.ex
 obtain ⟨f44,d44,a44,F44⟩:=h44.ex
 obtain ⟨f45,d45,a45,F45⟩:=h45.ex
 obtain ⟨f46,d46,a46,F46⟩:=h46.ex
 obtain ⟨f47,d47,a47,F47⟩:=h47.ex
 obtain ⟨f48,d48,a48,F48⟩:=h48.ex
 obtain ⟨f49,d49,a49,F49⟩:=h49.ex
 obtain ⟨f50,d50,a50,F50⟩:=h50.ex
 obtain ⟨f51,d51,a51,F51⟩:=h51.ex
 obtain ⟨f52,d52,a52,F52⟩:=h52.ex
 obtain ⟨f53,d53,a53,F53⟩:=h53.ex
 obtain ⟨f54,d54,a54,F54⟩:=h54.ex
 obtain ⟨f55,d55,a55,F55⟩:=h55.ex
 have e:=hfa.symm.trans (B2 X G a55)
 cases e
 have Z:Bi mg:=⟨PySem.W.mg_none_of X G z_abs,PySem.W.mg_none_of X G z_len,PySem.W.mg_none_of X G z_max,PySem.W.mg_none_of X G z_min,PySem.W.mg_none_of X G z_range,PySem.W.mg_none_of X G z_isinstance,PySem.W.mg_none_of X G z_int,PySem.W.mg_none_of X G z_bool,PySem.W.mg_none_of X G z_tuple,PySem.W.mg_none_of X G z_zip,PySem.W.mg_none_of X G z_sum,PySem.W.mg_none_of X G z_list,PySem.W.mg_none_of X G z_all,PySem.W.mg_none_of X G z_str,PySem.W.mg_none_of X G z_reversed,PySem.W.mg_none_of X G z_enumerate,PySem.W.mg_none_of X G z_ValueError,⟨_,B2 X G z_LONGEST⟩,⟨_,B2 X G z_FULL_COVER⟩⟩
 have bl:=F55.binds (ps:=["_law_script"]) fun _ _ _ _ _ _ us hl=>match us,hl with | [_],_=>rfl
 obtain ⟨oc,od,kV,doc,pm,an,cdv,ct,osl,el,lk,hcd⟩:=F55.ex
 refine ⟨d55,fun s v=>by rw [el];exact .of_eq rfl,fun base kb gb=>?_⟩
 have Y:Ex K mg base ⟨c_ShadeError,c_NoFraction,c_NoSpot,c_NoBody,c_NoMove,c_NoFlat,c_NoFace,c_NoBoard,c_NoLight,c_NoDeed,c_NoText,c_NoName,c_NoRow,c_Behind,c_TooMany⟩:=⟨B2 X G e_ShadeError,B2 X G e_NoFraction,B2 X G e_NoSpot,B2 X G e_NoBody,B2 X G e_NoMove,B2 X G e_NoFlat,B2 X G e_NoFace,B2 X G e_NoBoard,B2 X G e_NoLight,B2 X G e_NoDeed,B2 X G e_NoText,B2 X G e_NoName,B2 X G e_NoRow,B2 X G e_Behind,B2 X G e_TooMany,J9w kb gb e_NoBoard q_NoBoard,⟨x1_NoBoard,x5_NoBoard,x2_NoBoard,x3_NoBoard,x4_NoBoard,x6_NoBoard⟩,v_NoBoard,s_NoBoard,n_NoBoard_NoFraction,n_NoBoard_NoSpot,n_NoBoard_NoBody,n_NoBoard_NoMove,n_NoBoard_NoFlat,n_NoBoard_NoFace,n_NoBoard_NoLight,n_NoBoard_NoDeed,n_NoBoard_NoText,n_NoBoard_NoName,n_NoBoard_NoRow,n_NoBoard_Behind,n_NoBoard_TooMany,J9w kb gb e_NoFace q_NoFace,⟨x1_NoFace,x5_NoFace,x2_NoFace,x3_NoFace,x4_NoFace,x6_NoFace⟩,v_NoFace,s_NoFace,n_NoFace_NoFraction,n_NoFace_NoSpot,n_NoFace_NoBody,n_NoFace_NoMove,n_NoFace_NoFlat,n_NoFace_NoBoard,n_NoFace_NoLight,n_NoFace_NoDeed,n_NoFace_NoText,n_NoFace_NoName,n_NoFace_NoRow,n_NoFace_Behind,n_NoFace_TooMany,⟨xb1,xb2,xb3⟩⟩
 have G0:=Callee.mk' F0 (UO (P:=l.prog) (w:=w) (base:=base) F0 Z Y) (B2 X G a0) (F0.binds (by walk_at "b2"))
 have G1:=Callee.mk' F1 (SF (P:=l.prog) (w:=w) (base:=base) F1 Z Y) (B2 X G a1) (F1.binds (by walk_at "b2"))
 have G2:=Callee.mk' F2 (OM (P:=l.prog) (w:=w) (base:=base) F2 Z Y) (B2 X G a2) (F2.binds (by walk_at "b2"))
 have G3:=Callee.mk' F3 (SG (P:=l.prog) (w:=w) (base:=base) F3 Z Y G2) (B2 X G a3) (F3.binds (by walk_at "b1"))
 have G4:=Callee.mk' F4 (OP (P:=l.prog) (w:=w) (base:=base) F4 Z Y G3 G1) (B2 X G a4) (F4.binds (by walk_at "b2"))
 have G5:=Callee.mk' F5 (SJ (P:=l.prog) (w:=w) (base:=base) F5 Z Y G1 G4 G3) (B2 X G a5) (F5.binds (by walk_at "b1"))
 have G6:=Callee.mk' F6 (ON (P:=l.prog) (w:=w) (base:=base) F6 Z Y G1) (B2 X G a6) (F6.binds (by walk_at "b1"))
 have G7:=Callee.mk' F7 (OR (P:=l.prog) (w:=w) (base:=base) F7 Z Y G1) (B2 X G a7) (F7.binds (by walk_at "b1"))
 have G8:=Callee.mk' F8 (SK (P:=l.prog) (w:=w) (base:=base) F8 Z Y G1 G6 G7) (B2 X G a8) (F8.binds (by walk_at "b1"))
 have G9:=Callee.mk' F9 (OJ (P:=l.prog) (w:=w) (base:=base) F9 Z Y G1 G5 G8) (B2 X G a9) (F9.binds (by walk_at "b2"))
 have G10:=Callee.mk' F10 (OQ (P:=l.prog) (w:=w) (base:=base) F10 Z Y) (B2 X G a10) (F10.binds (by walk_at "b1"))
 have G11:=Callee.mk' F11 (UJ (P:=l.prog) (w:=w) (base:=base) F11 Z Y) (B2 X G a11) (F11.binds (by walk_at "b1"))
 have G12:=Callee.mk' F12 (KU (P:=l.prog) (w:=w) (base:=base) F12 Z Y G11) (B2 X G a12) (F12.binds (by walk_at "b2"))
 have G13:=Callee.mk' F13 (SD (P:=l.prog) (w:=w) (base:=base) F13 Z Y) (B2 X G a13) (F13.binds (by walk_at "b1"))
 have G14:=Callee.mk' F14 (OI (P:=l.prog) (w:=w) (base:=base) F14 Z Y G12 G13) (B2 X G a14) (F14.binds (by walk_at "b1"))
 have G15:=Callee.mk' F15 (QD (P:=l.prog) (w:=w) (base:=base) F15 Z Y) (B2 X G a15) (F15.binds (by walk_at "b1"))
 have G16:=Callee.mk' F16 (NF (P:=l.prog) (w:=w) (base:=base) F16 Z Y) (B2 X G a16) (F16.binds (by walk_at "b1"))
 have G17:=Callee.mk' F17 (KW (P:=l.prog) (w:=w) (base:=base) F17 Z Y) (B2 X G a17) (F17.binds (by walk_at "b2"))
 have G18:=Callee.mk' F18 (NE (P:=l.prog) (w:=w) (base:=base) F18 Z Y G17) (B2 X G a18) (F18.binds (by walk_at "b1"))
 have G19:=Callee.mk' F19 (UK (P:=l.prog) (w:=w) (base:=base) F19 Z Y G18) (B2 X G a19) (F19.binds (by walk_at "b2"))
 have G20:=Callee.mk' F20 (WT (P:=l.prog) (w:=w) (base:=base) F20 Z Y G19) (B2 X G a20) (F20.binds (by walk_at "b3"))
 have G21:=Callee.mk' F21 (WQ (P:=l.prog) (w:=w) (base:=base) F21 Z Y G16 G20) (B2 X G a21) (F21.binds (by walk_at "b2"))
 have G22:=Callee.mk' F22 (KY (P:=l.prog) (w:=w) (base:=base) F22 Z Y G15 G21) (B2 X G a22) (F22.binds (by walk_at "b2"))
 have G23:=Callee.mk' F23 (OH (P:=l.prog) (w:=w) (base:=base) F23 Z Y) (B2 X G a23) (F23.binds (by walk_at "b3"))
 have G24:=Callee.mk' F24 (UI (P:=l.prog) (w:=w) (base:=base) F24 Z Y) (B2 X G a24) (F24.binds (by walk_at "b1"))
 have G25:=Callee.mk' F25 (OG (P:=l.prog) (w:=w) (base:=base) F25 Z Y G23 G24) (B2 X G a25) (F25.binds (by walk_at "b3"))
 have G26:=Callee.mk' F26 (J7g (P:=l.prog) (w:=w) (base:=base) F26 Z Y) (B2 X G a26) (F26.binds (by walk_at "b1"))
 have G27:=Callee.mk' F27 (J0g (P:=l.prog) (w:=w) (base:=base) F27 Z Y) (B2 X G a27) (F27.binds (by walk_at "b2"))
 have G28:=Callee.mk' F28 (ND (P:=l.prog) (w:=w) (base:=base) F28 Z Y G25 G26 G27) (B2 X G a28) (F28.binds (by walk_at "b3"))
 have G29:=Callee.mk' F29 (WS (P:=l.prog) (w:=w) (base:=base) F29 Z Y G28) (B2 X G a29) (F29.binds (by walk_at "b2"))
 have G30:=Callee.mk' F30 (J7f (P:=l.prog) (w:=w) (base:=base) F30 Z Y G23 G24) (B2 X G a30) (F30.binds (by walk_at "b1"))
 have G31:=Callee.mk' F31 (KS (P:=l.prog) (w:=w) (base:=base) F31 Z Y) (B2 X G a31) (F31.binds (by walk_at "b2"))
 have G32:=Callee.mk' F32 (WP (P:=l.prog) (w:=w) (base:=base) F32 Z Y G25) (B2 X G a32) (F32.binds (by walk_at "b2"))
 have G33:=Callee.mk' F33 (JQ (P:=l.prog) (w:=w) (base:=base) F33 Z Y G30 G31 G32 G26) (B2 X G a33) (F33.binds (by walk_at "b2"))
 have G34:=Callee.mk' F34 (QE (P:=l.prog) (w:=w) (base:=base) F34 Z Y G29 G32) (B2 X G a34) (F34.binds (by walk_at "b2"))
 have G35:=Callee.mk' F35 (WV (P:=l.prog) (w:=w) (base:=base) F35 Z Y G31) (B2 X G a35) (F35.binds (by walk_at "b3"))
 have G36:=Callee.mk' F36 (MD (P:=l.prog) (w:=w) (base:=base) F36 Z Y) (B2 X G a36) (F36.binds (by walk_at "b2"))
 have G37:=Callee.mk' F37 (WU (P:=l.prog) (w:=w) (base:=base) F37 Z Y G34 G30 G35 G36) (B2 X G a37) (F37.binds (by walk_at "b3"))
 have G38:=Callee.mk' F38 (WR (P:=l.prog) (w:=w) (base:=base) F38 Z Y) (B2 X G a38) (F38.binds (by walk_at "b2"))
 have G39:=Callee.mk' F39 (SC (P:=l.prog) (w:=w) (base:=base) F39 Z Y G29 G33 G37 G38) (B2 X G a39) (F39.binds (by walk_at "b2"))
 have G40:=Callee.mk' F40 (UL (P:=l.prog) (w:=w) (base:=base) F40 Z Y G14 G22 G39) (B2 X G a40) (F40.binds (by walk_at "b3"))
 have G41:=CalleeM.mk' F41 (QI (P:=l.prog) (w:=w) (base:=base) F41 Z Y) (B2 X G a41) (F41.binds (by walk_at "b1"))
 have G42:=Callee.mk' F42 (NH (P:=l.prog) (w:=w) (base:=base) F42 Z Y G40 G41) (B2 X G a42) (F42.binds (by walk_at "b3"))
 have G43:=Callee.mk' F43 (UM (P:=l.prog) (w:=w) (base:=base) F43 Z Y G1) (B2 X G a43) (F43.binds (by walk_at "b1"))
 have G44:=Callee.mk' F44 (SH (P:=l.prog) (w:=w) (base:=base) F44 Z Y) (B2 X G a44) (F44.binds (by walk_at "b2"))
 have G45:=Callee.mk' F45 (SI (P:=l.prog) (w:=w) (base:=base) F45 Z Y) (B2 X G a45) (F45.binds (by walk_at "b3"))
 have G46:=Callee.mk' F46 (NG (P:=l.prog) (w:=w) (base:=base) F46 Z Y G45) (B2 X G a46) (F46.binds (by walk_at "b3"))
 have G47:=Callee.mk' F47 (UN (P:=l.prog) (w:=w) (base:=base) F47 Z Y G46) (B2 X G a47) (F47.binds (by walk_at "b2"))
 have G48:=Callee.mk' F48 (SE (P:=l.prog) (w:=w) (base:=base) F48 Z Y) (B2 X G a48) (F48.binds (by walk_at "b1"))
 have G49:=Callee.mk' F49 (QG (P:=l.prog) (w:=w) (base:=base) F49 Z Y G45) (B2 X G a49) (F49.binds (by walk_at "b2"))
 have G50:=Callee.mk' F50 (QH (P:=l.prog) (w:=w) (base:=base) F50 Z Y G48 G49) (B2 X G a50) (F50.binds (by walk_at "b2"))
 have G51:=Callee.mk' F51 (QF (P:=l.prog) (w:=w) (base:=base) F51 Z Y G49 G48) (B2 X G a51) (F51.binds (by walk_at "b3"))
 have G52:=Callee.mk' F52 (WW (P:=l.prog) (w:=w) (base:=base) F52 Z Y G51) (B2 X G a52) (F52.binds (by walk_at "b3"))
 have G53:=Callee.mk' F53 (OO (P:=l.prog) (w:=w) (base:=base) F53 Z Y) (B2 X G a53) (F53.binds (by walk_at "b2"))
 have G54:=Callee.mk' F54 (OL (P:=l.prog) (w:=w) (base:=base) F54 Z Y G47 G50 G52 G53) (B2 X G a54) (F54.binds (by walk_at "b2"))
 exact Q1z (P:=l.prog) (w:=w) (base:=base) F55 Z Y G0 G1 G9 G7 G10 G40 G42 G43 G44 G54
theorem Q8m {l:PySem.W.OpenLaw}{q:Program}{loose:List Str}{XP:(Str->Option Value)->Heap->Prop}{YP:World->Heap->Prop}{d:DefRec}{K:Params->Fg}(hn:l.most=some 63)(hdf:d.params.defaults=[])
 (hY:∀ (w:World) (h:Heap),YP w h->(K w.params).In h)
 (F:∀ (w:World) (mg:Str->Option Value) (fa:Addr) (h:Heap),(K w.params).In h->h.Ns mainGlobals mg->mg d.name=some (.ref fa) ->
  ∃ fd:FuncData,(∀ (s:Shared) (u:Value),BindsTo s fd ⟨[u],[]⟩ [("_law_script",u)])/\∀ base:Heap,(K w.params).In base->base.Ns mainGlobals mg->FnOk l.prog w (K w.params) mg base CX0 10 fa fd ["_law_script"] (RO (K w.params))) :
 PySem.W.WalkO q loose XP YP l.row.toRowW d [] (fun f vs=>PySem.call f vs) :=
 L2.J6l (n:=63) (k:=10) (x:="_law_script") (CX:=fun _=>CX0) (sp:=fun w=>RO (K w.params)) hn (by decide) hdf ⟨rfl,by decide,by decide⟩ hY F (fun _ _ a ns hl _ hS=>⟨a,ns,rfl,hS,hl,fun _=>rfl⟩) fun _ _ _ _ _ z=>z
end K
open PySem PySem.W PyProof.Rows
theorem PySem.W.Fast.tw8029599847926005999:True:=trivial
theorem PySem.W.Fast.tw9436803595354395349:True:=trivial
theorem PySem.W.Fast.tw5904261500677760306:True:=trivial
theorem PySem.W.Fast.tw15945136739846398359:True:=trivial
theorem PySem.W.Fast.tw6107834781175632184:True:=trivial
theorem PySem.W.Fast.tw9945048800855785121:True:=trivial
theorem PySem.W.Fast.tw12377177911325099391:True:=trivial
theorem PySem.W.Fast.tw10379871965500204351:True:=trivial
theorem PySem.W.Fast.tw17376484022509139007:True:=trivial
theorem PySem.W.Fast.tw2543569100065161534:True:=trivial
theorem PySem.W.Fast.tw13504885048186178333:True:=trivial
theorem PySem.W.Fast.tw10215897856335267421:True:=trivial
theorem PySem.W.Fast.tw10566143514012057149:True:=trivial
theorem PySem.W.Fast.tw9969893978339007484:True:=trivial
theorem PySem.W.Fast.tw16335950455085574619:True:=trivial
theorem PySem.W.Fast.tw6108991508000149914:True:=trivial
theorem PySem.W.Fast.tw2496563090906177431:True:=trivial
theorem PySem.W.Fast.tw9946688251088457143:True:=trivial
theorem PySem.W.Fast.tw11256639232062511094:True:=trivial
theorem PySem.W.Fast.tw3972598201981105846:True:=trivial
theorem PySem.W.Fast.tw11733775641835879188:True:=trivial
theorem PySem.W.Fast.tw14119325676935929620:True:=trivial
theorem PySem.W.Fast.tw6227379615790672532:True:=trivial
theorem PySem.W.Fast.tw11663986239668163828:True:=trivial
theorem PySem.W.Fast.tw869924876179106964:True:=trivial
theorem PySem.W.Fast.tw17007355906527904755:True:=trivial
theorem PySem.W.Fast.tw11987553715984462323:True:=trivial
theorem PySem.W.Fast.tw9224092285804620785:True:=trivial
theorem PySem.W.Fast.tw7700365688943985008:True:=trivial
theorem PySem.W.Fast.tw7062724493544488558:True:=trivial
theorem PySem.W.Fast.tw17918204674007390670:True:=trivial
theorem PySem.W.Fast.tw18067576033776706509:True:=trivial
theorem PySem.W.Fast.tw17748553759968068491:True:=trivial
theorem PySem.W.Fast.tw16716564508761341387:True:=trivial
theorem PySem.W.Fast.tw17242679806892965514:True:=trivial
theorem PySem.W.Fast.tw10628875133371897034:True:=trivial
theorem PySem.W.Fast.tw11377351078766452810:True:=trivial
theorem PySem.W.Fast.tw17037298699208779753:True:=trivial
theorem PySem.W.Fast.tw6920129385794981737:True:=trivial
theorem PySem.W.Fast.tw120523517564506761:True:=trivial
theorem PySem.W.Fast.tw13019202402102248967:True:=trivial
theorem PySem.W.Fast.tw10939545810831687111:True:=trivial
theorem PySem.W.Fast.tw10525703024188429670:True:=trivial
theorem PySem.W.Fast.tw14018176817909120933:True:=trivial
theorem PySem.W.Fast.tw4959982331149212421:True:=trivial
theorem PySem.W.Fast.tw16230833684735868613:True:=trivial
theorem PySem.W.Fast.tw8195156147619643685:True:=trivial
theorem PySem.W.Fast.tw16011600273787050596:True:=trivial
theorem PySem.W.Fast.tw14668190381883648451:True:=trivial
theorem PySem.W.Fast.tw3044439136116101122:True:=trivial
theorem PySem.W.Fast.tw829296071280085792:True:=trivial
theorem PySem.W.Fast.tw15245080165095112653:True:=trivial
local macro_rules | `(tactic| walk_at "fn") => `(tactic| (refine' _root_.K.fn_in ?a ?l ?c ?k; (case a => k_is); (case l => k_is); (case c => k_is); (case k => k_is)))
set_option maxRecDepth 100000 in
set_option maxHeartbeats 0 in
theorem PySem.Challenge.cw_onceshade_k46_coloured_boards_holds : PySem.Challenge.rw_onceshade_k46_coloured_boards.Holds := by
 w_on;o_law;k_head;(case hw=>w_witness2)
 k_fill
 refine K.Q8m (l:=PySem.Challenge.rw_onceshade_k46_coloured_boards) rfl rfl (fun w h Y=>PySem.W.kIn_of Y) ?F
 case F =>
  intro w mg fa h KX G hmg
  refine' K.Q4s KX G hmg ?h0 ?h1 ?h2 ?h3 ?h4 ?h5 ?h6 ?h7 ?h8 ?h9 ?h10 ?h11 ?h12 ?h13 ?h14 ?h15 ?h16 ?h17 ?h18 ?h19 ?h20 ?h21 ?h22 ?h23 ?h24 ?h25 ?h26 ?h27 ?h28 ?h29 ?h30 ?h31 ?h32 ?h33 ?h34 ?h35 ?h36 ?h37 ?h38 ?h39 ?h40 ?h41 ?h42 ?h43 ?h44 ?h45 ?h46 ?h47 ?h48 ?h49 ?h50 ?h51 ?h52 ?h53 ?h54 ?h55 ?z_abs ?z_len ?z_max ?z_min ?z_range ?z_isinstance ?z_int ?z_bool ?z_tuple ?z_zip ?z_sum ?z_list ?z_all ?z_str ?z_reversed ?z_enumerate ?z_ValueError ?z_LONGEST ?z_FULL_COVER ?e_ShadeError ?e_NoFraction ?e_NoSpot ?e_NoBody ?e_NoMove ?e_NoFlat ?e_NoFace ?e_NoBoard ?e_NoLight ?e_NoDeed ?e_NoText ?e_NoName ?e_NoRow ?e_Behind ?e_TooMany ?q_NoBoard ?x1_NoBoard ?x5_NoBoard ?x6_NoBoard ?x2_NoBoard ?x3_NoBoard ?x4_NoBoard ?v_NoBoard ?s_NoBoard ?n_NoBoard_NoFraction ?n_NoBoard_NoSpot ?n_NoBoard_NoBody ?n_NoBoard_NoMove ?n_NoBoard_NoFlat ?n_NoBoard_NoFace ?n_NoBoard_NoLight ?n_NoBoard_NoDeed ?n_NoBoard_NoText ?n_NoBoard_NoName ?n_NoBoard_NoRow ?n_NoBoard_Behind ?n_NoBoard_TooMany ?q_NoFace ?x1_NoFace ?x5_NoFace ?x6_NoFace ?x2_NoFace ?x3_NoFace ?x4_NoFace ?v_NoFace ?s_NoFace ?n_NoFace_NoFraction ?n_NoFace_NoSpot ?n_NoFace_NoBody ?n_NoFace_NoMove ?n_NoFace_NoFlat ?n_NoFace_NoBoard ?n_NoFace_NoLight ?n_NoFace_NoDeed ?n_NoFace_NoText ?n_NoFace_NoName ?n_NoFace_NoRow ?n_NoFace_Behind ?n_NoFace_TooMany ?xb1 ?xb2 ?xb3
  (case h0=>walk_at "fn")
  (case h1=>walk_at "fn")
  (case h2=>walk_at "fn")
  (case h3=>walk_at "fn")
  (case h4=>walk_at "fn")
  (case h5=>walk_at "fn")
  (case h6=>walk_at "fn")
  (case h7=>walk_at "fn")
  (case h8=>walk_at "fn")
  (case h9=>walk_at "fn")
  (case h10=>walk_at "fn")
  (case h11=>walk_at "fn")
  (case h12=>walk_at "fn")
  (case h13=>walk_at "fn")
  (case h14=>walk_at "fn")
  (case h15=>walk_at "fn")
  (case h16=>walk_at "fn")
  (case h17=>walk_at "fn")
  (case h18=>walk_at "fn")
  (case h19=>walk_at "fn")
  (case h20=>walk_at "fn")
  (case h21=>walk_at "fn")
  (case h22=>walk_at "fn")
  (case h23=>walk_at "fn")
  (case h24=>walk_at "fn")
  (case h25=>walk_at "fn")
  (case h26=>walk_at "fn")
  (case h27=>walk_at "fn")
  (case h28=>walk_at "fn")
  (case h29=>walk_at "fn")
  (case h30=>walk_at "fn")
  (case h31=>walk_at "fn")
  (case h32=>walk_at "fn")
  (case h33=>walk_at "fn")
  (case h34=>walk_at "fn")
  (case h35=>walk_at "fn")
  (case h36=>walk_at "fn")
  (case h37=>walk_at "fn")
  (case h38=>walk_at "fn")
  (case h39=>walk_at "fn")
  (case h40=>walk_at "fn")
  (case h41=>walk_at "fn")
  (case h42=>walk_at "fn")
  (case h43=>walk_at "fn")
  (case h44=>walk_at "fn")
  (case h45=>walk_at "fn")
  (case h46=>walk_at "fn")
  (case h47=>walk_at "fn")
  (case h48=>walk_at "fn")
  (case h49=>walk_at "fn")
  (case h50=>walk_at "fn")
  (case h51=>walk_at "fn")
  (case h52=>walk_at "fn")
  (case h53=>walk_at "fn")
  (case h54=>walk_at "fn")
  (case h55=>walk_at "fn")
  (case z_abs=>k_is)
  (case z_len=>k_is)
  (case z_max=>k_is)
  (case z_min=>k_is)
  (case z_range=>k_is)
  (case z_isinstance=>k_is)
  (case z_int=>k_is)
  (case z_bool=>k_is)
  (case z_tuple=>k_is)
  (case z_zip=>k_is)
  (case z_sum=>k_is)
  (case z_list=>k_is)
  (case z_all=>k_is)
  (case z_str=>k_is)
  (case z_reversed=>k_is)
  (case z_enumerate=>k_is)
  (case z_ValueError=>k_is)
  (case z_LONGEST=>k_is)
  (case z_FULL_COVER=>k_is)
  (case e_ShadeError=>k_is)
  (case e_NoFraction=>k_is)
  (case e_NoSpot=>k_is)
  (case e_NoBody=>k_is)
  (case e_NoMove=>k_is)
  (case e_NoFlat=>k_is)
  (case e_NoFace=>k_is)
  (case e_NoBoard=>k_is)
  (case e_NoLight=>k_is)
  (case e_NoDeed=>k_is)
  (case e_NoText=>k_is)
  (case e_NoName=>k_is)
  (case e_NoRow=>k_is)
  (case e_Behind=>k_is)
  (case e_TooMany=>k_is)
  (case q_NoBoard=>k_exc)
  (case x1_NoBoard=>kernel_rfl)
  (case x5_NoBoard=>kernel_rfl)
  (case x6_NoBoard=>kernel_rfl)
  (case x2_NoBoard=>kernel_rfl)
  (case x3_NoBoard=>kernel_rfl)
  (case x4_NoBoard=>kernel_rfl)
  (case v_NoBoard=>kernel_rfl)
  (case s_NoBoard=>kernel_rfl)
  (case n_NoBoard_NoFraction=>kernel_rfl)
  (case n_NoBoard_NoSpot=>kernel_rfl)
  (case n_NoBoard_NoBody=>kernel_rfl)
  (case n_NoBoard_NoMove=>kernel_rfl)
  (case n_NoBoard_NoFlat=>kernel_rfl)
  (case n_NoBoard_NoFace=>kernel_rfl)
  (case n_NoBoard_NoLight=>kernel_rfl)
  (case n_NoBoard_NoDeed=>kernel_rfl)
  (case n_NoBoard_NoText=>kernel_rfl)
  (case n_NoBoard_NoName=>kernel_rfl)
  (case n_NoBoard_NoRow=>kernel_rfl)
  (case n_NoBoard_Behind=>kernel_rfl)
  (case n_NoBoard_TooMany=>kernel_rfl)
  (case q_NoFace=>k_exc)
  (case x1_NoFace=>kernel_rfl)
  (case x5_NoFace=>kernel_rfl)
  (case x6_NoFace=>kernel_rfl)
  (case x2_NoFace=>kernel_rfl)
  (case x3_NoFace=>kernel_rfl)
  (case x4_NoFace=>kernel_rfl)
  (case v_NoFace=>kernel_rfl)
  (case s_NoFace=>kernel_rfl)
  (case n_NoFace_NoFraction=>kernel_rfl)
  (case n_NoFace_NoSpot=>kernel_rfl)
  (case n_NoFace_NoBody=>kernel_rfl)
  (case n_NoFace_NoMove=>kernel_rfl)
  (case n_NoFace_NoFlat=>kernel_rfl)
  (case n_NoFace_NoBoard=>kernel_rfl)
  (case n_NoFace_NoLight=>kernel_rfl)
  (case n_NoFace_NoDeed=>kernel_rfl)
  (case n_NoFace_NoText=>kernel_rfl)
  (case n_NoFace_NoName=>kernel_rfl)
  (case n_NoFace_NoRow=>kernel_rfl)
  (case n_NoFace_Behind=>kernel_rfl)
  (case n_NoFace_TooMany=>kernel_rfl)
  (case xb1=>kernel_rfl)
  (case xb2=>kernel_rfl)
  (case xb3=>kernel_rfl)
