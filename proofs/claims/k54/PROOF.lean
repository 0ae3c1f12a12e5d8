import PyProof.Rows.All
import Wide.All
import OpenK.AllK
import Wide.FinOn
import Lean
import PyProof.EqAt
import PyProof.EqKinds
import PyProof.TupleCall
import PySem.Challenge.RW_onceshade_k54_pictures_mended
set_option Elab.async false
set_option linter.all false
set_option maxRecDepth 100000
open PySem PySem.Spec PyProof.Rows in
def B1:=@wpAny_bind
open PySem PySem.Spec PyProof.Rows in
def B2:=@wpAny_pure
open PySem PySem.Spec PyProof.Rows in
def B3:=@PySem.W.mg_of
open PySem PySem.Spec PyProof.Rows in
def B4:=@Heap.get?_push_of_some
open PySem PySem.Spec PyProof.Rows in
def B5:=@Heap.lt_size
abbrev Fg:=PySem.W.Frag
variable {P:PySem.Program}{w:PySem.World}{K:Fg}{mg:PySem.Str->Option PySem.Value}{base:PySem.Heap}{fd:PySem.FuncData}{b:Option PySem.Addr}{M:PySem.Addr->Prop}
namespace L2
open PySem PySem.Spec PyProof.Rows
abbrev Key:=Sum Int Str
def Q0r:Key->Value->Bool
 | .inl k,v=>Value.isInt k v
 | .inr x,v=>Value.isStrOf x v
def Q9i (w:World):Key->Int
 | .inl k=>hashInt k
 | .inr x=>hashStr w x
theorem BA:∀ {k:Key} {v:Value},Q0r k v=true->(∃ i t,k=Sum.inl i/\v=Value.int i t)\/(∃ x t,k=Sum.inr x/\v=Value.str x t)
 | .inl i,v,h=>by
   obtain ⟨t,e⟩:=Value.isInt_shape (k:=i) (v:=v) h
   exact .inl ⟨i,t,rfl,e⟩
 | .inr x,v,h=>by
   obtain ⟨t,e⟩:=Value.isStrOf_shape (x:=x) (v:=v) h
   exact .inr ⟨x,t,rfl,e⟩
theorem Q3h (a b:Int):decide ((Sum.inl a:Key)=Sum.inl b)=(a==b):=by
 by_cases e:a=b
 · subst e;simp
 · have h:¬ (Sum.inl a:Key)=Sum.inl b:=fun q=>e (Sum.inl.inj q)
   rw [decide_eq_false h]
   exact (beq_eq_false_iff_ne.mpr e).symm
theorem Q3e (a b:Str):decide ((Sum.inr a:Key)=Sum.inr b)=decide (a=b):=by
 by_cases e:a=b
 · subst e;simp
 · have h:¬ (Sum.inr a:Key)=Sum.inr b:=fun q=>e (Sum.inr.inj q)
   rw [decide_eq_false h,decide_eq_false e]
theorem Q3g (a:Int)(b:Str):decide ((Sum.inl a:Key)=Sum.inr b)=false:=decide_eq_false (fun q=>nomatch q)
theorem Q3f (a:Str)(b:Int):decide ((Sum.inr a:Key)=Sum.inl b)=false:=decide_eq_false (fun q=>nomatch q)
def SG (prog:Program)(w:World):PySem.KeyKind prog w Key where
 is:=Q0r
 hash:=Q9i w
 inj:=fun v a b ha hb=>by
  rcases BA ha with ⟨i,t,rfl,rfl⟩|⟨x,t,rfl,rfl⟩
  · rcases BA hb with ⟨j,u,rfl,e⟩|⟨y,u,rfl,e⟩
    · injection e with e1 _;rw [e1]
    · exact nomatch e
  · rcases BA hb with ⟨j,u,rfl,e⟩|⟨y,u,rfl,e⟩
    · exact nomatch e
    · injection e with e1 _;rw [e1]
 byValue:=fun k v h=>by
  rcases BA h with ⟨i,t,rfl,rfl⟩|⟨x,t,rfl,rfl⟩<;>rfl
 pyHash:=fun hv h=>by
  rcases BA hv with ⟨i,t,rfl,rfl⟩|⟨x,t,rfl,rfl⟩
  · exact wpAny_pyHash_int h
  · exact wpAny_pyHash_str h
 eqBool:=fun hu hv h=>by
  rcases BA hu with ⟨i,t,rfl,rfl⟩|⟨x,t,rfl,rfl⟩
  · rcases BA hv with ⟨j,u,rfl,rfl⟩|⟨y,u,rfl,rfl⟩
    · rw [Q3h] at h;exact wpAny_eqBool_int h
    · rw [Q3g] at h;exact SeqAt.EqAt.int_str i t y u _ _ _ _ h
  · rcases BA hv with ⟨j,u,rfl,rfl⟩|⟨y,u,rfl,rfl⟩
    · rw [Q3f] at h;exact SeqAt.EqAt.str_int x t j u _ _ _ _ h
    · rw [Q3e] at h;exact wpAny_eqBool_str h
 «strs»:=fun k x t v h=>by
  rcases BA h with ⟨i,u,rfl,e⟩|⟨y,u,rfl,e⟩
  · exact nomatch e
  · injection e with e1 _
    subst e1
    cases v<;>rfl
inductive V where
 | non|bl (b:Bool)|int (i:Int)|str (x:Str)|byt (b:Array UInt8)|flt (b:UInt64)|ref (a:Addr)|ty (n:String)
 deriving DecidableEq
def RelV:V->Value->Prop
 | .non,u=>u=Value.none
 | .bl b,u=>u=Value.bool b
 | .int i,u=>∃ t,u=Value.int i t
 | .str x,u=>∃ t,u=Value.str x t
 | .byt b,u=>∃ t,u=Value.bytes b t
 | .flt b,u=>∃ t,u=Value.float b t
 | .ref a,u=>u=Value.ref a
 | .ty n,u=>u=Value.type n
abbrev Vals:List V->List Value->Prop:=Paired RelV
theorem Vals.length {xs:List V}{us:List Value}(r:Vals xs us):xs.length=us.length:=Paired.length r
theorem Vals.get:∀ {xs:List V} {us:List Value} {i:Nat} {x:V},Vals xs us->xs[i]?=some x->∃ u,us[i]?=some u/\RelV x u
 | _,_,_,_,.nil,e=>by simp at e
 | _,_,0,_,.cons r _,e=>by simp at e;subst e;exact ⟨_,rfl,r⟩
 | _,_,i+1,x,.cons _ t,e=>by
   obtain ⟨u,h1,h2⟩:=Vals.get (i:=i) (x:=x) t (by simpa using e)
   exact ⟨u,by simpa using h1,h2⟩
theorem Vals.set {x:V}{u:Value}(r:RelV x u):∀ {xs:List V} {us:List Value} (i:Nat),Vals xs us->Vals (xs.set i x) (us.set i u)
 | _,_,_,.nil=>.nil
 | _,_,0,.cons _ t=>.cons r t
 | _,_,i+1,.cons q t=>.cons q (Vals.set r i t)
theorem Vals.append:∀ {xs ys:List V} {us ws:List Value},Vals xs us->Vals ys ws->Vals (xs++ys) (us++ws)
 | _,_,_,_,.nil,s=>s
 | _,_,_,_,.cons r t,s=>.cons r (Vals.append t s)
theorem Vals.take:∀ {xs:List V} {us:List Value} (n:Nat),Vals xs us->Vals (xs.take n) (us.take n)
 | _,_,0,_=>.nil
 | _,_,_+1,.nil=>.nil
 | _,_,n+1,.cons r t=>.cons r (Vals.take n t)
theorem Vals.drop:∀ {xs:List V} {us:List Value} (n:Nat),Vals xs us->Vals (xs.drop n) (us.drop n)
 | _,_,0,r=>r
 | _,_,_+1,.nil=>.nil
 | _,_,n+1,.cons _ t=>Vals.drop n t
def Q5n:Option V->Option Value->Prop
 | some v,some u=>RelV v u
 | none,none=>True
 | _,_=>False
def KV {κ:Type}:List (κ×V)->List (κ×Value)->Prop:=Paired fun (p:κ×V) (q:κ×Value)=>p.1=q.1/\RelV p.2 q.2
def kV:Key->V
 | .inl i=>.int i
 | .inr x=>.str x
inductive HO where
 | lst (xs:List V)
 | tup (xs:List V)
 | dK (kvs:List (Key×V))|dT (kvs:List (List Key×V))
 | set (S:Int->Bool) (n:Nat)
 | ins (C dx:Addr) (fs:List (Str×V))
 | own (x:Addr)
 | xd (fs:List (Str×V))
 | met (f x:Addr)
 | rng (lo hi:Int)
 | frz (o:Obj) (u:HO)
 | tbl (ps:Array Value)
 | ext (φ:Heap->Prop)
abbrev Hp:=Addr->Option HO
def upd (H:Hp)(a:Addr)(o:HO):Hp:=fun b=>if b=a then some o else H b
theorem V8 {H:Hp}{a:Addr}{o:HO}:upd H a o a=some o:=by unfold upd;rw [if_pos rfl]
theorem V3 {H:Hp}{a b:Addr}{o:HO}(h:b≠a):upd H a o b=H b:=by unfold upd;rw [if_neg h]
theorem Q0q {H:Hp}{a b:Addr}{o u:HO}(h:H a=some o)(h':H b=some u)(d:o≠u):a≠b:=by
 intro e;subst e;rw [h] at h';exact d (Option.some.inj h')
theorem Y2 {H:Hp}{a b:Addr}{o:HO}(h:H a=some o)(h':H b=none):a≠b:=by
 intro e;subst e;rw [h] at h';cases h'
section
variable (P:Program) (w:World)
def ObjOk (H:Hp)(h:Heap)(a:Addr):HO->Prop
 | .lst xs=>xs.length<=sizeLine/\∃ (its:List Value) (n:Nat),Vals xs its/\h.get? a=some { cls:=.type "list",data:=.seq its.toArray n }
 | .tup xs=>xs.length<=sizeLine/\∃ its:List Value,Vals xs its/\IsTup h a its.toArray
 | .dK kvs=>kvs.length<=sizeLine/\(a==sysModules)=false/\∃ vs,KV kvs vs/\h.DictOf (SG P w) a vs
 | .dT kvs=>kvs.length<=sizeLine/\(a==sysModules)=false/\∃ xs:List (List Key×Addr×Value),
  Paired (fun (p:List Key×V) (q:List Key×Addr×Value)=>p.1=q.1/\H q.2.1=some (.tup (p.1.map kV))/\RelV p.2 q.2.2) kvs xs /\
  ∃ o es ep,h.get? a=some o/\o.ExactDict/\o.data=.dict es ep/\es.toList=xs.map (entryOfKey (tupleKind (SG P w)))/\(xs.map (·.1)).Nodup
 | .set S n=>h.SetOf (intKind P w) a S n
 | .ins C dx fs=>H dx=some (.own a)/\fs.length<=1000/\dx≠a/\h.get? a=some (PySem.W.instObj C dx) /\
  ∃ mA,h.Ns1 dx mA/\(∀ f,Q5n (fs.lookup f) (mA f))/\PySem.Within mA (fs.map (·.1))
 | .own _=>∃ o,h.get? a=some o
 | .xd fs=>∃ mA,h.Ns1 a mA/\∀ f,Q5n (fs.lookup f) (mA f)
 | .rng lo hi=>∃ t u v,h.get? a=some { cls:=.type "range",data:=.fields #[.int lo t,.int hi u,.int 1 v] }
 | .frz o u=>h.get? a=some o/\ObjOk H h a u
 | .tbl ps=>h.get? a=some { cls:=.none,data:=.fields ps }
 | .met f x=>h.get? a=some (PySem.W.methodObj (.ref f) (.ref x))
 | .ext φ=>φ h/\(∃ o,h.get? a=some o)/\∀ h1 h2:Heap,φ h1->(∀ o,h1.get? a=some o->h2.get? a=some o)->φ h2
def HOk (H:Hp)(h:Heap):Prop:=∀ a o,H a=some o->ObjOk P w H h a o
end
section
variable {P:Program}{w:World}{H H':Hp}{h h':Heap}{a:Addr}{o:HO}
theorem ObjOk.lt (x:ObjOk P w H h a o):a<h.objs.size:=by
 cases o with
 | lst xs=>obtain ⟨_,_,_,_,e⟩:=x;exact B5 e
 | tup xs=>obtain ⟨_,_,_,p⟩:=x;exact p.lt
 | dK kvs=>obtain ⟨_,_,_,_,o,_,_,e,_⟩:=x;exact B5 e
 | dT kvs=>obtain ⟨_,_,_,_,o,_,_,e,_⟩:=x;exact B5 e
 | set S n=>obtain ⟨o,_,_,_,e,_⟩:=x;exact B5 e
 | ins C dx fs=>obtain ⟨_,_,_,e,_⟩:=x;exact B5 e
 | own y=>obtain ⟨_,e⟩:=x;exact B5 e
 | xd fs=>obtain ⟨_,⟨_,_,_,e,_⟩,_⟩:=x;exact B5 e
 | rng lo hi=>obtain ⟨_,_,_,e⟩:=x;exact B5 e
 | frz ob u=>obtain ⟨e,_⟩:=x;exact B5 e
 | tbl ps=>exact B5 (show h.get? a=some _ from x)
 | met f y=>exact B5 (show h.get? a=some _ from x)
 | ext φ=>obtain ⟨_,⟨_,e⟩,_⟩:=x;exact B5 e
theorem Paired.mapP {α β:Type}{F G:α->β->Prop}:∀ {l₁:List α} {l₂:List β},Paired F l₁ l₂->(∀ a b,F a b->G a b)->Paired G l₁ l₂
 | _,_,.nil,_=>.nil
 | _,_,.cons r t,f=>.cons (f _ _ r) (Paired.mapP t f)
theorem ObjOk.stay (x:ObjOk P w H h a o)(k:∀ b u,(b=a\/H b=some (.own a))->h.get? b=some u->h'.get? b=some u)
 (ho:∀ b,H b=some (.own a)->H' b=some (.own a)) (ht:∀ b xs,H b=some (.tup xs)->H' b=some (.tup xs)):ObjOk P w H' h' a o:=by
 induction o with
 | lst xs=>obtain ⟨z,its,n,r,e⟩:=x;exact ⟨z,its,n,r,k _ _ (.inl rfl) e⟩
 | tup xs=>obtain ⟨z,its,r,ob,e,c⟩:=x;exact ⟨z,its,r,ob,k _ _ (.inl rfl) e,c⟩
 | dK kvs=>obtain ⟨z,y,vs,r,ob,es,ep,e,c⟩:=x;exact ⟨z,y,vs,r,ob,es,ep,k _ _ (.inl rfl) e,c⟩
 | dT kvs =>
   obtain ⟨z,y,xs,r,ob,es,ep,e,c⟩:=x
   exact ⟨z,y,xs,Paired.mapP r fun p q z=>⟨z.1,ht _ _ z.2.1,z.2.2⟩,ob,es,ep,k _ _ (.inl rfl) e,c⟩
 | set S n=>obtain ⟨ob,es,ep,t,e,c⟩:=x;exact ⟨ob,es,ep,t,k _ _ (.inl rfl) e,c⟩
 | ins C dx fs =>
   obtain ⟨d,z,ne,e,mA,⟨od,es,ep,e2,c⟩,r⟩:=x
   exact ⟨ho _ d,z,ne,k _ _ (.inl rfl) e,mA,⟨od,es,ep,k _ _ (.inr d) e2,c⟩,r⟩
 | own y=>obtain ⟨ob,e⟩:=x;exact ⟨ob,k _ _ (.inl rfl) e⟩
 | xd fs=>obtain ⟨mA,⟨od,es,ep,e,c⟩,r⟩:=x;exact ⟨mA,⟨od,es,ep,k _ _ (.inl rfl) e,c⟩,r⟩
 | rng lo hi=>obtain ⟨t,u,v,e⟩:=x;exact ⟨t,u,v,k _ _ (.inl rfl) e⟩
 | frz ob u ih=>obtain ⟨e,q⟩:=x;exact ⟨k _ _ (.inl rfl) e,ih q⟩
 | tbl ps =>
   have e:h.get? a=some { cls:=.none,data:=.fields ps }:=x
   show h'.get? a=some { cls:=.none,data:=.fields ps }
   exact k a _ (.inl rfl) e
 | met f y =>
   have e:h.get? a=some (PySem.W.methodObj (.ref f) (.ref y)):=x
   show h'.get? a=some (PySem.W.methodObj (.ref f) (.ref y))
   exact k a _ (.inl rfl) e
 | ext φ=>obtain ⟨p,⟨o,e⟩,st⟩:=x;exact ⟨st _ _ p fun o q=>k _ _ (.inl rfl) q,⟨o,k _ _ (.inl rfl) e⟩,st⟩
theorem HOk.lt (x:HOk P w H h)(e:H a=some o):a<h.objs.size:=(x a o e).lt
theorem HOk.fresh (x:HOk P w H h)(e:h.objs.size<=a):H a=none:=by
 cases q:H a with
 | none=>rfl
 | some u=>exact absurd (Nat.lt_of_lt_of_le (x.lt q) e) (Nat.lt_irrefl _)
theorem HOk.kept (x:HOk P w H h)(k:∀ b u,h.get? b=some u->h'.get? b=some u):HOk P w H h':=fun a o e =>
 (x a o e).stay (fun b u _ q=>k b u q) (fun _ q=>q) fun _ _ q=>q
theorem HOk.laid (x:HOk P w H h)(k:∀ b u,h.get? b=some u->h'.get? b=some u)(hp:h.objs.size<=a)(new:ObjOk P w (upd H a o) h' a o):HOk P w (upd H a o) h':=fun b u e=>by
 have hn:=x.fresh hp
 by_cases hb:b=a
 · subst hb;rw [V8] at e;cases e;exact new
 · rw [V3 hb] at e
   exact (x b u e).stay (fun c v _ q=>k c v q) (fun c q=>by rw [V3 (Y2 q hn)];exact q) fun c xs q=>by rw [V3 (Y2 q hn)];exact q
end
def Rd (H:Hp)(a:Addr)(u:HO):Prop:=H a=some u\/∃ o,H a=some (.frz o u)
theorem Rd.of {H:Hp}{a:Addr}{u:HO}(h:H a=some u):Rd H a u:=.inl h
theorem Rd.ok {H:Hp}{h:Heap}{a:Addr}{u:HO}(r:Rd H a u)(x:HOk P w H h):ObjOk P w H h a u:=by
 rcases r with r|⟨o,r⟩
 · exact x a u r
 · obtain ⟨_,q⟩:=x a _ r
   exact q
def Mut:Option HO->Prop
 | some (.lst _)=>True
 | some (.dK _)=>True
 | some (.dT _)=>True
 | some (.set _ _)=>True
 | some (.ins _ _ _)=>True
 | some (.ext _)=>True
 | _=>False
section
variable {P:Program}{w:World}{H:Hp}{h h':Heap}{x e:Addr}{o':HO}
theorem HOk.write (ok:HOk P w H h)(mu:Mut (H x))(he:e=x\/H e=some (.own x))(k:∀ b u,b≠e->h.get? b=some u->h'.get? b=some u)(heo:∃ u,h'.get? e=some u)
 (new:ObjOk P w (upd H x o') h' x o'):HOk P w (upd H x o') h':=fun b u q=>by
 have nown:∀ c y,H c=some (.own y)->c≠x:=fun c y r z=>by subst z;rw [r] at mu;exact mu
 have ntup:∀ c xs,H c=some (.tup xs)->c≠x:=fun c xs r z=>by subst z;rw [r] at mu;exact mu
 by_cases hb:b=x
 · subst hb;rw [V8] at q;cases q;exact new
 · rw [V3 hb] at q
   by_cases hbe:b=e
   · have q':H b=some (.own x):=by
      rcases he with z|z
      · exact absurd (hbe.trans z) hb
      · rw [hbe];exact z
     rw [q] at q';cases q'
     obtain ⟨v,hv⟩:=heo
     exact ⟨v,by rw [hbe];exact hv⟩
   · refine (ok b u q).stay (fun c v hc r=>k c v ?_ r) (fun c r=>by rw [V3 (nown c b r)];exact r) fun c xs r=>by rw [V3 (ntup c xs r)];exact r
     rcases hc with rfl|hc
     · exact hbe
     · rintro rfl
       rcases he with z|z
       · exact nown c b hc z
       · rw [hc] at z;cases z;exact hb rfl
end
structure Un (fs ex:List Addr)(H H':Hp)(h h':Heap):Prop where
 keep:∀ b o,h.get? b=some o->H b=none->b∉fs->b∉ex->h'.get? b=some o
 slot:∀ b o,h.get? b=some o->H b=none->b∈fs->b∉ex->∃ sl,h'.get? b=some { o with slots:=sl }
 free:∀ b o,h.get? b=some o->H b=none->b∉ex->H' b=none
 there:∀ b o,h.get? b=some o->b∉ex->∃ o',h'.get? b=some o'
 tups:∀ b xs,H b=some (.tup xs)->H' b=some (.tup xs)
 frzs:∀ b o u,H b=some (.frz o u)->H' b=some (.frz o u)
 tbls:∀ b ps,H b=some (.tbl ps)->∃ more,H' b=some (.tbl (ps++more))
section
variable {fs ex:List Addr}{H H1:Hp}{h h1 h':Heap}{a x e:Addr}{o:HO}
theorem Un.any (u:Un fs ex H H1 h h1){b:Addr}{ob:Obj}(q:h.get? b=some ob)(n:H b=none)(hx:b∉ex):∃ sl,h1.get? b=some { ob with slots:=sl }:=by
 by_cases hb:b∈fs
 · exact u.slot b ob q n hb hx
 · exact ⟨ob.slots,u.keep b ob q n hb hx⟩
theorem Un.kept (k:∀ b u,h.get? b=some u->h'.get? b=some u):Un fs ex H H h h' :=
 ⟨fun b ob q _ _ _=>k b ob q,fun b ob q _ _ _=>⟨ob.slots,k b ob q⟩,fun _ _ _ n _=>n,fun b ob q _=>⟨ob,k b ob q⟩,fun _ _ q=>q,fun _ _ _ q=>q,fun _ ps q=>⟨#[],by rw [q];simp⟩⟩
theorem Un.refl:Un fs ex H H h h:=Un.kept fun _ _ q=>q
theorem Un.laid (k:∀ b u,h.get? b=some u->h'.get? b=some u)(hp:h.objs.size<=a)(hn:H a=none):Un fs ex H (upd H a o) h h' where
 keep:=fun b u q _ _ _=>k b u q
 slot:=fun b u q _ _ _=>⟨u.slots,k b u q⟩
 free:=fun b u q n _=>by rw [V3 (Nat.ne_of_lt (Nat.lt_of_lt_of_le (B5 q) hp))];exact n
 there:=fun b u q _=>⟨u,k b u q⟩
 tups:=fun b xs q=>by rw [V3 (Y2 q hn)];exact q
 frzs:=fun b u xs q=>by rw [V3 (Y2 q hn)];exact q
 tbls:=fun b ps q=>⟨#[],by rw [V3 (Y2 q hn),q];simp⟩
theorem Un.write (mu:Mut (H x))(he:e=x\/H e=some (.own x))(k:∀ b u,b≠e->h.get? b=some u->h'.get? b=some u)(heo:∃ u,h'.get? e=some u):Un fs ex H (upd H x o) h h':=by
 have hx:∀ b,H b=none->b≠x:=fun b n z=>by subst z;rw [n] at mu;exact mu
 have hb:∀ b,H b=none->b≠e:=fun b n z=>by
  subst z
  rcases he with r|r
  · exact hx b n r
  · rw [n] at r;cases r
 have hm:∀ b u,H b=some u->¬ Mut (some u)->b≠x:=fun b u q nm z=>by subst z;rw [q] at mu;exact nm mu
 refine ⟨fun b u q n _ _=>k b u (hb b n) q,fun b u q n _ _=>⟨u.slots,k b u (hb b n) q⟩,fun b u q n _=>by rw [V3 (hx b n)];exact n,fun b u q _=>?_,
  fun b xs q=>by rw [V3 (hm b _ q fun z=>z)];exact q,fun b u xs q=>by rw [V3 (hm b _ q fun z=>z)];exact q,fun b ps q=>⟨#[],by rw [V3 (hm b _ q fun z=>z),q];simp⟩⟩
 by_cases hbe:b=e
 · subst hbe;exact heo
 · exact ⟨u,k b u hbe q⟩
end
def trk (h:Heap)(H:Hp):List Addr:=(List.range h.objs.size).filter fun a=>(H a).isSome
def SK (h:Heap)(H:Hp):Heap:=PySem.W.hideAll h (trk h H)
theorem J1y (h:Heap)(H:Hp):(SK h H).objs.size=h.objs.size:=PySem.W.hideAll_size _ _
theorem J4u {h:Heap}{H:Hp}{b:Addr}{o:Obj}(e:h.get? b=some o)(n:H b=none):(SK h H).get? b=some o :=
 PySem.W.hideAll_get _ e fun hm=>by
  have q:(H b).isSome=true:=(List.mem_filter.mp hm).2
  rw [n] at q;simp at q
theorem J8g {h:Heap}{H:Hp}{b:Addr}{o:Obj}(e:(SK h H).get? b=some o):h.get? b=some o/\H b=none:=by
 have e':h.get? b=some o:=PySem.W.of_hideAll (trk h H) e
 refine ⟨e',?_⟩
 cases q:H b with
 | none=>rfl
 | some x =>
   have hm:b∈trk h H:=List.mem_filter.mpr ⟨List.mem_range.mpr (B5 e'),by simp [q]⟩
   have z:(SK h H).get? b=none:=PySem.W.hideAll_none (trk h H) hm
   rw [z] at e;cases e
def Q0f (g h:Heap)(L:Addr):List (Addr×Obj):=(List.range h.objs.size).filterMap fun a=>if a=L\/(g.get? a).isSome=true then none else (h.get? a).map fun o=>(a,o)
def rest (g h:Heap)(L d:Addr):List (Addr×Obj):=(Q0f g h L).filter fun p=>decide (p.1≠d)
structure Mod (K:Fg)(mg:Str->Option Value)(base:Heap):Prop where
 kin:K.In base
 glob:base.Ns mainGlobals mg
 blt:∃ mb,base.Ns builtinsNs mb/\∀ x:Str,x≠"__name__"->mb x=bootBuiltins x
 nolimit:base.NoLimit
structure Cx where
 prog:Program
 w:World
 K:Fg
 mg:Str->Option Value
 base:Heap
 A:Around
 N:List Str
 s₀:Shared
 H₀:Hp
 env:Env
 outer:List Env
 stack:List Env
 ex:List Addr
 fn:Str->Bool
 calm:Bool
 pn:List (Addr×Obj)
 xe:Value->Shared->Prop
def frs (l:List Env):List Addr:=l.filterMap (·.frame)
abbrev Cx.fs (X:Cx):List Addr:=frs X.outer
def Vis (sc:Scope)(x:Str):Prop:=sc.names.lookup x=some .local\/sc.names.lookup x=some .cell\/sc.names.lookup x=some .free
def Loc (sc:Scope)(x:Str):Prop:=sc.names.lookup x=some .local\/sc.names.lookup x=some .cell
def Q9s (env:Env)(h:Heap)(m:Str->Option Value)(x:Str)(u:Value):Prop :=
 (env.kindOf x=some .local/\m x=some u)\/((env.kindOf x=some .cell\/env.kindOf x=some .free)/\∃ c,env.cells.lookup x=some c/\h.IsCell c (some u))
structure Cx.Ok (X:Cx):Prop where
 mod:Mod X.K X.mg X.base
 kind:X.env.scope.kind=.function
 glob:X.env.globals=mainGlobals
 blt:X.env.builtins=builtinsNs
 above:X.s₀.heap.objs.size<=X.env.locals
 inj:∀ x y c,X.env.cells.lookup x=some c->X.env.cells.lookup y=some c->x=y
 has:∀ x,(X.env.kindOf x=some .cell\/X.env.kindOf x=some .free)->∃ c,X.env.cells.lookup x=some c
 cab:∀ x c,X.fn x=true->X.env.cells.lookup x=some c->X.s₀.heap.objs.size<=c
 hd:X.calm=true->X.A.handled=none
 frames:X.A.frames=some X.stack
 stk:X.stack=X.outer\/(X.stack=X.env::X.outer/\X.env.frame=some X.env.locals)
 exf:∀ b∈X.ex,b≠X.env.locals/\∀ x c,X.env.cells.lookup x=some c->c≠b
 bs:∀ b o,X.base.get? b=some o->X.s₀.heap.get? b=some o/\X.H₀ b=none
 bsz:X.base.objs.size<=X.s₀.heap.objs.size
 noex:∀ b o,X.base.get? b=some o->b∉X.ex
 exfs:∀ b∈X.ex,b∉X.fs
 funs:X.s₀.heap.FunFrames X.base X.outer
 frf:∀ b∈X.fs,X.H₀ b=none
structure Inv (X:Cx)(pins:List (Addr×Obj))(σ:List (Option V))(H:Hp)(s:Shared):Prop where
 ok:X.Ok
 os:s.os=X.s₀.os
 bare:AllBare s.gens
 base:Un X.fs X.ex X.H₀ H X.s₀.heap s.heap
 loc:∃ m,s.heap.Ns X.env.locals m/\∀ (i:Nat) (x:Str) (v:V),X.N[i]?=some x->σ[i]?=some (some v)->Vis X.env.scope x->∃ u,RelV v u/\Q9s X.env s.heap m x u
 cell:∀ x c,X.env.cells.lookup x=some c->∃ v,s.heap.IsCell c v
 free:H X.env.locals=none
 freeC:∀ x c,X.env.cells.lookup x=some c->H c=none
 pin:∀ p∈X.pn++pins,s.heap.get? p.1=some p.2/\H p.1=none/\p.1≠X.env.locals/\p.1∉X.fs/\∀ v,p.2.data≠.cell v
 hok:HOk X.prog X.w H s.heap
 len:σ.length=X.N.length
section
variable {X:Cx}{pins:List (Addr×Obj)}{σ:List (Option V)}{H H':Hp}{s:Shared}{h':Heap}
theorem Cx.Ok.nofr (ok:X.Ok){b:Addr}{o:Obj}(e:X.base.get? b=some o):b∉X.fs:=fun hb=>by
 have:=(ok.funs.mem hb).1
 rw [e] at this;cases this
theorem Inv.bs (I:Inv X pins σ H s):∀ b o,X.base.get? b=some o->s.heap.get? b=some o/\H b=none:=fun b o e =>
 ⟨I.base.keep b o (I.ok.bs b o e).1 (I.ok.bs b o e).2 (I.ok.nofr e) (I.ok.noex b o e),I.base.free b o (I.ok.bs b o e).1 (I.ok.bs b o e).2 (I.ok.noex b o e)⟩
theorem Inv.bk (I:Inv X pins σ H s):∀ b o,X.base.get? b=some o->s.heap.get? b=some o:=fun b o e=>(I.bs b o e).1
theorem Inv.mod (I:Inv X pins σ H s):Mod X.K X.mg X.base:=I.ok.mod
theorem Inv.kIn (I:Inv X pins σ H s):X.K.In s.heap:=I.ok.mod.kin.keeps I.bk
theorem Inv.lt (I:Inv X pins σ H s):X.env.locals<s.heap.objs.size:=let ⟨_,hn,_⟩:=I.loc;hn.lt
theorem Inv.sz (I:Inv X pins σ H s):X.s₀.heap.objs.size<=s.heap.objs.size:=Nat.le_trans I.ok.above (Nat.le_of_lt I.lt)
theorem Inv.nofs (I:Inv X pins σ H s){a:Addr}(h:s.heap.objs.size<=a):a∉X.fs:=fun hb=>by
 obtain ⟨_,o,ho,_⟩:=I.ok.funs.mem hb
 exact absurd (Nat.lt_of_lt_of_le (B5 ho) (Nat.le_trans I.sz h)) (Nat.lt_irrefl _)
theorem Inv.cne (I:Inv X pins σ H s):∀ x c,X.env.cells.lookup x=some c->c≠X.env.locals:=fun x c e z=>by
 obtain ⟨v,o,ho,hd⟩:=I.cell x c e
 obtain ⟨m,⟨o',es,ep,ho',hd',_⟩,_⟩:=I.loc
 rw [z,ho'] at ho;cases ho;rw [hd'] at hd;cases hd
theorem Inv.funs (I:Inv X pins σ H s):s.heap.FunFrames X.base X.outer:=by
 have all:∀ (l:List Env),(∀ b∈frs l,b∈X.fs)->X.s₀.heap.FunFrames X.base l->s.heap.FunFrames X.base l:=by
  intro l
  induction l with
  | nil=>intro _ _;trivial
  | cons env r ih =>
    intro hs hl
    obtain ⟨hk,⟨L,o,hf,hn,ho,hd⟩,hr⟩:=hl
    have hL:L∈X.fs:=hs L (by unfold frs;rw [List.filterMap_cons,hf];exact List.mem_cons_self)
    obtain ⟨sl,e⟩:=I.base.slot L o ho (I.ok.frf L hL) hL fun z=>I.ok.exfs L z hL
    exact ⟨hk,⟨L,_,hf,hn,e,hd⟩,ih (fun b hb=>hs b (by unfold frs;rw [List.filterMap_cons,hf];exact List.mem_cons_of_mem _ hb)) hr⟩
 exact all X.outer (fun _ hb=>hb) I.ok.funs
theorem Inv.stack (I:Inv X pins σ H s):s.heap.FunFrames X.base X.stack:=by
 rcases I.ok.stk with e|⟨e,hf⟩
 · rw [e];exact I.funs
 · rw [e]
   obtain ⟨m,hn,_⟩:=I.loc
   refine .cons (by rw [I.ok.kind];decide) hf hn ?_ I.funs
   exact Heap.get?_none_of_le (Nat.le_trans I.ok.bsz I.ok.above)
theorem Inv.stkSub (I:Inv X pins σ H s):∀ b∈frs X.stack,b∈X.env.locals::X.fs:=fun b hb=>by
 rcases I.ok.stk with e|⟨e,hf⟩
 · rw [e] at hb;exact List.mem_cons_of_mem _ hb
 · rw [e] at hb
   unfold frs at hb
   rw [List.filterMap_cons,hf] at hb
   exact hb
theorem Inv.stkFree (I:Inv X pins σ H s):∀ b∈frs X.stack,H b=none:=fun b hb=>by
 rcases List.mem_cons.mp (I.stkSub b hb) with e|hb
 · rw [e];exact I.free
 · obtain ⟨_,o,ho,_⟩:=I.ok.funs.mem hb
   exact I.base.free b o ho (I.ok.frf b hb) fun z=>I.ok.exfs b z hb
theorem Inv.step {g':Array GenState}{t':Nat}{d':Drawn}{ch:List Addr}(I:Inv X pins σ H s)
 (hch:∀ b∈ch,(b∈X.ex\/X.s₀.heap.objs.size<=b)/\b≠X.env.locals/\(∀ x c,X.env.cells.lookup x=some c->c≠b)/\∀ p∈X.pn++pins,p.1≠b)
 (keep:∀ b o,b≠X.env.locals->b∉X.fs->b∉ch->s.heap.get? b=some o->H b=none->h'.get? b=some o)
 (slot:∀ b o,b≠X.env.locals->b∈X.fs->b∉ch->s.heap.get? b=some o->H b=none->∃ sl,h'.get? b=some { o with slots:=sl }) (free:∀ b o,b∉ch->s.heap.get? b=some o->H b=none->H' b=none)
 (there:∀ b o,b∉ch->s.heap.get? b=some o->∃ o',h'.get? b=some o')
 (tups:∀ b xs,H b=some (.tup xs)->H' b=some (.tup xs)) (frzs:∀ b o u,H b=some (.frz o u)->H' b=some (.frz o u)) (tbls:∀ b ps,H b=some (.tbl ps)->∃ more,H' b=some (.tbl (ps++more)))
 (ns:∀ m,s.heap.Ns X.env.locals m->h'.Ns X.env.locals m) (hok:HOk X.prog X.w H' h') (hg:AllBare g') :
 Inv X pins σ H' { s with heap:=h',gens:=g',drawn:=d',toks:=t' }:=by
 have neL:∀ b o,X.s₀.heap.get? b=some o->b≠X.env.locals:=fun b o e=>Nat.ne_of_lt (Nat.lt_of_lt_of_le (B5 e) I.ok.above)
 have neC:∀ b o,X.s₀.heap.get? b=some o->b∉X.ex->b∉ch:=fun b o e hx hb=>by
  rcases (hch b hb).1 with z|z
  · exact hx z
  · exact absurd (Nat.lt_of_lt_of_le (B5 e) z) (Nat.lt_irrefl _)
 have cellK:∀ x c,X.env.cells.lookup x=some c->∀ v,s.heap.IsCell c v->h'.IsCell c v:=fun x c e v ⟨o,ho,hd⟩=>by
  have nch:c∉ch:=fun z=>(hch c z).2.2.1 x c e rfl
  by_cases hc:c∈X.fs
  · obtain ⟨sl,q⟩:=slot c o (I.cne x c e) hc nch ho (I.freeC x c e)
    exact ⟨_,q,hd⟩
  · exact ⟨o,keep c o (I.cne x c e) hc nch ho (I.freeC x c e),hd⟩
 refine ⟨I.ok,I.os,hg,⟨fun b o e n hb hx=>?_,fun b o e n hb hx=>?_,fun b o e n hx=>?_,fun b o e hx=>?_,fun b xs e=>tups b xs (I.base.tups b xs e),fun b o xs e=>frzs b o xs (I.base.frzs b o xs e),fun b ps e=>?_⟩,?_,fun x c e=>?_,?_,fun x c e=>?_,fun p hp=>?_,hok,I.len⟩
 · exact keep b o (neL b o e) hb (neC b o e hx) (I.base.keep b o e n hb hx) (I.base.free b o e n hx)
 · obtain ⟨sl,e1⟩:=I.base.slot b o e n hb hx
   obtain ⟨sl',e2⟩:=slot b _ (neL b o e) hb (neC b o e hx) e1 (I.base.free b o e n hx)
   exact ⟨sl',e2⟩
 · obtain ⟨o',e1⟩:=I.base.there b o e hx
   exact free b o' (neC b o e hx) e1 (I.base.free b o e n hx)
 · obtain ⟨o',e1⟩:=I.base.there b o e hx
   exact there b o' (neC b o e hx) e1
 · obtain ⟨m1,e1⟩:=I.base.tbls b ps e
   obtain ⟨m2,e2⟩:=tbls b _ e1
   exact ⟨m1++m2,by rw [e2,Array.append_assoc]⟩
 · obtain ⟨m,hn,hl⟩:=I.loc
   refine ⟨m,ns m hn,fun i x v e1 e2 e3=>?_⟩
   obtain ⟨u,r,l⟩:=hl i x v e1 e2 e3
   refine ⟨u,r,?_⟩
   rcases l with l|⟨k,c,e,z⟩
   · exact .inl l
   · exact .inr ⟨k,c,e,cellK x c e _ z⟩
 · obtain ⟨v,z⟩:=I.cell x c e
   exact ⟨v,cellK x c e v z⟩
 · obtain ⟨m,⟨o,_,_,ho,_⟩,_⟩:=I.loc
   exact free _ o (fun z=>(hch _ z).2.1 rfl) ho I.free
 · obtain ⟨v,o,ho,hd⟩:=I.cell x c e
   exact free c o (fun z=>(hch c z).2.2.1 x c e rfl) ho (I.freeC x c e)
 · obtain ⟨e,n,ne,nf,d⟩:=I.pin p hp
   have nch:p.1∉ch:=fun z=>(hch p.1 z).2.2.2 p hp rfl
   exact ⟨keep p.1 p.2 ne nf nch e n,free p.1 p.2 nch e n,ne,nf,d⟩
theorem Inv.un {t':Nat}(I:Inv X pins σ H s)(u:Un X.fs [] H H' s.heap h')(hok:HOk X.prog X.w H' h'):Inv X pins σ H' { s with heap:=h',toks:=t' }:=by
 obtain ⟨m,⟨o,es,ep,ho,r⟩,_⟩:=id I.loc
 obtain ⟨sl,hL⟩:=u.any ho I.free (by simp)
 exact I.step (g':=s.gens) (d':=s.drawn) (ch:=[]) (fun _ z=>nomatch z) (fun b o _ hb _ e n=>u.keep b o e n hb (by simp)) (fun b o _ hb _ e n=>u.slot b o e n hb (by simp)) (fun b o _ e n=>u.free b o e n (by simp)) (fun b o _ e=>u.there b o e (by simp)) u.tups u.frzs u.tbls (fun m' hm=>by
  obtain ⟨o',es',ep',ho',r'⟩:=hm
  rw [ho] at ho';cases ho'
  exact ⟨_,es',ep',hL,r'⟩) hok I.bare
theorem Inv.call {g':Array GenState}{t':Nat}{d':Drawn}{ch:List Addr}(I:Inv X pins σ H s)(u:Un (frs X.stack) ch H H' s.heap h')(hok:HOk X.prog X.w H' h')(hg:AllBare g')
 (hch:∀ b∈ch,(b∈X.ex\/X.s₀.heap.objs.size<=b)/\b≠X.env.locals/\(∀ x c,X.env.cells.lookup x=some c->c≠b)/\∀ p∈X.pn++pins,p.1≠b) :
 Inv X pins σ H' { s with heap:=h',gens:=g',drawn:=d',toks:=t' }:=by
 obtain ⟨m,⟨o,es,ep,ho,r⟩,_⟩:=id I.loc
 obtain ⟨sl,hL⟩:=u.any ho I.free fun z=>(hch _ z).2.1 rfl
 exact I.step (ch:=ch) hch (fun b o hL hb hc e n=>u.keep b o e n (fun z=>(List.mem_cons.mp (I.stkSub b z)).elim hL hb) hc) (fun b o _ _ hc e n=>u.any e n hc) (fun b o hc e n=>u.free b o e n hc) (fun b o hc e=>u.there b o e hc) u.tups u.frzs u.tbls (fun m' hm=>by
  obtain ⟨o',es',ep',ho',r'⟩:=hm
  rw [ho] at ho';cases ho'
  exact ⟨_,es',ep',hL,r'⟩) hok hg
theorem Inv.turned {t':Nat}{it:Addr}(I:Inv X pins σ H s)(k:∀ b o,b≠it->s.heap.get? b=some o->h'.get? b=some o)(hn:H it=none)(hL:it≠X.env.locals)
 (h1:it∈X.ex\/X.s₀.heap.objs.size<=it) (h2:∀ x c,X.env.cells.lookup x=some c->c≠it) (h3:∀ p∈X.pn++pins,p.1≠it):Inv X pins σ H { s with heap:=h',toks:=t' }:=by
 have nit:∀ b u,H b=some u->b≠it:=fun b u e z=>by rw [z,hn] at e;cases e
 refine I.step (g':=s.gens) (d':=s.drawn) (ch:=[it]) (fun b hb=>?_) (fun b o _ _ hc e _=>k b o (fun z=>hc (by simp [z])) e) (fun b o _ _ hc e _=>⟨o.slots,k b o (fun z=>hc (by simp [z])) e⟩) (fun _ _ _ _ n=>n)
  (fun b o hc e=>⟨o,k b o (fun z=>hc (by simp [z])) e⟩) (fun _ _ e=>e) (fun _ _ _ e=>e) (fun b ps e=>⟨#[],by rw [e];simp⟩) (fun m hm=>?_) (fun b u e=>?_) I.bare
 · have e:b=it:=by simpa using hb
   subst e
   exact ⟨h1,hL,h2,h3⟩
 · obtain ⟨o,es,ep,ho,r⟩:=hm
   exact ⟨o,es,ep,k _ o (Ne.symm hL) ho,r⟩
 · refine (I.hok b u e).stay (fun c v hc q=>k c v ?_ q) (fun _ q=>q) fun _ _ q=>q
   rcases hc with z|z
   · rw [z];exact nit b u e
   · exact nit c _ z
theorem Inv.tok (I:Inv X pins σ H s)(t:Nat):Inv X pins σ H { s with toks:=t }:=I.un (h':=s.heap) (t':=t) Un.refl I.hok
theorem Inv.kept {t':Nat}(I:Inv X pins σ H s)(k:∀ b u,s.heap.get? b=some u->h'.get? b=some u):Inv X pins σ H { s with heap:=h',toks:=t' }:=I.un (Un.kept k) (I.hok.kept k)
theorem Inv.laid {a:Addr}{o:HO}{t':Nat}(I:Inv X pins σ H s)(k:∀ b u,s.heap.get? b=some u->h'.get? b=some u)(hp:s.heap.objs.size<=a)(new:ObjOk X.prog X.w (upd H a o) h' a o) :
 Inv X pins σ (upd H a o) { s with heap:=h',toks:=t' }:=I.un (Un.laid k hp (I.hok.fresh hp)) (I.hok.laid k hp new)
theorem Inv.write {x e:Addr}{o:HO}{t':Nat}(I:Inv X pins σ H s)(mu:Mut (H x))(he:e=x\/H e=some (.own x))(k:∀ b u,b≠e->s.heap.get? b=some u->h'.get? b=some u)(heo:∃ u,h'.get? e=some u)
 (new:ObjOk X.prog X.w (upd H x o) h' x o):Inv X pins σ (upd H x o) { s with heap:=h',toks:=t' }:=I.un (Un.write mu he k heo) (I.hok.write mu he k heo new)
theorem Inv.weak {σ':List (Option V)}(I:Inv X pins σ H s)(hl:σ'.length=σ.length)(w:∀ (i:Nat) v,σ'[i]?=some (some v)->σ[i]?=some (some v)):Inv X pins σ' H s :=
 ⟨I.ok,I.os,I.bare,I.base,let ⟨m,hn,hl'⟩:=I.loc;⟨m,hn,fun i x v e1 e2 e3=>hl' i x v e1 (w i v e2) e3⟩,I.cell,I.free,I.freeC,I.pin,I.hok,hl.trans I.len⟩
theorem Inv.pins_of {pins':List (Addr×Obj)}(I:Inv X pins σ H s)(h:∀ p∈pins',s.heap.get? p.1=some p.2/\H p.1=none/\p.1≠X.env.locals/\p.1∉X.fs/\∀ v,p.2.data≠.cell v):Inv X pins' σ H s :=
 ⟨I.ok,I.os,I.bare,I.base,I.loc,I.cell,I.free,I.freeC,fun p hp=>(List.mem_append.mp hp).elim (fun z=>I.pin p (List.mem_append_left _ z)) (h p),I.hok,I.len⟩
theorem UT {N:List Str}(hN:N.Nodup){i j:Nat}{x:Str}(a:N[i]?=some x)(b:N[j]?=some x):i=j:=by
 obtain ⟨h1,e1⟩:=List.getElem?_eq_some_iff.mp a
 obtain ⟨h2,e2⟩:=List.getElem?_eq_some_iff.mp b
 exact (List.getElem_inj hN).mp (e1.trans e2.symm)
theorem QL {M:Model}{A:Around}{E:Value->Shared->Prop}{i:Nat}{x:Str}{v:V}{u:Value}{Q:Unit->Shared->Prop}(I:Inv X pins σ H s)(hN:X.N.Nodup)(hi:X.N[i]?=some x)(hx:Loc X.env.scope x)(r:RelV v u)
 (h:∀ s',Inv X pins (σ.set i (some v)) H s'->(∃ a,Heap.SameBut a s.heap s'.heap/\(a=X.env.locals\/X.env.cells.lookup x=some a))->Q () s') (hf:X.fn x=true\/X.env.scope.names.lookup x=some .local:=by first|exact .inl rfl|exact .inr rfl|assumption):wpAny M A (storeName X.env x u) Q E s:=by
 obtain ⟨m,hn,hl⟩:=id I.loc
 have hcls:(X.env.scope.kind==.class||(X.env.scope.kind==.module&&X.env.locals != X.env.globals))=false:=by rw [I.ok.kind];rfl
 have hiσ:i<σ.length:=by rw [I.len];exact (List.getElem?_eq_some_iff.mp hi).1
 have cne:=I.cne
 have tracked:∀ {a:Addr} {h':Heap},(∃ o,s.heap.get? a=some o/\H a=none)->Heap.SameBut a s.heap h'->HOk X.prog X.w H h':=fun {a h'} ha hs b ob e=>by
  obtain ⟨_,_,hfree⟩:=ha
  refine (I.hok b ob e).stay (fun c w' hc q=>(hs.2 c ?_).trans q) (fun _ q=>q) fun _ _ q=>q
  rintro rfl
  rcases hc with rfl|hc
  · rw [hfree] at e;cases e
  · rw [hfree] at hc;cases hc
 rcases hx with hk|hk
 · refine wpAny_storeName_local hk hn (fun h' hn' hs=>?_) hcls
   obtain ⟨oL,_,_,hoL,_⟩:=id hn
   refine h _ ⟨I.ok,I.os,I.bare,⟨fun b o e n hb hx=>?_,fun b o e n hb hx=>?_,I.base.free,fun b o e hx=>?_,I.base.tups,I.base.frzs,I.base.tbls⟩,⟨_,hn',fun j y v' e1 e2 e3=>?_⟩,fun y c e=>?_,I.free,I.freeC,fun p hp=>?_,tracked ⟨oL,hoL,I.free⟩ hs,by simpa using I.len⟩ ⟨_,hs,.inl rfl⟩
   · exact (hs.2 b (Nat.ne_of_lt (Nat.lt_of_lt_of_le (B5 e) I.ok.above))).trans (I.base.keep b o e n hb hx)
   · obtain ⟨sl,e1⟩:=I.base.slot b o e n hb hx
     exact ⟨sl,(hs.2 b (Nat.ne_of_lt (Nat.lt_of_lt_of_le (B5 e) I.ok.above))).trans e1⟩
   · obtain ⟨o',e1⟩:=I.base.there b o e hx
     exact ⟨o',(hs.2 b (Nat.ne_of_lt (Nat.lt_of_lt_of_le (B5 e) I.ok.above))).trans e1⟩
   · by_cases hj:j=i
     · subst hj
       rw [hi] at e1;cases e1
       rw [List.getElem?_set_self hiσ] at e2
       cases e2
       exact ⟨u,r,.inl ⟨hk,by simp⟩⟩
     · rw [List.getElem?_set_ne (Ne.symm hj)] at e2
       obtain ⟨u',r',q⟩:=hl j y v' e1 e2 e3
       refine ⟨u',r',?_⟩
       rcases q with ⟨k,e⟩|⟨k,c,e,z⟩
       · refine .inl ⟨k,?_⟩
         have:y≠x:=fun e=>hj (UT hN e1 (e▸hi))
         simp [this,e]
       · exact .inr ⟨k,c,e,z.sameBut hs (cne y c e)⟩
   · obtain ⟨w',z⟩:=I.cell y c e
     exact ⟨w',z.sameBut hs (cne y c e)⟩
   · obtain ⟨e,n,ne,nf,d⟩:=I.pin p hp
     exact ⟨(hs.2 p.1 ne).trans e,n,ne,nf,d⟩
 · have hfn:X.fn x=true:=by
    rcases hf with z|z
    · exact z
    · rw [z] at hk;cases hk
   obtain ⟨c,hc⟩:=I.ok.has x (.inl hk)
   obtain ⟨w',z⟩:=I.cell x c hc
   refine wpAny_storeName_cell I.ok.kind hk hc z (fun h' hc' hs=>?_)
   obtain ⟨oc,hoc,hocd⟩:=id z
   refine h { s with heap:=h' } ⟨I.ok,I.os,I.bare,⟨fun b o e n hb hx=>?_,fun b o e n hb hx=>?_,I.base.free,fun b o e hx=>?_,I.base.tups,I.base.frzs,I.base.tbls⟩,⟨m,hn.sameBut hs (Ne.symm (cne x c hc)),fun j y v' e1 e2 e3=>?_⟩,fun y c' e=>?_,I.free,I.freeC,fun p hp=>?_,tracked ⟨oc,hoc,I.freeC x c hc⟩ hs,by simpa using I.len⟩ ⟨c,hs,.inr hc⟩
   · exact (hs.2 b (Nat.ne_of_lt (Nat.lt_of_lt_of_le (B5 e) (I.ok.cab x c hfn hc)))).trans (I.base.keep b o e n hb hx)
   · obtain ⟨sl,e1⟩:=I.base.slot b o e n hb hx
     exact ⟨sl,(hs.2 b (Nat.ne_of_lt (Nat.lt_of_lt_of_le (B5 e) (I.ok.cab x c hfn hc)))).trans e1⟩
   · obtain ⟨o',e1⟩:=I.base.there b o e hx
     exact ⟨o',(hs.2 b (Nat.ne_of_lt (Nat.lt_of_lt_of_le (B5 e) (I.ok.cab x c hfn hc)))).trans e1⟩
   · by_cases hj:j=i
     · subst hj
       rw [hi] at e1;cases e1
       rw [List.getElem?_set_self hiσ] at e2
       cases e2
       exact ⟨u,r,.inr ⟨.inl hk,c,hc,hc'⟩⟩
     · rw [List.getElem?_set_ne (Ne.symm hj)] at e2
       obtain ⟨u',r',q⟩:=hl j y v' e1 e2 e3
       refine ⟨u',r',?_⟩
       rcases q with q|⟨k,c',e,z'⟩
       · exact .inl q
       · refine .inr ⟨k,c',e,z'.sameBut hs ?_⟩
         rintro rfl
         exact hj (UT hN e1 (I.ok.inj _ _ _ e hc▸hi))
   · by_cases hcc:c'=c
     · subst hcc;exact ⟨_,hc'⟩
     · obtain ⟨w2,z2⟩:=I.cell y c' e
       exact ⟨w2,z2.sameBut hs hcc⟩
   · obtain ⟨e,n,ne,nf,d⟩:=I.pin p hp
     refine ⟨(hs.2 p.1 ?_).trans e,n,ne,nf,d⟩
     intro q
     rw [q,hoc] at e
     have q':oc=p.2:=Option.some.inj e
     exact d w' (by rw [<- q'];exact hocd)
theorem HL {M:Model}{A:Around}{E:Value->Shared->Prop}{i:Nat}{x:Str}{v:V}{u:Value}{Q:Unit->Shared->Prop}(I:Inv X pins σ H s)(hN:X.N.Nodup)(hi:X.N[i]?=some x)(hx:Loc X.env.scope x)(r:RelV v u)
 (h:∀ s',Inv X pins (σ.set i (some v)) H s'->Q () s') (hf:X.fn x=true\/X.env.scope.names.lookup x=some .local:=by first|exact .inl rfl|exact .inr rfl|assumption):wpAny M A (storeName X.env x u) Q E s :=
 QL I hN hi hx r (fun s' I' _=>h s' I') hf
theorem Inv.call' {s':Shared}{ch:List Addr}(I:Inv X pins σ H s)(ho:s'.os=s.os)(u:Un (frs X.stack) ch H H' s.heap s'.heap)(hok:HOk X.prog X.w H' s'.heap)(hg:AllBare s'.gens)
 (hch:∀ b∈ch,(b∈X.ex\/X.s₀.heap.objs.size<=b)/\b≠X.env.locals/\(∀ x c,X.env.cells.lookup x=some c->c≠b)/\∀ p∈X.pn++pins,p.1≠b):Inv X pins σ H' s':=by
 obtain ⟨h',g',d',t',o'⟩:=s'
 have e:o'=s.os:=ho
 subst e
 exact I.call (g':=g') (t':=t') (d':=d') u hok hg hch
end
abbrev XK:=Value->Option Addr->Hp->Prop
abbrev St:=List (Option V)
abbrev VK:=V->Hp->Prop
abbrev TE:=St->Hp->VK->Prop
abbrev TT:=St->Hp->(Bool->Hp->Prop)->Prop
abbrev TA:=St->Hp->(List V->Hp->Prop)->Prop
structure Ends where
 nx:St->Hp->Prop
 rt:VK
 bk:St->Hp->Prop:=fun _ _=>False
 ct:St->Hp->Prop:=fun _ _=>False
abbrev TS:=Ends->St->Hp->Prop
def EP (X:Cx)(pins:List (Addr×Obj))(σ:St)(Q:VK)(u:Value)(s':Shared):Prop:=∃ v H',Inv X pins σ H' s'/\RelV v u/\Q v H'
def TP (X:Cx)(pins:List (Addr×Obj))(σ:St)(Q:Bool->Hp->Prop)(b:Bool)(s':Shared):Prop:=∃ H',Inv X pins σ H' s'/\Q b H'
def AP (X:Cx)(pins:List (Addr×Obj))(σ:St)(Q:List V->Hp->Prop)(us:List Value)(s':Shared):Prop:=∃ vs H',Inv X pins σ H' s'/\Vals vs us/\Q vs H'
def SP (X:Cx)(pins:List (Addr×Obj))(D:Ends)(f:Flow)(s':Shared):Prop :=
 match f with
 | .next=>∃ σ' H',Inv X pins σ' H' s'/\D.nx σ' H'
 | .brk=>∃ σ' H',Inv X pins σ' H' s'/\D.bk σ' H'
 | .cont=>∃ σ' H',Inv X pins σ' H' s'/\D.ct σ' H'
 | .ret u=>∃ v σ' H',Inv X pins σ' H' s'/\RelV v u/\D.rt v H'
def PE (X:Cx)(e:Expr)(t:TE):Prop :=
 ∀ (pins:List (Addr×Obj)) (s:Shared) (σ:St) (H:Hp) (Q:VK),Inv X pins σ H s->t σ H Q->wpAny (model X.prog X.w) X.A (eval e X.env) (EP X pins σ Q) X.xe s
def PT (X:Cx)(e:Expr)(t:TT):Prop :=
 ∀ (pins:List (Addr×Obj)) (s:Shared) (σ:St) (H:Hp) (Q:Bool->Hp->Prop),Inv X pins σ H s->t σ H Q->wpAny (model X.prog X.w) X.A (isTrue e X.env (eval e X.env)) (TP X pins σ Q) X.xe s
def PW (X:Cx)(e:Expr)(t:TT):Prop :=
 ∀ (whole:Sem Value) (pins:List (Addr×Obj)) (s:Shared) (σ:St) (H:Hp) (Q:Bool->Hp->Prop),Inv X pins σ H s->t σ H Q->wpAny (model X.prog X.w) X.A (isTrue e X.env whole) (TP X pins σ Q) X.xe s
theorem PW.pt {X:Cx}{e:Expr}{t:TT}(h:PW X e t):PT X e t:=h _
def PA (X:Cx)(es:List Expr)(t:TA):Prop :=
 ∀ (pos:Pos) (pins:List (Addr×Obj)) (s:Shared) (σ:St) (H:Hp) (Q:List V->Hp->Prop),Inv X pins σ H s->t σ H Q->wpAny (model X.prog X.w) X.A (spliced (backTo pos (starEach es X.env))) (AP X pins σ Q) X.xe s
def PS (X:Cx)(st:Stmt)(t:TS):Prop :=
 ∀ (pins:List (Addr×Obj)) (s:Shared) (σ:St) (H:Hp) (D:Ends),Inv X pins σ H s->t D σ H->wpAny (model X.prog X.w) X.A (exec st X.env) (SP X pins D) X.xe s
def PSs (X:Cx)(st:List Stmt)(t:TS):Prop :=
 ∀ (pins:List (Addr×Obj)) (s:Shared) (σ:St) (H:Hp) (D:Ends),Inv X pins σ H s->t D σ H->wpAny (model X.prog X.w) X.A (execs st X.env) (SP X pins D) X.xe s
theorem thn {α:Type}{t:Sem α}{Q Q':α->Shared->Prop}{M:Model}{A:Around}{E:Value->Shared->Prop}{s:Shared}(h:wpAny M A t Q E s)(hQ:∀ a s,Q a s->Q' a s):wpAny M A t Q' E s:=wpAny_mono h hQ fun _ _ x=>x
section
variable {X:Cx}
def HK (i:Nat):TE:=fun σ H Q=>∃ v,σ[i]?=some (some v)/\Q v H
def tC (v:V):TE:=fun _ H Q=>Q v H
theorem J3m {i:Nat}{x:Str}{pos:Pos}(hN:X.N[i]?=some x)(hv:Vis X.env.scope x)(hd:(x==("__debug__" : Str))=false:=by decide) (hcd:(x==("__classdict__" : Str))=false:=by decide):PE X (.Name x pos) (HK i):=by
 intro pins s σ H Q I h
 obtain ⟨v,e,h⟩:=h
 obtain ⟨m,hn,hl⟩:=I.loc
 obtain ⟨u,r,l⟩:=hl i x v hN e hv
 have fin:EP X pins σ Q u s:=⟨v,H,I,r,h⟩
 rcases l with ⟨hk,hm⟩|⟨hk,c,hc,hcell⟩
 · exact wpAny_Name (wpAny_loadName_local I.ok.kind hk hn hm fin) hd
 · rcases hk with hk|hk
   · exact wpAny_Name (wpAny_loadName_cell I.ok.kind hk hc hcell fin) hd
   · exact wpAny_Name (wpAny_loadName_free I.ok.kind hk hc hcell fin hcd) hd
theorem AM {i j pos}:PE X (.Constant (.int i) j pos) (tC (.int i)):=fun _ _ _ H _ I h=>wpAny_Constant_int ⟨.int i,H,I.tok _,⟨_,rfl⟩,h⟩
theorem Q6q {b j pos}:PE X (.Constant (.bool b) j pos) (tC (.bl b)):=fun _ _ _ H _ I h=>Constant_bool ⟨.bl b,H,I,rfl,h⟩
theorem Q2t {j pos}:PE X (.Constant .none j pos) (tC .non):=fun _ _ _ H _ I h=>Constant_none ⟨.non,H,I,rfl,h⟩
theorem Q2q {x j pos}:PE X (.Constant (.str x) j pos) (tC (.str x)):=fun _ _ _ H _ I h=>Calls.Constant_str ⟨.str x,H,I.tok _,⟨_,rfl⟩,h⟩
def Gl (X:Cx)(x:Str):Prop:=X.env.kindOf x=some .globalImplicit
theorem SI {E:Value->Shared->Prop}{pins:List (Addr×Obj)}{s:Shared}{σ:St}{H:Hp}{x:Str}{u:Value}{pos:Pos}{Q:Value->Shared->Prop}(I:Inv X pins σ H s)(hg:Gl X x)(hm:X.mg x=some u)(h:Q u s)
 (hd:(x==("__debug__" : Str))=false:=by decide):wpAny (model X.prog X.w) X.A (eval (.Name x pos) X.env) Q E s :=
 Calls.Name_function_global I.ok.kind hg (Calls.loadGlobal_global (by rw [I.ok.glob];exact I.mod.glob.keeps I.bk) hm h) hd
theorem GA {E:Value->Shared->Prop}{pins:List (Addr×Obj)}{s:Shared}{σ:St}{H:Hp}{x:Str}{u:Value}{pos:Pos}{Q:Value->Shared->Prop}(I:Inv X pins σ H s)(hg:Gl X x)(hm:X.mg x=none)(hv:bootBuiltins x=some u)(h:Q u s)
 (hn:x≠"__name__":=by decide) (hd:(x==("__debug__" : Str))=false:=by decide):wpAny (model X.prog X.w) X.A (eval (.Name x pos) X.env) Q E s:=by
 obtain ⟨mb,h1,h2⟩:=I.mod.blt
 exact Calls.Name_function_global I.ok.kind hg (Calls.loadGlobal_builtin (by rw [I.ok.glob];exact I.mod.glob.keeps I.bk) hm (by rw [I.ok.blt];exact h1.keeps I.bk) ((h2 x hn).trans hv) h) hd
theorem J7y {x:Str}{v:V}{u:Value}{pos:Pos}(hg:Gl X x)(hm:X.mg x=some u)(r:RelV v u)(hd:(x==("__debug__" : Str))=false:=by decide):PE X (.Name x pos) (tC v) :=
 fun _ _ _ H _ I h=>SI I hg hm ⟨v,H,I,r,h⟩ hd
theorem J8b {x:Str}{v:V}{u:Value}{pos:Pos}(hg:Gl X x)(hm:X.mg x=none)(hv:bootBuiltins x=some u)(r:RelV v u)(hn:x≠"__name__":=by decide) (hd:(x==("__debug__" : Str))=false:=by decide):PE X (.Name x pos) (tC v) :=
 fun _ _ _ H _ I h=>GA I hg hm hv ⟨v,H,I,r,h⟩ hn hd
variable {a b:Expr}{ta tb:TE}{pos:Pos}
variable {tA tB':TT}{rest:List Expr}
def Q6g (t u:TT):TT:=fun σ H Q=>t σ H fun c H1=>if c=true then u σ H1 Q else Q false H1
def tOr (t u:TT):TT:=fun σ H Q=>t σ H fun c H1=>if c=true then Q true H1 else u σ H1 Q
def Q8v (t:TT):TT:=fun σ H Q=>t σ H fun c H1=>Q (!c) H1
theorem J7p (ha:PT X a tA):PW X (.BoolOp .And [a] pos) tA:=by
 intro wh pins s σ H Q I h
 refine isTrue_and (thn (ha pins s σ H Q I h) fun c s1 e=>?_)
 cases c with
 | true=>exact isTrue_and_nil e
 | false=>exact e
theorem Q2h (ha:PT X a tA):PW X (.BoolOp .Or [a] pos) tA:=by
 intro wh pins s σ H Q I h
 refine isTrue_or (thn (ha pins s σ H Q I h) fun c s1 e=>?_)
 cases c with
 | false=>exact isTrue_or_nil e
 | true=>exact e
theorem Q2i (ha:PT X a tA)(hb:PW X (.BoolOp .And (b::rest) pos) tB'):PW X (.BoolOp .And (a::b::rest) pos) (Q6g tA tB'):=by
 intro wh pins s σ H Q I h
 refine isTrue_and (thn (ha pins s σ H _ I h) fun c s1 ⟨H1,I1,q1⟩=>?_)
 cases c with
 | true=>exact hb wh pins s1 σ H1 Q I1 q1
 | false=>exact ⟨H1,I1,q1⟩
theorem Q6m (ha:PT X a tA)(hb:PW X (.BoolOp .Or (b::rest) pos) tB'):PW X (.BoolOp .Or (a::b::rest) pos) (tOr tA tB'):=by
 intro wh pins s σ H Q I h
 refine isTrue_or (thn (ha pins s σ H _ I h) fun c s1 ⟨H1,I1,q1⟩=>?_)
 cases c with
 | true=>exact ⟨H1,I1,q1⟩
 | false=>exact hb wh pins s1 σ H1 Q I1 q1
theorem Q2j (ha:PT X a tA):PT X (.UnaryOp .Not a pos) (Q8v tA):=by
 intro pins s σ H Q I h
 exact isTrue_not (ha pins s σ H (fun c H1=>Q (!c) H1) I h)
def Q6f (ta tb:TE):TE:=fun σ H Q=>ta σ H fun x H1=>∃ c,x=.bl c/\if c=true then tb σ H1 Q else Q (.bl false) H1
def Q8u (ta tb:TE):TE:=fun σ H Q=>ta σ H fun x H1=>∃ c,x=.bl c/\if c=true then Q (.bl true) H1 else tb σ H1 Q
def Q5z (ta:TE):TE:=fun σ H Q=>ta σ H fun x H1=>∃ c,x=.bl c/\Q (.bl (!c)) H1
theorem Q2r {op}{t:TE}(h:PE X a t):PE X (.BoolOp op [a] pos) t:=fun pins s σ H Q I hw=>BoolOp_one (h pins s σ H Q I hw)
theorem Q2u (ha:PE X a ta)(hb:PE X (.BoolOp .And (b::rest) pos) tb):PE X (.BoolOp .And (a::b::rest) pos) (Q6f ta tb):=by
 intro pins s σ H Q I h
 refine BoolOp_and (thn (ha pins s σ H _ I h) fun v s1 ⟨x,H1,I1,r1,q1⟩=>?_)
 obtain ⟨c,rfl,q1⟩:=q1
 cases r1
 refine wpAny_truthy_bool ?_
 cases c with
 | true=>exact hb pins s1 σ H1 Q I1 q1
 | false=>exact ⟨.bl false,H1,I1,rfl,q1⟩
theorem Q6p (ha:PE X a ta)(hb:PE X (.BoolOp .Or (b::rest) pos) tb):PE X (.BoolOp .Or (a::b::rest) pos) (Q8u ta tb):=by
 intro pins s σ H Q I h
 refine BoolOp_or (thn (ha pins s σ H _ I h) fun v s1 ⟨x,H1,I1,r1,q1⟩=>?_)
 obtain ⟨c,rfl,q1⟩:=q1
 cases r1
 refine wpAny_truthy_bool ?_
 cases c with
 | false=>exact hb pins s1 σ H1 Q I1 q1
 | true=>exact ⟨.bl true,H1,I1,rfl,q1⟩
theorem Q2s (ha:PE X a ta):PE X (.UnaryOp .Not a pos) (Q5z ta):=by
 intro pins s σ H Q I h
 refine UnaryOp_ (thn (ha pins s σ H _ I h) fun v s1 ⟨x,H1,I1,r1,q1⟩=>?_)
 obtain ⟨c,rfl,q1⟩:=q1
 cases r1
 exact not_of (wpAny_truthy_bool ⟨.bl (!c),H1,I1,rfl,q1⟩)
end
def SqL (K:Fg)(H:Hp)(a:Addr)(xs:List V):Prop :=
 Rd H a (.lst xs) \/
  ∃ (o:Obj) (its:Array Value) (n:Nat),K.lookup a=some o/\o.cls=.type "list"/\o.dict=none/\o.data=.seq its n/\its.size<=sizeLine/\Vals xs its.toList
def SqT (K:Fg)(H:Hp)(a:Addr)(xs:List V):Prop :=
 Rd H a (.tup xs) \/
  ∃ (o:Obj) (its:Array Value) (n:Nat),K.lookup a=some o/\o.cls=.type "tuple"/\o.data=.seq its n/\its.size<=sizeLine/\Vals xs its.toList
def Q9p:Value->Option V
 | .none=>some .non
 | .bool b=>some (.bl b)
 | .int i _=>some (.int i)
 | .str x _=>some (.str x)
 | .bytes b _=>some (.byt b)
 | .float b _=>some (.flt b)
 | .ref a=>some (.ref a)
 | .type n=>some (.ty n)
 | _=>none
theorem RelV.abs {x:V}{u:Value}(r:RelV x u):Q9p u=some x:=by
 cases x with
 | non=>cases r;rfl
 | bl _=>cases r;rfl
 | int _=>obtain ⟨t,rfl⟩:=r;rfl
 | str _=>obtain ⟨t,rfl⟩:=r;rfl
 | byt _=>obtain ⟨t,rfl⟩:=r;rfl
 | flt _=>obtain ⟨t,rfl⟩:=r;rfl
 | ref _=>cases r;rfl
 | ty _=>cases r;rfl
theorem RelV.inj {x y:V}{u:Value}(r:RelV x u)(q:RelV y u):x=y:=Option.some.inj (r.abs.symm.trans q.abs)
theorem Vals.inj:∀ {xs ys:List V} {us:List Value},Vals xs us->Vals ys us->xs=ys
 | _,_,_,.nil,.nil=>rfl
 | _,_,_,.cons r t,.cons r' t'=>by rw [r.inj r',Vals.inj t t']
section
variable {X:Cx}{pins:List (Addr×Obj)}{σ:St}{H:Hp}{s:Shared}{a:Addr}{xs ys:List V}
theorem SqL.of (h:H a=some (.lst xs)):SqL K H a xs:=.inl (.inl h)
theorem SqT.of (h:H a=some (.tup xs)):SqT K H a xs:=.inl (.inl h)
theorem Inv.list (I:Inv X pins σ H s)(h:SqL X.K H a xs):∃ its:List Value,Vals xs its/\PlainL s.heap a its.toArray/\xs.length<=sizeLine:=by
 rcases h with h|⟨o,its,n,hk,hc,hd,hs,hz,r⟩
 · obtain ⟨z,its,n,r,e⟩:=h.ok I.hok
   exact ⟨its,r,⟨_,n,e,rfl,rfl,rfl⟩,z⟩
 · refine ⟨its.toList,r,⟨o,n,I.kIn a o hk,hc,hd,by simpa using hs⟩,?_⟩
   have e:=r.length
   simp only [Array.length_toList] at e
   omega
theorem Inv.tuple (I:Inv X pins σ H s)(h:SqT X.K H a xs):∃ its:List Value,Vals xs its/\IsTup s.heap a its.toArray/\xs.length<=sizeLine:=by
 rcases h with h|⟨o,its,n,hk,hc,hs,hz,r⟩
 · obtain ⟨z,its,r,p⟩:=h.ok I.hok
   exact ⟨its,r,p,z⟩
 · refine ⟨its.toList,r,⟨o,I.kIn a o hk,hc,n,by simpa using hs⟩,?_⟩
   have e:=r.length
   simp only [Array.length_toList] at e
   omega
theorem Inv.list_inj (I:Inv X pins σ H s)(h:SqL X.K H a xs)(h':SqL X.K H a ys):xs=ys:=by
 obtain ⟨its,r,⟨o,n,e,_,_,d⟩,_⟩:=I.list h
 obtain ⟨its',r',⟨o',n',e',_,_,d'⟩,_⟩:=I.list h'
 rw [e] at e';cases e'
 rw [d] at d'
 injection d' with d1 _
 have:its=its':=by simpa using congrArg Array.toList d1
 subst this
 exact r.inj r'
theorem Inv.tuple_inj (I:Inv X pins σ H s)(h:SqT X.K H a xs)(h':SqT X.K H a ys):xs=ys:=by
 obtain ⟨its,r,⟨o,e,_,n,d⟩,_⟩:=I.tuple h
 obtain ⟨its',r',⟨o',e',_,n',d'⟩,_⟩:=I.tuple h'
 rw [e] at e';cases e'
 rw [d] at d'
 injection d' with d1 _
 have:its=its':=by simpa using congrArg Array.toList d1
 subst this
 exact r.inj r'
end
abbrev Cx.wish (X:Cx)(E:Value->Shared->Prop):Cx:={ X with xe:=E }
abbrev Cx.nox (X:Cx):Cx:=X.wish fun _ _=>False
theorem Cx.Ok.wish {X:Cx}(ok:X.Ok)(E:Value->Shared->Prop):(X.wish E).Ok :=
 ⟨ok.mod,ok.kind,ok.glob,ok.blt,ok.above,ok.inj,ok.has,ok.cab,ok.hd,ok.frames,ok.stk,ok.exf,ok.bs,ok.bsz,ok.noex,ok.exfs,ok.funs,ok.frf⟩
theorem Cx.Ok.unwish {X:Cx}{E:Value->Shared->Prop}(ok:(X.wish E).Ok):X.Ok :=
 ⟨ok.mod,ok.kind,ok.glob,ok.blt,ok.above,ok.inj,ok.has,ok.cab,ok.hd,ok.frames,ok.stk,ok.exf,ok.bs,ok.bsz,ok.noex,ok.exfs,ok.funs,ok.frf⟩
section
variable {X:Cx}{pins:List (Addr×Obj)}{σ:St}{H:Hp}{s:Shared}{E:Value->Shared->Prop}
theorem Inv.wish (I:Inv X pins σ H s)(E:Value->Shared->Prop):Inv (X.wish E) pins σ H s:=⟨I.ok.wish E,I.os,I.bare,I.base,I.loc,I.cell,I.free,I.freeC,I.pin,I.hok,I.len⟩
theorem Inv.unwish (I:Inv (X.wish E) pins σ H s):Inv X pins σ H s:=⟨I.ok.unwish,I.os,I.bare,I.base,I.loc,I.cell,I.free,I.freeC,I.pin,I.hok,I.len⟩
theorem SP.unwish {D:Ends}{f:Flow}{s':Shared}(h:SP (X.wish E) pins D f s'):SP X pins D f s':=by
 cases f with
 | next=>obtain ⟨σ',H',I,q⟩:=h;exact ⟨σ',H',I.unwish,q⟩
 | brk=>obtain ⟨σ',H',I,q⟩:=h;exact ⟨σ',H',I.unwish,q⟩
 | cont=>obtain ⟨σ',H',I,q⟩:=h;exact ⟨σ',H',I.unwish,q⟩
 | ret u=>obtain ⟨v,σ',H',I,r,q⟩:=h;exact ⟨v,σ',H',I.unwish,r,q⟩
theorem PSs.nox {st:List Stmt}{t:TS}(h:PSs X.nox st t):PSs X st t:=fun pins s σ H D I hw =>
 wpAny_mono (h pins s σ H D (I.wish _) hw) (fun _ _ q=>q.unwish) fun _ _ z=>False.elim z
end
section
variable {X:Cx}{st:Stmt}{rest:List Stmt}{t u:TS}{e:Expr}{te:TE}{pos:Pos}
def Q6a:TS:=fun D σ H=>D.nx σ H
def Q8r (t u:TS):TS:=fun D σ H=>t { D with nx:=u D } σ H
theorem KE:PSs X [] Q6a:=fun _ _ σ H _ I h=>wpAny_execs_nil ⟨σ,H,I,h⟩
theorem BI (h1:PS X st t)(h2:PSs X rest u):PSs X (st::rest) (Q8r t u):=by
 intro pins s σ H D I h
 refine wpAny_execs_cons (thn (h1 pins s σ H { D with nx:=u D } I h) fun f s1 q=>?_)
 cases f with
 | next =>
   obtain ⟨σ',H',I',q⟩:=q
   exact h2 pins s1 σ' H' D I' q
 | ret v=>exact q
 | brk=>exact q
 | cont=>exact q
theorem DB (h1:PS X st t):PSs X [st] t:=by
 intro pins s σ H D I h
 refine wpAny_execs_cons (thn (h1 pins s σ H D I h) fun f s1 q=>?_)
 cases f with
 | next=>exact wpAny_execs_nil q
 | ret v=>exact q
 | brk=>exact q
 | cont=>exact q
def Q6d:TS:=fun D σ H=>D.ct σ H
theorem UK:PS X (.Continue pos) Q6d:=fun _ _ σ H _ I h=>wpAny_Continue ⟨σ,H,I,h⟩
theorem Inv.quiet {pins:List (Addr×Obj)}{σ:St}{H:Hp}{s:Shared}(I:Inv X pins σ H s):interactive X.env=false:=by simp [interactive,I.ok.kind]
def Q0m (te:TE):TS:=fun D σ H=>te σ H fun _ H1=>D.nx σ H1
theorem GT (he:PE X e te)(hs:swapsWith e none pos.line X.env=pure false:=by rfl):PS X (.Expr e pos) (Q0m te):=by
 intro pins s σ H D I h
 exact wpAny_Expr_any (thn (he pins s σ H _ I h) fun v s1 ⟨x,H1,I1,r1,q1⟩=>⟨σ,H1,I1,q1⟩) I.quiet hs
def Q8s (te:TE):TS:=fun D σ H=>te σ H D.rt
theorem FY (he:PE X e te):PS X (.Return (some e) pos) (Q8s te):=by
 intro pins s σ H D I h
 exact wpAny_Return_some (thn (he pins s σ H _ I h) fun v s1 ⟨x,H1,I1,r1,q1⟩=>⟨x,σ,H1,I1,r1,q1⟩)
def Q8x (c:TT)(t u:TS):TS:=fun D σ H=>c σ H fun b H1=>if b=true then t D σ H1 else u D σ H1
theorem ZA {c:Expr}{a b:List Stmt}{tc:TT}(hc:PT X c tc)(ha:PSs X a t)(hb:PSs X b u):PS X (.If c a b pos) (Q8x tc t u):=by
 intro pins s σ H D I h
 refine wpAny_If (thn (hc pins s σ H _ I h) fun d s1 ⟨H1,I1,q1⟩=>?_)
 cases d with
 | true=>exact ha pins s1 σ H1 D I1 q1
 | false=>exact hb pins s1 σ H1 D I1 q1
end
abbrev TG:=V->St->Hp->(St->Hp->Prop)->Prop
abbrev TGs:=List V->St->Hp->(St->Hp->Prop)->Prop
def PG (X:Cx)(target:Expr)(t:TG):Prop :=
 ∀ (pins:List (Addr×Obj)) (s:Shared) (σ:St) (H:Hp) (v:V) (u:Value) (Q:St->Hp->Prop),Inv X pins σ H s->RelV v u->t v σ H Q ->
  wpAny (model X.prog X.w) X.A (assign target X.env u) (fun _ s'=>∃ σ' H',Inv X pins σ' H' s'/\Q σ' H') X.xe s
def PGs (X:Cx)(ts:List Expr)(t:TGs):Prop :=
 ∀ (pins:List (Addr×Obj)) (s:Shared) (σ:St) (H:Hp) (vs:List V) (us:List Value) (Q:St->Hp->Prop),Inv X pins σ H s->Vals vs us->t vs σ H Q ->
  wpAny (model X.prog X.w) X.A (assignInOrder ((assignEach ts X.env).map (·.2)) us) (fun _ s'=>∃ σ' H',Inv X pins σ' H' s'/\Q σ' H') X.xe s
abbrev Q5m:=V->V->V->Hp->(Hp->Prop)->Prop
def Q5o (X:Cx)(t:Q5m):Prop :=
 ∀ (pins:List (Addr×Obj)) (s:Shared) (σ:St) (H:Hp) (o i v:V) (ov iv u:Value) (Q:Hp->Prop),Inv X pins σ H s->RelV o ov->RelV i iv->RelV v u->t o i v H Q ->
  wpAny (model X.prog X.w) X.A (setItem ov iv u) (fun _ s'=>∃ H',Inv X pins σ H' s'/\Q H') X.xe s
abbrev TIp:=V->V->Hp->VK->Prop
def PIp (X:Cx)(op:Operator)(t:TIp):Prop :=
 ∀ (pins:List (Addr×Obj)) (s:Shared) (σ:St) (H:Hp) (x y:V) (v u:Value) (Q:VK),Inv X pins σ H s->RelV x v->RelV y u->t x y H Q ->
  wpAny (model X.prog X.w) X.A (inplaceOp op v u) (EP X pins σ Q) X.xe s
section
variable {X:Cx}{pos:Pos}
def VH (i:Nat):TG:=fun v σ H Q=>Q (σ.set i (some v)) H
theorem pg_name {i:Nat} {x:Str} (hN:X.N.Nodup) (hi:X.N[i]?=some x) (hx:Loc X.env.scope x) (hf:X.fn x=true\/X.env.scope.names.lookup x=some .local:=by first|exact .inl rfl|exact .inr rfl|assumption):PG X (.Name x pos) (VH i):=by
 intro pins s σ H v u Q I r h
 exact wpAny_assign_Name (HL I hN hi hx r (fun s' I'=>⟨_,H,I',h⟩) hf)
def Q7o:TGs:=fun vs σ H Q=>vs=[]/\Q σ H
def Q0w (t:TG)(u:TGs):TGs:=fun vs σ H Q=>∃ v r,vs=v::r/\t v σ H fun σ' H'=>u r σ' H' Q
theorem Y1:PGs X [] Q7o:=by
 intro pins s σ H vs us Q I r h
 obtain ⟨e,h⟩:=h
 subst e
 cases r
 exact assignInOrder_nil ⟨σ,H,I,h⟩
theorem J6 {e:Expr}{es:List Expr}{t:TG}{u:TGs}(h1:PG X e t)(h2:PGs X es u)
 (hs:(assignEach (e::es) X.env).map (·.2)=assign e X.env::(assignEach es X.env).map (·.2):=by rfl):PGs X (e::es) (Q0w t u):=by
 intro pins s σ H vs us Q I r h
 obtain ⟨v,vr,e1,h⟩:=h
 subst e1
 cases r with
 | cons r rr =>
   rw [hs]
   refine assignInOrder_cons (thn (h1 pins s σ H _ _ _ I r h) fun _ s1 ⟨σ1,H1,I1,q1⟩=>?_)
   exact h2 pins s1 σ1 H1 _ _ Q I1 rr q1
def Q3p (K:Fg)(n:Nat)(t:TGs):TG:=fun v σ H Q=>∃ a xs,v=.ref a/\SqT K H a xs/\xs.length=n/\t xs σ H Q
theorem Q2p {es:List Expr}{k:Nat}{t:TGs}{n:Nat}(hc:X.calm=true)(h:PGs X es t)
 (hn:(assignEach es X.env).length=n:=by rfl) (hst:(assignEach es X.env).findIdx? (·.1)=none:=by rfl):PG X (.Tuple es k pos) (Q3p X.K n t):=by
 intro pins s σ H v u Q I r hw
 obtain ⟨a,xs,e1,hq,hl,hw⟩:=hw
 subst e1
 cases r
 obtain ⟨its,rv,ht,hz⟩:=I.tuple hq
 refine assign_Tuple_tuple (I.ok.hd hc) ht (by simp [hn,<- hl,rv.length]) hst fun h' hx=>?_
 have I1:Inv X pins σ H { s with heap:=h' }:=I.kept (t':=s.toks) fun b o e=>hx b o (Nat.ne_of_lt (B5 e)) e
 exact h pins _ σ H xs _ Q I1 (by simpa using rv) hw
def J2a (to ti:TE)(t:Q5m):TG:=fun v σ H Q=>to σ H fun o H1=>ti σ H1 fun i H2=>t o i v H2 fun H3=>Q σ H3
theorem GV {o i:Expr}{to ti:TE}{t:Q5m}(ho:PE X o to)(hi:PE X i ti)(hs:Q5o X t)
 (ha:∀ v,assign (.Subscript o i pos) X.env v=(do
  let ov <- holding [v] (eval o X.env)
  let iv <- holding [v,ov] (eval i X.env)
  standAt pos
  holding [v,ov,iv] (setItem ov iv v)
  release [v,ov,iv] []):=by intro _;rfl):PG X (.Subscript o i pos) (J2a to ti t):=by
 intro pins s σ H v u Q I r h
 rw [ha]
 refine B1 (wpAny_holding (thn (ho pins s σ H _ I h) fun ov s1 ⟨x,H1,I1,r1,q1⟩=>?_))
 refine B1 (wpAny_holding (thn (hi pins s1 σ H1 _ I1 q1) fun iv s2 ⟨y,H2,I2,r2,q2⟩=>?_))
 refine B1 (wpAny_standAt (B1 (wpAny_holding (thn (hs pins s2 σ H2 x y v ov iv u _ I2 r1 r2 r q2) fun _ s3 ⟨H3,I3,q3⟩=>?_))))
 exact wpAny_release ⟨σ,H3,I3,q3⟩
def J7c (te:TE)(g:TG):TS:=fun D σ H=>te σ H fun x H1=>g x σ H1 D.nx
theorem LM {tg e:Expr}{te:TE}{g:TG}(he:PE X e te)(hg:PG X tg g)(hs:swapsWithSole [tg] e pos.line X.env=pure false:=by rfl)(hw:swappedStores [tg] e X.env=pure none:=by rfl)
 (h1:(assignEach [tg] X.env).map (·.2)=[assign tg X.env]:=by rfl):PS X (.Assign [tg] e pos) (J7c te g):=by
 intro pins s σ H D I h
 refine wpAny_Assign_stores (thn (he pins s σ H _ I h) fun v s1 ⟨x,H1,I1,r1,q1⟩=>?_) hs hw
 rw [h1]
 exact thn (hg pins s1 σ H1 x v _ I1 r1 q1) fun _ s2 q=>q
theorem EF {i:Nat} {x:Str} {e:Expr} {te:TE} {pos':Pos} (hN:X.N.Nodup) (hi:X.N[i]?=some x) (hx:Loc X.env.scope x) (he:PE X e te) (hs:swapsWith e (some (.Name x pos')) pos.line X.env=pure false:=by rfl) (hf:X.fn x=true\/X.env.scope.names.lookup x=some .local:=by first|exact .inl rfl|exact .inr rfl|assumption) :
 PS X (.Assign [.Name x pos'] e pos) (J7c te (VH i)):=by
 intro pins s σ H D I h
 refine wpAny_Assign_Name (thn (he pins s σ H _ I h) fun v s1 ⟨y,H1,I1,r1,q1⟩=>?_) hs
 exact HL I1 hN hi hx r1 (fun s2 I2=>⟨_,H1,I2,q1⟩) hf
def Q8t (i j:Nat)(ta:TA):TS:=fun D σ H=>ta σ H fun vs H1=>∃ v w,vs=[v,w]/\D.nx ((σ.set i (some v)).set j (some w)) H1
theorem Q2k {i j:Nat}{x y:Str}{a b:Expr}{ta:TA}{px py pt:Pos}{kt k2 pt2}(hc:X.calm=true)(hN:X.N.Nodup)(hi:X.N[i]?=some x)(hj:X.N[j]?=some y)(hij:i≠j)
 (hx:X.env.scope.names.lookup x=some .local) (hy:X.env.scope.names.lookup y=some .local) (ha:PA X [a,b] ta)
 (hw:swappedStores [.Tuple [.Name x px,.Name y py] kt pt] (.Tuple [a,b] k2 pt2) X.env=pure (some [x,y]))
 (hs:swapsWithSole [.Tuple [.Name x px,.Name y py] kt pt] (.Tuple [a,b] k2 pt2) pos.line X.env=pure false:=by rfl) :
 PS X (.Assign [.Tuple [.Name x px,.Name y py] kt pt] (.Tuple [a,b] k2 pt2) pos) (Q8t i j ta):=by
 intro pins s σ H D I h
 rw [exec_Assign_arm]
 refine B1 (wpAny_standAt ?_)
 rw [hs]
 refine B1 (B2 ?_)
 rw [if_neg (by decide)]
 refine B1 (Tuple_ (thn (ha _ pins s σ H _ I h) fun us s1 ⟨vs,H1,I1,r1,q1⟩=>?_))
 obtain ⟨v,w,e1,q1⟩:=q1
 subst e1
 obtain ⟨u1,u2,rfl,rv,rw'⟩:∃ u1 u2,us=[u1,u2]/\RelV v u1/\RelV w u2:=by
  cases r1 with
  | cons p q =>
    cases q with
    | cons p' q' =>
      cases q'
      exact ⟨_,_,rfl,p,p'⟩
 refine wpAny_newObj_type ?_ (by show 2<=sizeLine;decide)
 have I2:Inv X pins σ H1 { s1 with heap:=s1.heap.push { cls:=.type "tuple",data:=.seq [u1,u2].toArray } }:=I1.kept (t':=s1.toks) fun b o e=>B4 _ e
 rw [hw]
 refine B1 (B2 ?_)
 show wpAny (model X.prog X.w) X.A (do rule "assign.swapped-stores";let items <- unpackItems (.ref s1.heap.objs.size) 2 none;assignInOrder [fun v=>bindName X.env y v,fun v=>bindName X.env x v] items.reverse;pure Flow.next) _ _ _
 refine B1 (wpAny_rule (B1 (unpackItems_tuple (items:=#[u1,u2]) (I.ok.hd hc) (IsTup.new s1.heap _) fun h' hx'=>?_)))
 have I3:=I2.kept (h':=h') (t':=s1.toks) fun b o e=>hx' b o (Nat.ne_of_lt (B5 e)) e
 show wpAny _ _ (assignInOrder [fun v=>bindName X.env y v,fun v=>bindName X.env x v] [u2,u1] >>= fun _=>pure Flow.next) _ _ _
 refine B1 (assignInOrder_cons (wpAny_bindName (HL I3 hN hj (.inl hy) rw' (fun s2 I4=>?_) (.inr hy))))
 refine assignInOrder_cons (wpAny_bindName (HL I4 hN hi (.inl hx) rv (fun s3 I5=>assignInOrder_nil (B2 ?_)) (.inr hx)))
 rw [List.set_comm _ _ (Ne.symm hij)] at I5
 exact ⟨_,H1,I5,q1⟩
def Q8z (i:Nat)(te:TE)(ti:TIp):TS:=fun D σ H=>∃ x,σ[i]?=some (some x)/\te σ H fun y H1=>ti x y H1 fun z H2=>D.nx (σ.set i (some z)) H2
theorem Q2m {i:Nat} {x:Str} {e:Expr} {te:TE} {op:Operator} {ti:TIp} {pos':Pos} (hN:X.N.Nodup) (hi:X.N[i]?=some x) (hx:Loc X.env.scope x) (he:PE X e te) (ho:PIp X op ti) (hf:X.fn x=true\/X.env.scope.names.lookup x=some .local:=by first|exact .inl rfl|exact .inr rfl|assumption) :
 PS X (.AugAssign (.Name x pos') op e pos) (Q8z i te ti):=by
 intro pins s σ H D I h
 obtain ⟨v,e1,h⟩:=h
 obtain ⟨m,hn,hl⟩:=I.loc
 have vis:Vis X.env.scope x:=by rcases hx with k|k;exact .inl k;exact .inr (.inl k)
 obtain ⟨u,r,l⟩:=hl i x v hi e1 vis
 refine wpAny_AugAssign_Name ?_
 have go:wpAny (model X.prog X.w) X.A (eval e X.env) (fun w s₂=>wpAny (model X.prog X.w) X.A (inplaceOp op u w) (fun r s₃=>wpAny (model X.prog X.w) X.A (storeName X.env x r) (fun _=>SP X pins D .next) X.xe s₃) X.xe s₂) X.xe s:=by
  refine thn (he pins s σ H _ I h) fun w s1 ⟨y,H1,I1,r1,q1⟩=>?_
  refine thn (ho pins s1 σ H1 v y u w _ I1 r r1 q1) fun z s2 ⟨zv,H2,I2,r2,q2⟩=>?_
  exact HL I2 hN hi hx r2 (fun s3 I3=>⟨_,H2,I3,q2⟩) hf
 rcases l with ⟨hk,hm⟩|⟨hk,c,hc,hcell⟩
 · exact wpAny_loadName_local I.ok.kind hk hn hm go
 · rcases hk with hk|hk
   · exact wpAny_loadName_cell I.ok.kind hk hc hcell go
   · rcases hx with k|k
     · have:X.env.scope.names.lookup x=some .free:=hk
       rw [k] at this;cases this
     · have:X.env.scope.names.lookup x=some .free:=hk
       rw [k] at this;cases this
def ipI (f:Int->Int->Int):TIp:=fun x y H Q=>∃ i j,x=.int i/\y=.int j/\Q (.int (f i j)) H
theorem Q3m:PIp X .Add (ipI fun i j=>i+j):=by
 intro pins s σ H x y v u Q I r1 r2 h
 obtain ⟨i,j,e1,e2,q⟩:=h
 subst e1;subst e2
 obtain ⟨t,rfl⟩:=r1
 obtain ⟨t',rfl⟩:=r2
 exact iadd_int ⟨.int _,H,I.tok _,⟨_,rfl⟩,q⟩
end
section
variable {X:Cx}{pos:Pos}
def J2v (c:TT)(tb:TS):TS:=fun D σ H=>∃ W:Nat->St->Hp->Prop,(∃ m,W m σ H)/\∀ m σ H,W m σ H ->
 c σ H fun b H1=>if b=true then ∃ N:St->Hp->Prop,(∀ σ' H',N σ' H'->∃ m',m'<m/\W m' σ' H')/\tb { D with nx:=N,ct:=N,bk:=D.nx } σ H1 else D.nx σ H1
theorem J3j {c:Expr}{body:List Stmt}{tc:TT}{tb:TS}(hp:PassesOwn (model X.prog X.w) X.A X.env X.xe)(hc:PT X c tc)(hb:PSs X body tb):PS X (.While c body [] pos) (J2v tc tb):=by
 intro pins s σ H D I h
 obtain ⟨W,⟨m0,w0⟩,turn⟩:=h
 refine wpAny_While (codeAny_whileLoop (fun n s'=>∃ σ' H',Inv X pins σ' H' s'/\W n σ' H') ?_ m0 ⟨σ,H,I,w0⟩)
 rintro n s1 ⟨σ1,H1,I1,w1⟩
 refine wpAny_passesOwn hp (thn (hc pins s1 σ1 H1 _ I1 (turn n σ1 H1 w1)) fun b s2 ⟨H2,I2,q2⟩=>?_)
 cases b with
 | true =>
   obtain ⟨N,hN,q2⟩:=q2
   rw [if_pos rfl]
   refine wpAny_passesOwn hp (thn (hb pins s2 σ1 H2 _ I2 q2) fun f s3 q3=>?_)
   cases f with
   | next =>
     obtain ⟨σ3,H3,I3,n3⟩:=q3
     obtain ⟨m',hm,w3⟩:=hN σ3 H3 n3
     exact ⟨m',hm,σ3,H3,I3,w3⟩
   | cont =>
     obtain ⟨σ3,H3,I3,n3⟩:=q3
     obtain ⟨m',hm,w3⟩:=hN σ3 H3 n3
     exact ⟨m',hm,σ3,H3,I3,w3⟩
   | brk=>exact q3
   | ret v=>exact q3
 | false =>
   rw [if_neg Bool.false_ne_true]
   exact wpAny_execs_nil ⟨σ1,H2,I2,q2⟩
end
structure It where
 go:Nat->Hp->Prop
 yld:Nat->Hp->V->Hp->Prop
 stop:Nat->Hp->Prop
def HJ (X:Cx)(pins:List (Addr×Obj))(H:Hp)(b:Addr):Prop :=
 H b=none/\b≠X.env.locals/\b∉X.fs/\(b∈X.ex\/X.s₀.heap.objs.size<=b)/\(∀ x c,X.env.cells.lookup x=some c->c≠b)/\∀ p∈X.pn++pins,p.1≠b
theorem Inv.fpOk {X:Cx}{pins:List (Addr×Obj)}{σ:St}{H H':Hp}{s:Shared}{b:Addr}(I:Inv X pins σ H s)(hb:s.heap.objs.size<=b)(hn:H' b=none):HJ X pins H' b:=by
 refine ⟨hn,Nat.ne_of_gt (Nat.lt_of_lt_of_le I.lt hb),I.nofs hb,.inr (Nat.le_trans I.sz hb),fun x c e z=>?_,fun p hp z=>?_⟩
 · obtain ⟨v,q⟩:=I.cell x c e
   exact absurd (Nat.lt_of_lt_of_le q.lt (by rw [z];exact hb)) (Nat.lt_irrefl _)
 · exact absurd (Nat.lt_of_lt_of_le (B5 (I.pin p hp).1) (by rw [z];exact hb)) (Nat.lt_irrefl _)
structure Turn (P:Program)(w:World)(K:Fg)(tg:Expr)(J:It)(fp:List Addr)(it:Addr)(tn:Nat->Heap->Prop):Prop where
 mem:it∈fp
 obj:∀ i h,tn i h->∀ b∈fp,∃ o,h.get? b=some o/\∀ v,o.data≠.cell v
 keep:∀ i h h',tn i h->(∀ b∈fp,∀ o,h.get? b=some o->h'.get? b=some o)->tn i h'
 item:∀ (X:Cx),X.prog=P->X.w=w->X.K=K->X.calm=true->∀ (i:Nat) (pins:List (Addr×Obj)) (s:Shared) (σ:St) (H:Hp) (E:Value->Shared->Prop),Inv X pins σ H s->(∀ b∈fp,HJ X pins H b)->tn i s.heap->J.go i H ->
  wpAny (model P w) X.A (pyNext (.ref it)) (fun r s1=>∃ u,r=some u /\
   wpAny (model P w) X.A (letOwnedTupleGo tg (.ref it) u) (fun _ s2=>∃ x H',Inv X pins σ H' s2/\RelV x u/\J.yld i H x H'/\tn (i+1) s2.heap/\∀ b∈fp,H' b=none) E s1) E s
 done:∀ (X:Cx),X.prog=P->X.w=w->X.K=K->X.calm=true->∀ (i:Nat) (pins:List (Addr×Obj)) (s:Shared) (σ:St) (H:Hp) (E:Value->Shared->Prop),Inv X pins σ H s->(∀ b∈fp,HJ X pins H b)->tn i s.heap->J.stop i H ->
  wpAny (model P w) X.A (pyNext (.ref it)) (fun r s1=>r=none/\Inv X pins σ H s1) E s
 self:∀ (A:Around) (i:Nat) (s:Shared) (Q:Value->Shared->Prop) (E:Value->Shared->Prop),tn i s.heap->Q (.ref it) s->wpAny (model P w) A (pyIter (.ref it)) Q E s
abbrev TI:=St->Hp->(It->Hp->Prop)->Prop
def PIE (X:Cx)(pins:List (Addr×Obj))(σ:St)(tg:Expr)(R:It->Hp->Prop)(itv:Value)(s2:Shared):Prop :=
 ∃ (it:Addr) (fp:List Addr) (tn:Nat->Heap->Prop) (J:It) (H':Hp),itv=.ref it/\Inv X pins σ H' s2/\Turn X.prog X.w X.K tg J fp it tn/\tn 0 s2.heap/\(∀ b∈fp,HJ X pins H' b)/\R J H'
def PI (X:Cx)(tg iter:Expr)(wi:TI):Prop :=
 ∀ (pins:List (Addr×Obj)) (s:Shared) (σ:St) (H:Hp) (R:It->Hp->Prop),Inv X pins σ H s->wi σ H R ->
  wpAny (model X.prog X.w) X.A (eval iter X.env) (fun v s1=>wpAny (model X.prog X.w) X.A (pyIter v) (PIE X pins σ tg R) X.xe s1) X.xe s
theorem VG {M:Model}{A:Around}{E:Value->Shared->Prop}{s:Shared}{tg:Expr}{it:Addr}{u:Value}{o:Obj}{n:String}{vs:Array Value}{Q:Unit->Shared->Prop}(ho:s.heap.get? it=some o)(hc:o.cls=.type n)(hd:o.data=.fields vs)
 (hn:["enumerate","zip","dict_itemiterator","dict_reverseitemiterator","odict_iterator","itertools.zip_longest","itertools.pairwise"].contains n=false) (hQ:Q () s):wpAny M A (letOwnedTupleGo tg (.ref it) u) Q E s:=by
 unfold letOwnedTupleGo
 cases tg<;>first
  | exact B2 hQ
  | (cases u<;>first
   | exact B2 hQ
   | (refine B1 (wpAny_load ho ?_)
      rw [hc,hd]
      show wpAny M A (if (["enumerate","zip","dict_itemiterator","dict_reverseitemiterator","odict_iterator","itertools.zip_longest","itertools.pairwise"].contains n&&vs[0]?==some (rawInt _))=true then _ else _) Q E s
      rw [if_neg (by intro h;rw [hn,Bool.false_and] at h;cases h)]
      exact B2 hQ))
def Itl (K:Fg)(a:Addr):It :=
 ⟨fun i H=>∃ xs x,SqL K H a xs/\xs[i]?=some x,fun i H x H'=>H'=H/\∀ xs,SqL K H a xs->xs[i]?=some x,fun i H=>∃ xs,SqL K H a xs/\xs.length<=i⟩
def Itt (K:Fg)(a:Addr):It :=
 ⟨fun i H=>∃ xs x,SqT K H a xs/\xs[i]?=some x,fun i H x H'=>H'=H/\∀ xs,SqT K H a xs->xs[i]?=some x,fun i H=>∃ xs,SqT K H a xs/\xs.length<=i⟩
def Itr (lo:Int)(n:Nat):It:=⟨fun i _=>i<n,fun i H x H'=>H'=H/\x=.int (lo+i),fun i _=>n<=i⟩
theorem J0p {tg:Expr}(a it:Addr):Turn P w K tg (Itl K a) [it] it (fun i h=>h.IsListIter it a i) where
 mem:=by simp
 obj:=fun i h st b hb=>by
  have e:b=it:=by simpa using hb
  subst e
  obtain ⟨o,e,c,d⟩:=st
  exact ⟨o,e,fun v z=>by rw [d] at z;cases z⟩
 keep:=fun i h h' st k=>st.at fun o e=>k it (by simp) o e
 item:=by
  intro X hP hw hK hc i pins s σ H E I hf st hg
  subst hP hw hK
  obtain ⟨xs,x,hq,hx⟩:=hg
  obtain ⟨its,rv,p,hz⟩:=I.list hq
  obtain ⟨u,hu,ru⟩:=rv.get hx
  obtain ⟨f0,f1,f2,f3,f4,f5⟩:=hf it (by simp)
  refine wpAny_pyNext_list_item st p.isList (x:=u) (by simpa using hu) fun h' st' sb=>?_
  have I1:Inv X pins σ H { s with heap:=h' }:=I.turned (t':=s.toks) (fun b o hb e=>(sb.2 b hb).trans e) f0 f1 f3 f4 f5
  obtain ⟨o,e,c,d⟩:=id st'
  exact ⟨u,rfl,VG (s:={ s with heap:=h' }) e c d (by decide) ⟨x,H,I1,ru,⟨rfl,fun ys hy=>by rw [I.list_inj hy hq];exact hx⟩,st',fun b hb=>(hf b hb).1⟩⟩
 done:=by
  intro X hP hw hK hc i pins s σ H E I hf st hg
  subst hP hw hK
  obtain ⟨xs,hq,hx⟩:=hg
  obtain ⟨its,rv,p,hz⟩:=I.list hq
  obtain ⟨f0,f1,f2,f3,f4,f5⟩:=hf it (by simp)
  have hl:=rv.length
  exact wpAny_pyNext_list_end (I.ok.hd hc) st p.isList (by simp;omega) fun h' eb=>⟨rfl,I.turned (t':=s.toks) (fun b o hb e=>eb b o hb e) f0 f1 f3 f4 f5⟩
 self:=fun _ _ _ _ _ st h=>wpAny_pyIter_listiter st h
theorem WF {tg:Expr}(a it:Addr):Turn P w K tg (Itt K a) [it] it (fun i h=>h.IsTupleIter it a i) where
 mem:=by simp
 obj:=fun i h st b hb=>by
  have e:b=it:=by simpa using hb
  subst e
  obtain ⟨o,e,c,d⟩:=st
  exact ⟨o,e,fun v z=>by rw [d] at z;cases z⟩
 keep:=fun i h h' st k=>st.at fun o e=>k it (by simp) o e
 item:=by
  intro X hP hw hK hc i pins s σ H E I hf st hg
  subst hP hw hK
  obtain ⟨xs,x,hq,hx⟩:=hg
  obtain ⟨its,rv,p,hz⟩:=I.tuple hq
  obtain ⟨u,hu,ru⟩:=rv.get hx
  obtain ⟨f0,f1,f2,f3,f4,f5⟩:=hf it (by simp)
  refine wpAny_pyNext_tuple_item st (show s.heap.IsTuple a its.toArray from p) (x:=u) (by simpa using hu) fun h' st' sb=>?_
  have I1:Inv X pins σ H { s with heap:=h' }:=I.turned (t':=s.toks) (fun b o hb e=>(sb.2 b hb).trans e) f0 f1 f3 f4 f5
  obtain ⟨o,e,c,d⟩:=id st'
  exact ⟨u,rfl,VG (s:={ s with heap:=h' }) e c d (by decide) ⟨x,H,I1,ru,⟨rfl,fun ys hy=>by rw [I.tuple_inj hy hq];exact hx⟩,st',fun b hb=>(hf b hb).1⟩⟩
 done:=by
  intro X hP hw hK hc i pins s σ H E I hf st hg
  subst hP hw hK
  obtain ⟨xs,hq,hx⟩:=hg
  obtain ⟨its,rv,p,hz⟩:=I.tuple hq
  obtain ⟨f0,f1,f2,f3,f4,f5⟩:=hf it (by simp)
  have hl:=rv.length
  exact wpAny_pyNext_tuple_end (I.ok.hd hc) st (show s.heap.IsTuple a its.toArray from p) (by simp;omega) fun h' eb=>⟨rfl,I.turned (t':=s.toks) (fun b o hb e=>eb b o hb e) f0 f1 f3 f4 f5⟩
 self:=fun _ _ _ _ _ st h=>wpAny_pyIter_tupleiter st h
theorem WG {tg:Expr}(it:Addr)(lo:Int)(n:Nat):Turn P w K tg (Itr lo n) [it] it (fun i h=>IsRangeIter h it (lo+(i:Nat)*1) ((n:Int) - (i:Nat)) 1) where
 mem:=by simp
 obj:=fun i h st b hb=>by
  have e:b=it:=by simpa using hb
  subst e
  exact ⟨_,st,fun v z=>by
   have z':Data.fields _=Data.cell v:=z
   cases z'⟩
 keep:=fun i h h' st k=>k it (by simp) _ st
 item:=by
  intro X hP hw hK hc i pins s σ H E I hf st hg
  subst hP hw hK
  obtain ⟨f0,f1,f2,f3,f4,f5⟩:=hf it (by simp)
  have W:=Walks.range (prog:=X.prog) (w:=X.w) (I.ok.hd hc) it lo 1 n
  refine W.item i s _ _ hg st fun v h' tk hv st' kk=>?_
  obtain ⟨t,rfl⟩:=hv
  have I1:Inv X pins σ H { s with heap:=h',toks:=tk }:=I.turned (fun b o hb e=>kk b o (by simpa using hb) e) f0 f1 f3 f4 f5
  refine ⟨_,rfl,VG (s:={ s with heap:=h',toks:=tk }) (n:="range_iterator") st' rfl rfl (by decide) ⟨.int (lo+i),H,I1,⟨t,?_⟩,⟨rfl,rfl⟩,st',fun b hb=>(hf b hb).1⟩⟩
  rw [Int.mul_one]
 done:=by
  intro X hP hw hK hc i pins s σ H E I hf st hg
  subst hP hw hK
  obtain ⟨f0,f1,f2,f3,f4,f5⟩:=hf it (by simp)
  exact wpAny_pyNext_range_end (I.ok.hd hc) st (by have:n<=i:=hg;omega) fun h' eb=>⟨rfl,I.turned (t':=s.toks) (fun b o hb e=>eb b o hb e) f0 f1 f3 f4 f5⟩
 self:=fun _ _ _ _ _ st h=>wpAny_pyIter_rangeiter st h
section
variable {X:Cx}{tg:Expr}
theorem UF {pins:List (Addr×Obj)}{σ:St}{H:Hp}{s:Shared}{R:It->Hp->Prop}{E:Value->Shared->Prop}{lo hi:Int}{t u v:Tok}{tk:Nat}(I:Inv X pins σ H s)(h1 : -(2 ^ 62)<=lo)(h2:lo<2 ^ 62)(h3 : -(2 ^ 62)<=hi)(h4:hi<2 ^ 62)
 (q:R (Itr lo (hi - lo).toNat) H):wpAny (model X.prog X.w) X.A (pyIter (.ref s.heap.objs.size)) (PIE X pins σ tg R) E { s with heap:=s.heap.push { cls:=.type "range",data:=.fields #[.int lo t,.int hi u,.int 1 v] },toks:=tk }:=by
 refine wpAny_pyIter_range (IsRange.new ..) (small_one h1 h2 h3 h4) ?_
 have I1:Inv X pins σ H { s with heap:=s.heap.push { cls:=.type "range",data:=.fields #[.int lo t,.int hi u,.int 1 v] },toks:=tk }:=I.kept fun b o e=>B4 _ e
 refine ⟨(s.heap.push { cls:=.type "range",data:=.fields #[.int lo t,.int hi u,.int 1 v] }).objs.size,[(s.heap.push { cls:=.type "range",data:=.fields #[.int lo t,.int hi u,.int 1 v] }).objs.size],_,_,H,rfl,
  I1.kept (t':=tk) fun b o e=>B4 _ e,WG _ lo (hi - lo).toNat,?_,fun b hb=>?_,q⟩
 · have e1:lo+((0:Nat):Int)*1=lo:=by simp
   have e2:(((hi - lo).toNat:Nat):Int) - ((0:Nat):Int)=Builtin.Range.rangeSize lo hi 1:=by rw [rangeSize_one];split<;>omega
   show IsRangeIter _ _ (lo+((0:Nat):Int)*1) ((((hi - lo).toNat:Nat):Int) - ((0:Nat):Int)) 1
   rw [e1,e2]
   exact Heap.get?_push_size _ rfl
 · have e:b=(s.heap.push { cls:=.type "range",data:=.fields #[.int lo t,.int hi u,.int 1 v] }).objs.size:=by simpa using hb
   subst e
   exact I1.fpOk (Nat.le_refl _) (I1.hok.fresh (Nat.le_refl _))
def Q7j (ta:TA):TI:=fun σ H R=>ta σ H fun vs H1=>∃ j:Int,vs=[.int j]/\-(2 ^ 62)<=j/\j<2 ^ 62/\R (Itr 0 j.toNat) H1
def Q7i (ta:TA):TI:=fun σ H R=>ta σ H fun vs H1=>∃ i j:Int,vs=[.int i,.int j]/\(-(2 ^ 62)<=i/\i<2 ^ 62/\-(2 ^ 62)<=j/\j<2 ^ 62)/\R (Itr i (j - i).toNat) H1
theorem J1g {a:Expr}{ta:TA}{p pos:Pos}(hg:Gl X "range") (hm:X.mg "range" = none) (ha:PA X [a] ta) (hs:starEach [a] X.env=[(false,eval a X.env)]:=by rfl):PI X tg (.Call (.Name "range" p) [a] [] pos) (Q7j ta):=by
 intro pins s σ H R I h
 refine Call_ (GA I hg hm boot_range (PyProof.Rows.callWith_type1 (thn (ha pos pins s σ H _ I h) fun us s1 ⟨vs,H1,I1,r1,q1⟩=>?_) hs rfl))
 obtain ⟨j,e,q1,q2,q⟩:=q1
 subst e
 cases r1 with
 | cons r rr =>
   cases rr
   obtain ⟨t,rfl⟩:=r
   exact call_range_1 (UF I1 (by omega) (by omega) q1 q2 (by simpa using q))
theorem J1f {a b:Expr}{ta:TA}{p pos:Pos}(hg:Gl X "range") (hm:X.mg "range" = none) (ha:PA X [a,b] ta) (hs:starEach [a,b] X.env=[(false,eval a X.env),(false,eval b X.env)]:=by rfl) (hs2:starEach [b] X.env=[(false,eval b X.env)]:=by rfl) :
 PI X tg (.Call (.Name "range" p) [a,b] [] pos) (Q7i ta):=by
 intro pins s σ H R I h
 refine Call_ (GA I hg hm boot_range (PyProof.Rows.callWith_type1 (thn (ha pos pins s σ H _ I h) fun us s1 ⟨vs,H1,I1,r1,q1⟩=>?_) (by rw [hs,hs2]) (by rw [hs2];rfl)))
 obtain ⟨i,j,e,⟨q1,q2,q3,q4⟩,q⟩:=q1
 subst e
 cases r1 with
 | cons r rr =>
   cases rr with
   | cons r' rr =>
     cases rr
     obtain ⟨t,rfl⟩:=r
     obtain ⟨t',rfl⟩:=r'
     exact call_range_2 (UF I1 q1 q2 q3 q4 q)
def Q6b (wi:TI)(g:TG)(tb:TS):TS:=fun D σ H=>wi σ H fun J H1=>∃ W:Nat->Nat->St->Hp->Prop,(∃ m,W 0 m σ H1)/\∀ i m σ H,W i m σ H ->
 (J.stop i H/\D.nx σ H)\/(J.go i H/\∃ N:St->Hp->Prop,(∀ σ' H',N σ' H'->∃ m',m'<m/\W (i+1) m' σ' H')/\∀ x H',J.yld i H x H'->g x σ H' fun σ2 H2=>tb { D with nx:=N,ct:=N,bk:=D.nx } σ2 H2)
def GU (fp:List Addr)(h:Heap):List (Addr×Obj):=fp.filterMap fun b=>(h.get? b).map fun o=>(b,o)
theorem CA {fp:List Addr}{h:Heap}{b:Addr}{o:Obj}(hb:b∈fp)(e:h.get? b=some o):(b,o)∈GU fp h:=List.mem_filterMap.mpr ⟨b,hb,by rw [e];rfl⟩
theorem QT {fp:List Addr}{h:Heap}{p:Addr×Obj}(hp:p∈GU fp h):p.1∈fp/\h.get? p.1=some p.2:=by
 obtain ⟨b,hb,e⟩:=List.mem_filterMap.mp hp
 cases q:h.get? b with
 | none=>rw [q] at e;cases e
 | some o =>
   rw [q] at e
   have e':(b,o)=p:=Option.some.inj e
   subst e'
   exact ⟨hb,q⟩
theorem Inv.pinned {pins:List (Addr×Obj)}{σ:St}{H:Hp}{s:Shared}{fp:List Addr}(I:Inv X pins σ H s)(hf:∀ b∈fp,HJ X pins H b)(ho:∀ b∈fp,∃ o,s.heap.get? b=some o/\∀ v,o.data≠.cell v):Inv X (pins++GU fp s.heap) σ H s :=
 I.pins_of fun p hp=>(List.mem_append.mp hp).elim (fun z=>I.pin p (List.mem_append_right _ z)) fun z=>by
  obtain ⟨hb,e⟩:=QT z
  obtain ⟨f0,f1,f2,_⟩:=hf p.1 hb
  obtain ⟨o,e',d⟩:=ho p.1 hb
  rw [e] at e';cases e'
  exact ⟨e,f0,f1,f2,d⟩
theorem Inv.unpinned {pins pl:List (Addr×Obj)}{σ:St}{H:Hp}{s:Shared}(I:Inv X (pins++pl) σ H s):Inv X pins σ H s:=I.pins_of fun p hp=>I.pin p (List.mem_append_right _ (List.mem_append_left _ hp))
theorem Q2l {iter:Expr}{body:List Stmt}{wi:TI}{g:TG}{tb:TS}{pos:Pos}(hp:PassesOwn (model X.prog X.w) X.A X.env X.xe)(hc:X.calm=true)(hi:PI X tg iter wi)(hg:PG X tg g)(hb:PSs X body tb)
 (hs:∀ x,foldedSetIterable iter X.env x=pure x:=by intro _;rfl):PS X (.For tg iter body [] pos) (Q6b wi g tb):=by
 intro pins s σ H D I h
 refine wpAny_For (thn (hi pins s σ H _ I h) fun v s1 h1=>thn h1 fun itv s2 h2=>?_) hs
 obtain ⟨it,fp,tn,J,H2,e,I2,T,st2,f2,W,⟨m0,w0⟩,turn⟩:=h2
 subst e
 have stat:∀ {H':Hp},(∀ b∈fp,H' b=none)->∀ b∈fp,HJ X pins H' b:=fun hn b hb=>⟨hn b hb,(f2 b hb).2⟩
 refine codeAny_forLoop_any (fun n s'=>∃ i σ' H',Inv X pins σ' H' s'/\tn i s'.heap/\(∀ b∈fp,H' b=none)/\W i n σ' H') ?_ m0 ⟨0,σ,H2,I2,st2,fun b hb=>(f2 b hb).1,w0⟩
 rintro n s3 ⟨i,σ3,H3,I3,st3,fr3,w3⟩
 rcases turn i n σ3 H3 w3 with ⟨stop,qn⟩|⟨go,N,hN,step⟩
 · refine wpAny_passesOwn hp (thn (T.done X rfl rfl rfl hc i pins s3 σ3 H3 X.xe I3 (stat fr3) st3 stop) fun r s4 ⟨hr,I4⟩=>?_)
   subst hr
   exact wpAny_execs_nil ⟨σ3,H3,I4,qn⟩
 · refine wpAny_passesOwn hp (thn (T.item X rfl rfl rfl hc i pins s3 σ3 H3 X.xe I3 (stat fr3) st3 go) fun r s4 ⟨u,hr,h4⟩=>?_)
   subst hr
   refine wpAny_passesOwn hp (thn h4 fun _ s5 ⟨x,H5,I5,r5,y5,st5,fr5⟩=>?_)
   have I5':=I5.pinned (stat fr5) (T.obj _ _ st5)
   refine wpAny_passesOwn hp (thn (hg _ s5 σ3 H5 x u _ I5' r5 (step x H5 y5)) fun _ s6 ⟨σ6,H6,I6,q6⟩=>?_)
   refine wpAny_passesOwn hp (thn (hb _ s6 σ6 H6 _ I6 q6) fun f s7 q7=>?_)
   have again:∀ {σ7:St} {H7:Hp},Inv X (pins++GU fp s5.heap) σ7 H7 s7->N σ7 H7->∃ m,m<n/\∃ i σ' H',Inv X pins σ' H' s7/\tn i s7.heap/\(∀ b∈fp,H' b=none)/\W i m σ' H':=fun {σ7 H7} I7 n7=>by
    obtain ⟨m',hm,w7⟩:=hN σ7 H7 n7
    refine ⟨m',hm,i+1,σ7,H7,I7.unpinned,T.keep _ _ _ st5 fun b hb o e=>(I7.pin (b,o) (List.mem_append_right _ (List.mem_append_right _ (CA hb e)))).1,fun b hb=>?_,w7⟩
    obtain ⟨o,e,d⟩:=T.obj _ _ st5 b hb
    exact (I7.pin (b,o) (List.mem_append_right _ (List.mem_append_right _ (CA hb e)))).2.1
   cases f with
   | next=>obtain ⟨σ7,H7,I7,n7⟩:=q7;exact again I7 n7
   | cont=>obtain ⟨σ7,H7,I7,n7⟩:=q7;exact again I7 n7
   | brk=>obtain ⟨σ7,H7,I7,q7⟩:=q7;exact ⟨σ7,H7,I7.unpinned,q7⟩
   | ret v=>obtain ⟨x7,σ7,H7,I7,r7,q7⟩:=q7;exact ⟨x7,σ7,H7,I7.unpinned,r7,q7⟩
end
theorem J2r {c:TT}{tb:TS}{D:Ends}{σ:St}{H:Hp}(Pv:St->Hp->Prop)(μ:St->Hp->Nat)(h0:Pv σ H)
 (hs:∀ σ H,Pv σ H->c σ H fun b H1=>if b=true then tb { D with nx:=fun σ' H'=>Pv σ' H'/\μ σ' H'<μ σ H,ct:=fun σ' H'=>Pv σ' H'/\μ σ' H'<μ σ H,bk:=D.nx } σ H1 else D.nx σ H1)
 (mono:∀ σ H Q Q',(∀ b H1,Q b H1->Q' b H1)->c σ H Q->c σ H Q'):J2v c tb D σ H:=by
 refine ⟨fun m σ H=>m=μ σ H/\Pv σ H,⟨_,rfl,h0⟩,?_⟩
 rintro m σ H ⟨rfl,p⟩
 refine mono σ H _ _ (fun b H1 q=>?_) (hs σ H p)
 cases b with
 | true=>exact ⟨_,fun σ' H' ⟨p',l⟩=>⟨_,l,rfl,p'⟩,q⟩
 | false=>exact q
abbrev R2:=V->V->Hp->VK->Prop
def OpR (X:Cx)(f:Value->Value->Sem Value)(r:R2):Prop :=
 ∀ (pins:List (Addr×Obj)) (s:Shared) (σ:St) (H:Hp) (x y:V) (v u:Value) (Q:VK),Inv X pins σ H s->RelV x v->RelV y u->r x y H Q ->
  wpAny (model X.prog X.w) X.A (f v u) (EP X pins σ Q) X.xe s
def UnR (X:Cx)(f:Value->Sem Value)(r:V->Hp->VK->Prop):Prop :=
 ∀ (pins:List (Addr×Obj)) (s:Shared) (σ:St) (H:Hp) (x:V) (v:Value) (Q:VK),Inv X pins σ H s->RelV x v->r x H Q ->
  wpAny (model X.prog X.w) X.A (f v) (EP X pins σ Q) X.xe s
def CD (X:Cx)(f:Value)(r:List V->Hp->VK->Prop):Prop :=
 ∀ (pins:List (Addr×Obj)) (s:Shared) (σ:St) (H:Hp) (xs:List V) (us:List Value) (Q:VK),Inv X pins σ H s->Vals xs us->r xs H Q ->
  wpAny (model X.prog X.w) X.A (call f us) (EP X pins σ Q) X.xe s
def Q9r (X:Cx)(r:V->Hp->(Bool->Hp->Prop)->Prop):Prop :=
 ∀ (pins:List (Addr×Obj)) (s:Shared) (σ:St) (H:Hp) (x:V) (v:Value) (Q:Bool->Hp->Prop),Inv X pins σ H s->RelV x v->r x H Q ->
  wpAny (model X.prog X.w) X.A (truthy v) (TP X pins σ Q) X.xe s
def tOp (r:R2)(ta tb:TE):TE:=fun σ H Q=>ta σ H fun x H1=>tb σ H1 fun y H2=>r x y H2 Q
def tUn (r:V->Hp->VK->Prop)(ta:TE):TE:=fun σ H Q=>ta σ H fun x H1=>r x H1 Q
def rI (C:Int->Int->Prop)(g:Int->Int->V):R2:=fun x y H Q=>∃ i j,x=.int i/\y=.int j/\C i j/\Q (g i j) H
def rI0 (g:Int->Int->V):R2:=fun x y H Q=>∃ i j,x=.int i/\y=.int j/\Q (g i j) H
def rU (g:Int->V):V->Hp->VK->Prop:=fun x H Q=>∃ i,x=.int i/\Q (g i) H
section
variable {X:Cx}{a b:Expr}{ta tb:TE}{pos:Pos}
theorem Q5i (ha:PE X a ta)(hb:PE X b tb){pins:List (Addr×Obj)}{s:Shared}{σ:St}{H:Hp}{R:V->V->Hp->Prop}(I:Inv X pins σ H s)
 (h:ta σ H fun x H1=>tb σ H1 fun y H2=>R x y H2) {Q:Value->Shared->Prop} {f:Value->Value->Sem Value}
 (hf:∀ v u s2 x y H2,Inv X pins σ H2 s2->RelV x v->RelV y u->R x y H2->wpAny (model X.prog X.w) X.A (f v u) Q X.xe s2) :
 wpAny (model X.prog X.w) X.A (eval a X.env) (fun v s₁=>wpAny (model X.prog X.w) X.A (eval b X.env) (fun u s₂=>wpAny (model X.prog X.w) X.A (f v u) Q X.xe s₂) X.xe s₁) X.xe s:=by
 refine thn (ha pins s σ H _ I h) fun v s1 ⟨x,H1,I1,r1,q1⟩=>?_
 refine thn (hb pins s1 σ H1 _ I1 q1) fun u s2 ⟨y,H2,I2,r2,q2⟩=>?_
 exact hf v u s2 x y H2 I2 r1 r2 q2
theorem DZ {op:Operator}{r:R2}(ho:OpR X (binaryOp op) r)(ha:PE X a ta)(hb:PE X b tb):PE X (.BinOp a op b pos) (tOp r ta tb):=by
 intro pins s σ H Q I h
 exact wpAny_BinOp (Q5i ha hb I h fun v u s2 x y H2 I2 rx ry q=>ho pins s2 σ H2 x y v u Q I2 rx ry q)
theorem Q6o {op:UnaryOp}{r:V->Hp->VK->Prop}(ho:UnR X (unaryOp op) r)(ha:PE X a ta):PE X (.UnaryOp op a pos) (tUn r ta):=by
 intro pins s σ H Q I h
 exact UnaryOp_ (thn (ha pins s σ H _ I h) fun v s1 ⟨x,H1,I1,r1,q1⟩=>ho pins s1 σ H1 x v Q I1 r1 q1)
theorem opI {f:Value->Value->Sem Value}{C:Int->Int->Prop}{g:Int->Int->Int}
 (rule:∀ (i j:Int) (t u:Tok) (s:Shared) (Q:Value->Shared->Prop) (E:Value->Shared->Prop),C i j->Q (.int (g i j) s.toks) { s with toks:=s.toks+1 }->wpAny (model X.prog X.w) X.A (f (.int i t) (.int j u)) Q E s) :
 OpR X f (rI C fun i j=>.int (g i j)):=by
 intro pins s σ H x y v u Q I rx ry h
 obtain ⟨i,j,rfl,rfl,hc,q⟩:=h
 obtain ⟨t,rfl⟩:=rx
 obtain ⟨t',rfl⟩:=ry
 exact rule i j t t' s _ _ hc ⟨.int (g i j),H,I.tok _,⟨_,rfl⟩,q⟩
theorem Q6s {f:Value->Value->Sem Value}{g:Int->Int->Int}
 (rule:∀ (i j:Int) (t u:Tok) (s:Shared) (Q:Value->Shared->Prop) (E:Value->Shared->Prop),Q (.int (g i j) s.toks) { s with toks:=s.toks+1 }->wpAny (model X.prog X.w) X.A (f (.int i t) (.int j u)) Q E s) :
 OpR X f (rI0 fun i j=>.int (g i j)):=by
 intro pins s σ H x y v u Q I rx ry h
 obtain ⟨i,j,rfl,rfl,q⟩:=h
 obtain ⟨t,rfl⟩:=rx
 obtain ⟨t',rfl⟩:=ry
 exact rule i j t t' s _ _ ⟨.int (g i j),H,I.tok _,⟨_,rfl⟩,q⟩
theorem J8d {f:Value->Value->Sem Value}{g:Int->Int->Bool}
 (rule:∀ (i j:Int) (t u:Tok) (s:Shared) (Q:Value->Shared->Prop) (E:Value->Shared->Prop),Q (.bool (g i j)) s->wpAny (model X.prog X.w) X.A (f (.int i t) (.int j u)) Q E s) :
 OpR X f (rI0 fun i j=>.bl (g i j)):=by
 intro pins s σ H x y v u Q I rx ry h
 obtain ⟨i,j,rfl,rfl,q⟩:=h
 obtain ⟨t,rfl⟩:=rx
 obtain ⟨t',rfl⟩:=ry
 exact rule i j t t' s _ _ ⟨.bl (g i j),H,I,rfl,q⟩
def Q9u (i j:Int):Prop:=0<=j/\j<=1000000/\i.natAbs<2 ^ 64
def CMul (i j:Int):Prop:=(-(2 ^ 64)<i/\i<2 ^ 64)\/(-(2 ^ 64)<j/\j<2 ^ 64)
theorem CMul.ok {i j:Int}(h:CMul i j):IntMulOk i j:=by
 rcases h with ⟨h1,h2⟩|⟨h1,h2⟩
 · exact .of_left (intBits_le_64 h1 h2)
 · exact .of_right (intBits_le_64 h1 h2)
theorem AS:OpR X (binaryOp .Add) (rI0 fun i j=>.int (i+j)):=Q6s fun _ _ _ _ _ _ _ q=>add_int q
theorem AR:OpR X (binaryOp .Sub) (rI0 fun i j=>.int (i - j)):=Q6s fun _ _ _ _ _ _ _ q=>sub_int q
theorem JK:OpR X (binaryOp .Mod) (rI (fun _ j=>0<j) fun i j=>.int (i % j)):=opI fun i j _ _ _ _ _ hc q=>by
 have h1:(0:Int)<j:=hc
 exact mod_int' (by omega) (by rw [Int.fmod_eq_emod_of_nonneg i (by omega)];exact q)
theorem J8c:OpR X (binaryOp .Mod) (rI (fun _ j=>j≠0) fun i j=>.int (i.fmod j)):=opI fun _ _ _ _ _ _ _ hc q=>mod_int' hc q
theorem WY:OpR X (binaryOp .Pow) (rI Q9u fun i j=>.int (i ^ j.toNat)):=opI fun _ _ _ _ _ _ _ hc q=>pow_int_small hc.1 hc.2.1 hc.2.2 q
theorem unI {f:Value->Sem Value}{g:Int->Int}
 (rule:∀ (i:Int) (t:Tok) (s:Shared) (Q:Value->Shared->Prop) (E:Value->Shared->Prop),Q (.int (g i) s.toks) { s with toks:=s.toks+1 }->wpAny (model X.prog X.w) X.A (f (.int i t)) Q E s) :
 UnR X f (rU fun i=>.int (g i)):=by
 intro pins s σ H x v Q I rx h
 obtain ⟨i,rfl,q⟩:=h
 obtain ⟨t,rfl⟩:=rx
 exact rule i t s _ _ ⟨.int (g i),H,I.tok _,⟨_,rfl⟩,q⟩
theorem Q1v:UnR X (unaryOp .USub) (rU fun i=>.int (-i)):=unI fun _ _ _ _ _ q=>neg_int q
end
def Q6i:V->V->Bool
 | .non,.non=>true|.non,.int _=>true|.int _,.non=>true|.non,.bl _=>true|.bl _,.non=>true|.non,.str _=>true|.str _,.non=>true
 | .int _,.int _=>true|.bl _,.bl _=>true|.str _,.str _=>true|.byt _,.byt _=>true
 | .int _,.str _=>true|.str _,.int _=>true|.bl _,.str _=>true|.str _,.bl _=>true
 | _,_=>false
def rEq:R2:=fun x y H Q=>Q6i x y=true/\Q (.bl (decide (x=y))) H
def rNe:R2:=fun x y H Q=>Q6i x y=true/\Q (.bl (!decide (x=y))) H
theorem ZS {i j:Int}:decide (V.int i=V.int j)=(i==j):=by
 rw [Bool.eq_iff_iff]
 simp
theorem J5j {i j:Bool}:decide (V.bl i=V.bl j)=(i==j):=by
 rw [Bool.eq_iff_iff]
 simp
theorem ZR {i j:Str}:decide (V.str i=V.str j)=(i==j):=by
 rw [Bool.eq_iff_iff]
 simp
theorem ZT {i j:Array UInt8}:decide (V.byt i=V.byt j)=(i.toList==j.toList):=by
 rw [Bool.eq_iff_iff]
 cases i
 cases j
 simp
section
variable {X:Cx}{a b c:Expr}{ta tb tc:TE}{pos:Pos}
theorem Z4 {pins:List (Addr×Obj)}{σ:St}{H:Hp}{s:Shared}{Q:VK}{k k':Bool}(I:Inv X pins σ H s)(q:Q (.bl k) H)(e:k=k'):EP X pins σ Q (.bool k') s:=by
 subst e
 exact ⟨.bl k,H,I,rfl,q⟩
theorem FJ:OpR X (compareOp .Eq) rEq:=by
 intro pins s σ H x y v u Q I rx ry h
 obtain ⟨hs,q⟩:=h
 cases x with
 | non =>
   cases rx
   cases y with
   | non=>cases ry;exact PySem.EqNone.eq_none_none (Z4 I q (by simp))
   | bl j=>cases ry;exact PySem.EqNone.eq_none_bool (Z4 I q (by simp))
   | int j=>obtain ⟨t',rfl⟩:=ry;exact PySem.EqNone.eq_none_int (Z4 I q (by simp))
   | str j=>obtain ⟨t',rfl⟩:=ry;exact PySem.EqNone.eq_none_str (Z4 I q (by simp))
   | _=>exact absurd (show false=true from hs) Bool.false_ne_true
 | bl i =>
   cases rx
   cases y with
   | non=>cases ry;exact PySem.EqNone.eq_bool_none (Z4 I q (by simp))
   | bl j=>cases ry;exact eq_bool (Z4 I q J5j)
   | str j=>obtain ⟨t',rfl⟩:=ry;exact PySem.EqMixed.eq_bool_str (Z4 I q (by simp))
   | _=>exact absurd (show false=true from hs) Bool.false_ne_true
 | int i =>
   obtain ⟨t,rfl⟩:=rx
   cases y with
   | non=>cases ry;exact PySem.EqNone.eq_int_none (Z4 I q (by simp))
   | int j=>obtain ⟨t',rfl⟩:=ry;exact eq_int (Z4 I q ZS)
   | str j=>obtain ⟨t',rfl⟩:=ry;exact PySem.EqMixed.eq_int_str (Z4 I q (by simp))
   | _=>exact absurd (show false=true from hs) Bool.false_ne_true
 | str i =>
   obtain ⟨t,rfl⟩:=rx
   cases y with
   | non=>cases ry;exact PySem.EqNone.eq_str_none (Z4 I q (by simp))
   | bl j=>cases ry;exact PySem.EqMixed.eq_str_bool (Z4 I q (by simp))
   | int j=>obtain ⟨t',rfl⟩:=ry;exact PySem.EqMixed.eq_str_int (Z4 I q (by simp))
   | str j=>obtain ⟨t',rfl⟩:=ry;exact eq_str (Z4 I q ZR)
   | _=>exact absurd (show false=true from hs) Bool.false_ne_true
 | byt i =>
   obtain ⟨t,rfl⟩:=rx
   cases y with
   | byt j=>obtain ⟨t',rfl⟩:=ry;exact PySem.W.eq_bytes (Z4 I q ZT)
   | _=>exact absurd (show false=true from hs) Bool.false_ne_true
 | _=>cases y<;>exact absurd (show false=true from hs) Bool.false_ne_true
theorem J3s:OpR X (compareOp .NotEq) rNe:=by
 intro pins s σ H x y v u Q I rx ry h
 obtain ⟨hs,q⟩:=h
 cases x with
 | non =>
   cases rx
   cases y with
   | non=>cases ry;exact PySem.EqNone.ne_none_none (Z4 I q (by simp))
   | bl j=>cases ry;exact PySem.EqNone.ne_none_bool (Z4 I q (by simp))
   | int j=>obtain ⟨t',rfl⟩:=ry;exact PySem.EqNone.ne_none_int (Z4 I q (by simp))
   | str j=>obtain ⟨t',rfl⟩:=ry;exact PySem.EqNone.ne_none_str (Z4 I q (by simp))
   | _=>exact absurd (show false=true from hs) Bool.false_ne_true
 | bl i =>
   cases rx
   cases y with
   | non=>cases ry;exact PySem.EqNone.ne_bool_none (Z4 I q (by simp))
   | bl j=>cases ry;exact ne_bool (Z4 I q (congrArg not J5j))
   | str j=>obtain ⟨t',rfl⟩:=ry;exact PySem.EqMixed.ne_bool_str (Z4 I q (by simp))
   | _=>exact absurd (show false=true from hs) Bool.false_ne_true
 | int i =>
   obtain ⟨t,rfl⟩:=rx
   cases y with
   | non=>cases ry;exact PySem.EqNone.ne_int_none (Z4 I q (by simp))
   | int j=>obtain ⟨t',rfl⟩:=ry;exact ne_int (Z4 I q (congrArg not ZS))
   | str j=>obtain ⟨t',rfl⟩:=ry;exact PySem.EqMixed.ne_int_str (Z4 I q (by simp))
   | _=>exact absurd (show false=true from hs) Bool.false_ne_true
 | str i =>
   obtain ⟨t,rfl⟩:=rx
   cases y with
   | non=>cases ry;exact PySem.EqNone.ne_str_none (Z4 I q (by simp))
   | bl j=>cases ry;exact PySem.EqMixed.ne_str_bool (Z4 I q (by simp))
   | int j=>obtain ⟨t',rfl⟩:=ry;exact PySem.EqMixed.ne_str_int (Z4 I q (by simp))
   | str j=>obtain ⟨t',rfl⟩:=ry;exact ne_str (Z4 I q (congrArg not ZR))
   | _=>exact absurd (show false=true from hs) Bool.false_ne_true
 | byt i =>
   obtain ⟨t,rfl⟩:=rx
   cases y with
   | byt j=>obtain ⟨t',rfl⟩:=ry;exact PySem.W.ne_bytes (Z4 I q (congrArg not ZT))
   | _=>exact absurd (show false=true from hs) Bool.false_ne_true
 | _=>cases y<;>exact absurd (show false=true from hs) Bool.false_ne_true
theorem GC:OpR X (compareOp .Lt) (rI0 fun i j=>.bl (decide (i<j))):=J8d fun _ _ _ _ _ _ _ q=>lt_int q
theorem ZE:OpR X (compareOp .LtE) (rI0 fun i j=>.bl (decide (i<=j))):=J8d fun _ _ _ _ _ _ _ q=>le_int q
theorem J3t:OpR X (compareOp .Gt) (rI0 fun i j=>.bl (decide (j<i))):=J8d fun _ _ _ _ _ _ _ q=>gt_int q
theorem J3u:OpR X (compareOp .GtE) (rI0 fun i j=>.bl (decide (j<=i))):=J8d fun _ _ _ _ _ _ _ q=>ge_int q
theorem Q2v:OpR X (compareOp .Is) (fun x y H Q=>y=.non/\Q (.bl (decide (x=.non))) H):=by
 intro pins s σ H x y v u Q I rx ry h
 obtain ⟨rfl,q⟩:=h
 cases ry
 refine is_none_gen (Z4 I q ?_)
 cases x<;>first
  | (cases rx;rfl)
  | (obtain ⟨t,rfl⟩:=rx;rfl)
theorem V7 (b:Expr){op:CmpOp}(h:op≠.In:=by decide)(h2:op≠.NotIn:=by decide):behindInMarks op b=false:=by
 have e1:(op==CmpOp.In)=false:=by cases op<;>first|rfl|exact absurd rfl h
 have e2:(op==CmpOp.NotIn)=false:=by cases op<;>first|rfl|exact absurd rfl h2
 cases b<;>simp [behindInMarks,e1,e2]
theorem J8a {op:CmpOp}{r:R2}(ho:OpR X (compareOp op) r)(ha:PE X a ta)(hb:PE X b tb)(hm:behindInMarks op b=false):PE X (.Compare a [op] [b] pos) (tOp r ta tb):=by
 intro pins s σ H Q I h
 exact wpAny_Compare1 (Q5i ha hb I h fun v u s2 x y H2 I2 rx ry q=>ho pins s2 σ H2 x y v u Q I2 rx ry q) hm
def Q5x (t:TE):TT:=fun σ H Q=>t σ H fun x H'=>∃ k,x=.bl k/\Q k H'
theorem KD {op:CmpOp}{r:R2}(ho:OpR X (compareOp op) r)(ha:PE X a ta)(hb:PE X b tb)(hm:behindInMarks op b=false):PT X (.Compare a [op] [b] pos) (Q5x (tOp r ta tb)):=by
 intro pins s σ H Q I h
 refine wpAny_isTrue_Compare1 (thn (ha pins s σ H _ I h) fun v s1 ⟨x,H1,I1,r1,q1⟩=>thn (hb pins s1 σ H1 _ I1 q1) fun u s2 ⟨y,H2,I2,r2,q2⟩ =>
  thn (ho pins s2 σ H2 x y v u _ I2 r1 r2 q2) fun c s3 ⟨z,H3,I3,r3,k,e,q3⟩=>?_) hm
 subst e
 cases r3
 exact wpAny_truthy_bool ⟨H3,I3,q3⟩
def Q2a (r r':R2)(ta tb tc:TE):TE:=fun σ H Q=>ta σ H fun x H1=>tb σ H1 fun y H2=>r x y H2 fun z H3=>∃ k,z=.bl k /\
 (if k=true then tc σ H3 fun w' H4=>r' y w' H4 Q else Q (.bl false) H3)
theorem J3q {op op':CmpOp}{r r':R2}(ho:OpR X (compareOp op) r)(ho':OpR X (compareOp op') r')(ha:PE X a ta)(hb:PE X b tb)(hc:PE X c tc)
 (hm:lastMarks [op,op'] [b,c]=false:=by with_unfolding_all rfl):PE X (.Compare a [op,op'] [b,c] pos) (Q2a r r' ta tb tc):=by
 intro pins s σ H Q I h
 refine Compare_chain (thn (ha pins s σ H _ I h) fun v s1 ⟨x,H1,I1,r1,q1⟩=>chain_link (thn (hb pins s1 σ H1 _ I1 q1) fun u s2 ⟨y,H2,I2,r2,q2⟩ =>
  thn (ho pins s2 σ H2 x y v u _ I2 r1 r2 q2) fun d s3 ⟨z,H3,I3,r3,k,e,q3⟩=>?_)) hm
 subst e
 cases r3
 refine wpAny_truthy_bool ?_
 cases k with
 | false=>exact ite_ff ⟨.bl false,H3,I3,rfl,q3⟩
 | true=>exact ite_tt (chain_last (thn (hc pins s3 σ H3 _ I3 q3) fun w' s4 ⟨z',H4,I4,r4,q4⟩=>ho' pins s4 σ H4 y z' u w' Q I4 r2 r4 q4))
def Q5l (K:Fg)(x:V)(H:Hp)(k:Bool):Prop :=
 match x with
 | .non=>k=false
 | .bl b=>k=b
 | .int i=>k=(i != 0)
 | .str y=>y.length<=sizeLine/\k=((y.length:Int)!=0)
 | .byt y=>y.size<=sizeLine/\k=((y.size:Int)!=0)
 | .ref p=>(∃ xs,SqL K H p xs/\k = !xs.isEmpty)\/(∃ xs,SqT K H p xs/\k = !xs.isEmpty)\/∃ kvs,H p=some (.dK kvs)/\k = !kvs.isEmpty
 | _=>False
theorem XY {κ:Type}{kvs:List (κ×V)}{vs:List (κ×Value)}(r:KV kvs vs):(!vs.isEmpty) = !kvs.isEmpty:=by
 cases r<;>rfl
theorem OQ {xs:List V}{its:List Value}(r:Vals xs its):(!its.toArray.isEmpty) = !xs.isEmpty:=by
 cases r<;>simp
theorem LR:(sizeLine:Nat)<2 ^ 63:=by rw [sizeLine_eq];decide
theorem Q1w:Q9r X (fun x H Q=>∃ k,Q5l X.K x H k/\Q k H):=by
 intro pins s σ H x v Q I rx h
 obtain ⟨k,e,q⟩:=h
 have hl:=LR
 have hs:sizeLine=16777216:=sizeLine_eq
 cases x with
 | non =>
   cases rx
   have e':k=false:=e
   subst e'
   exact truthy_none ⟨H,I,q⟩
 | bl b =>
   cases rx
   have e':k=b:=e
   subst e'
   exact wpAny_truthy_bool ⟨H,I,q⟩
 | int i =>
   obtain ⟨t,rfl⟩:=rx
   have e':k=(i != 0):=e
   subst e'
   exact PySem.P.truthy_int ⟨H,I,q⟩
 | str y =>
   obtain ⟨t,rfl⟩:=rx
   obtain ⟨hy,e'⟩:y.length<=sizeLine/\k=((y.length:Int)!=0):=e
   subst e'
   exact PySem.P.truthy_str (by omega) ⟨H,I.tok _,q⟩
 | byt y =>
   obtain ⟨t,rfl⟩:=rx
   obtain ⟨hy,e'⟩:y.size<=sizeLine/\k=((y.size:Int)!=0):=e
   subst e'
   exact PySem.W.truthy_bytes (by omega) ⟨H,I.tok _,q⟩
 | ref p =>
   cases rx
   have e':(∃ xs,SqL X.K H p xs/\k = !xs.isEmpty)\/(∃ xs,SqT X.K H p xs/\k = !xs.isEmpty)\/∃ kvs,H p=some (.dK kvs)/\k = !kvs.isEmpty:=e
   rcases e' with ⟨xs,hx,e'⟩|⟨xs,hx,e'⟩|⟨kvs,hx,e'⟩
   · subst e'
     obtain ⟨its,r,pl,hz⟩:=I.list hx
     have hlen:=r.length
     exact wpAny_truthy_list pl.isList (by simp only [List.size_toArray];omega) ⟨H,I.tok _,by rw [OQ r];exact q⟩
   · subst e'
     obtain ⟨its,r,pl,hz⟩:=I.tuple hx
     have hlen:=r.length
     exact truthy_tuple pl (by simp only [List.size_toArray];omega) ⟨H,I.tok _,by rw [OQ r];exact q⟩
   · subst e'
     obtain ⟨hz,hS,vs,r,m⟩:kvs.length<=sizeLine/\(p==sysModules)=false/\∃ vs,KV kvs vs/\s.heap.DictOf (SG X.prog X.w) p vs:=I.hok p _ hx
     have hlen:kvs.length=vs.length:=Paired.length r
     exact wpAny_truthy_dict hS m (by omega) ⟨H,I.tok _,by rw [XY r];exact q⟩
 | _=>exact (show False from e).elim
theorem J3h (ha:PE X a ta)(he:∀ whole,isTrue a X.env whole=(do let v <- whole;standAt a.pos;holding [v] (truthy v))) :
 PT X a (fun σ H Q=>ta σ H fun x H'=>∃ k,Q5l X.K x H' k/\Q k H'):=by
 intro pins s σ H Q I h
 exact isTrue_plain (thn (ha pins s σ H _ I h) fun v s1 ⟨x,H1,I1,r1,q1⟩=>Q1w pins s1 σ H1 x v Q I1 r1 q1) (he _)
theorem JY {x:V}{us:List Value}(r:Vals [x] us):∃ u,us=[u]/\RelV x u:=by
 cases r with
 | cons r1 r2=>cases r2;exact ⟨_,rfl,r1⟩
theorem QI {x y:V}{us:List Value}(r:Vals [x,y] us):∃ u w',us=[u,w']/\RelV x u/\RelV y w':=by
 cases r with
 | cons r1 r2 =>
   cases r2 with
   | cons r3 r4=>cases r4;exact ⟨_,_,rfl,r1,r3⟩
theorem VX:CD X (.builtin "abs") (fun xs H Q=>∃ i,xs=[.int i]/\Q (.int (if i<0 then -i else i)) H):=by
 intro pins s σ H xs us Q I r h
 obtain ⟨i,rfl,q⟩:=h
 obtain ⟨u,rfl,t,rfl⟩:=JY r
 exact call_abs_int fun u tk=>⟨.int (if i<0 then -i else i),H,I.tok _,⟨_,rfl⟩,q⟩
theorem IS (hc:X.calm=true):CD X (.builtin "max") (fun xs H Q=>∃ i j,xs=[.int i,.int j]/\Q (.int (if j>i then j else i)) H):=by
 intro pins s σ H xs us Q I r h
 obtain ⟨i,j,rfl,q⟩:=h
 obtain ⟨u,w',rfl,⟨t,rfl⟩,⟨t',rfl⟩⟩:=QI r
 refine max_two_ints (I.ok.hd hc) fun h' tk k=>⟨_,H,I.kept k,?_,q⟩
 by_cases hj:j>i
 · rw [if_pos hj,if_pos hj];exact ⟨_,rfl⟩
 · rw [if_neg hj,if_neg hj];exact ⟨_,rfl⟩
theorem CV (hc:X.calm=true):CD X (.builtin "min") (fun xs H Q=>∃ i j,xs=[.int i,.int j]/\Q (.int (if j<i then j else i)) H):=by
 intro pins s σ H xs us Q I r h
 obtain ⟨i,j,rfl,q⟩:=h
 obtain ⟨u,w',rfl,⟨t,rfl⟩,⟨t',rfl⟩⟩:=QI r
 refine min_two_ints (I.ok.hd hc) fun h' tk k=>⟨_,H,I.kept k,?_,q⟩
 by_cases hj:j<i
 · rw [if_pos hj,if_pos hj];exact ⟨_,rfl⟩
 · rw [if_neg hj,if_neg hj];exact ⟨_,rfl⟩
theorem MD:CD X (.type "int") (fun xs H Q=>(∃ i,xs=[.int i]/\Q (.int i) H)\/∃ k,xs=[.bl k]/\Q (.int (if k then 1 else 0)) H):=by
 intro pins s σ H xs us Q I r h
 rcases h with ⟨i,rfl,q⟩|⟨k,rfl,q⟩
 · obtain ⟨u,rfl,t,rfl⟩:=JY r
   exact call_int_int ⟨.int i,H,I,⟨_,rfl⟩,q⟩
 · obtain ⟨u,rfl,r1⟩:=JY r
   cases r1
   exact call_int_bool ⟨.int (if k then 1 else 0),H,I.tok _,⟨_,rfl⟩,q⟩
end
structure ObjM (h:Heap)(x dx C:Addr)(mA:Str->Option Value):Prop where
 obj:h.get? x=some (PySem.W.instObj C dx)
 ns:h.Ns1 dx mA
 ne:dx≠x
theorem J1p {h:Heap}{dx:Addr}{mA:Str->Option Value}(n:h.Ns1 dx mA):∃ od,h.get? dx=some od/\∀ name,PySem.W.lookIn name od=some (mA name):=by
 obtain ⟨o,es,ep,ho,hd,hk,_,hm⟩:=n
 refine ⟨o,ho,fun name=>?_⟩
 have e:=hm name
 unfold nsFind findBy at e
 rw [<- Array.find?_toList] at e
 unfold PySem.W.lookIn
 rw [hd]
 dsimp only
 split
 · rename_i y q
   rw [q] at e
   exact congrArg some e
 · rename_i q
   rw [q] at e
   have a:es.toList.any (·.refKey)=false:=by
    rw [List.any_eq_false]
    intro y hy
    obtain ⟨z,t,hkey⟩:=hk y (Array.mem_toList_iff.mp hy)
    simp [DictEntry.refKey,hkey]
   have a':¬ es.toList.any (·.refKey)=true:=by rw [a];exact Bool.false_ne_true
   rw [if_neg a']
   exact congrArg some e
theorem ObjM.look {h:Heap}{x dx C:Addr}{mA:Str->Option Value}(I:ObjM h x dx C mA):∃ od,PySem.W.InstAt h x (PySem.W.instObj C dx) C (some od)/\∀ name,PySem.W.lookIn name od=some (mA name) :=
 let ⟨od,ho,hl⟩:=J1p I.ns
 ⟨od,⟨I.obj,rfl,rfl,ho⟩,hl⟩
section
variable {P:Program}{w:World}{H:Hp}{h:Heap}{a C dx:Addr}{fs:List (Str×V)}
theorem J8x (hok:HOk P w H h)(e:H a=some (.ins C dx fs)):∃ mA,ObjM h a dx C mA/\(∀ f,Q5n (fs.lookup f) (mA f))/\PySem.Within mA (fs.map (·.1))/\fs.length<=1000/\H dx=some (.own a):=by
 obtain ⟨d,z,ne,ob,mA,n,r,q⟩:=(show ObjOk P w H h a (.ins C dx fs) from hok a _ e)
 exact ⟨mA,⟨ob,n,ne⟩,r,q,z,d⟩
end
structure Cls (K:Fg)(C:Addr):Prop where
 pg:PySem.W.plainGet K C Str.empty=true
 hd:PySem.W.hasDictIn K C=true
 po:PySem.W.plainOver K C=true
 sa:PySem.W.findIn K (.ref C) "__setattr__" = some (some (.builtin "object.__setattr__"))
theorem Cls.get {C:Addr}(c:Cls K C)(f:Str):PySem.W.plainGet K C f=true:=c.pg
def Q5q (K:Fg)(C:Addr)(f:Str):Prop:=PySem.W.findIn K (.ref C) f=some none
def Q9x (K:Fg)(ta:TE)(f:Str):TE:=fun σ H Q=>ta σ H fun x H1=>∃ a C dx fs v,x=.ref a/\H1 a=some (.ins C dx fs)/\Cls K C/\Q5q K C f/\fs.lookup f=some v/\Q v H1
section
variable {X:Cx}{pins:List (Addr×Obj)}{σ:St}{H:Hp}{s:Shared}{A:Around}{E:Value->Shared->Prop}{Q:Value->Shared->Prop}{c:Value}{b:Bool}
inductive TyOf (K:Fg)(H:Hp):V->Value->Prop where
 | non:TyOf K H .non (.type "NoneType")
 | bl (x:Bool):TyOf K H (.bl x) (.type "bool")
 | int (i:Int):TyOf K H (.int i) (.type "int")
 | str (x:Str):TyOf K H (.str x) (.type "str")
 | flt (x:UInt64):TyOf K H (.flt x) (.type "float")
 | lst {a:Addr} {xs:List V} (e:H a=some (.lst xs)):TyOf K H (.ref a) (.type "list")
 | frz {a:Addr} {o:Obj} {xs:List V} (e:H a=some (.frz o (.lst xs))):TyOf K H (.ref a) (.type "list")
 | tup {a:Addr} {xs:List V} (e:H a=some (.tup xs)):TyOf K H (.ref a) (.type "tuple")
 | dK {a:Addr} {kvs:List (Key×V)} (e:H a=some (.dK kvs)):TyOf K H (.ref a) (.type "dict")
 | dT {a:Addr} {kvs:List (List Key×V)} (e:H a=some (.dT kvs)):TyOf K H (.ref a) (.type "dict")
 | ins {a C dx:Addr} {fs:List (Str×V)} (e:H a=some (.ins C dx fs)) (cl:Cls K C) (ha:PySem.W.findIn K (.ref C) "__class__" = some (some (.builtin "object.__class__")))
  (hn:PySem.W.specialIn K (.builtin "object.__class__") "__get__" = some (some (.builtin "getset_descriptor.__get__"))) (htk:PySem.W.takesIn K (.builtin "object.__class__")=some true)
  (hm:PySem.W.mroIn K C (.type "object")=some true):TyOf K H (.ref a) (.ref C)
theorem J1v {x:V}{u t:Value}(I:Inv X pins σ H s)(rx:RelV x u)(ty:TyOf X.K H x t)(e:PySem.W.kitOne X.K t c=some b)(h:∀ tk,Q (.bool b) { s with toks:=tk }) :
 wpAny (model X.prog X.w) A (call (.builtin "isinstance") [u,c]) Q E s:=by
 cases ty with
 | non=>cases (show u=Value.none from rx);exact PySem.W.kia_one PySem.W.kitx_none I.kIn True.intro e (fun z=>nomatch z) h
 | bl y=>cases (show u=Value.bool y from rx);exact PySem.W.kia_one PySem.W.kitx_bool I.kIn True.intro e (fun z=>nomatch z) h
 | int i=>obtain ⟨t,q⟩:=(show ∃ t,u=Value.int i t from rx);cases q;exact PySem.W.kia_one PySem.W.kitx_int I.kIn True.intro e (fun z=>nomatch z) h
 | str y=>obtain ⟨t,q⟩:=(show ∃ t,u=Value.str y t from rx);cases q;exact PySem.W.kia_one PySem.W.kitx_str I.kIn True.intro e (fun z=>nomatch z) h
 | flt y=>obtain ⟨t,q⟩:=(show ∃ t,u=Value.float y t from rx);cases q;exact PySem.W.kia_one PySem.W.kitx_float I.kIn True.intro e (fun z=>nomatch z) h
 | @lst a xs ea =>
   cases (show u=Value.ref a from rx)
   obtain ⟨_,_,n,_,h1⟩:=(show ObjOk X.prog X.w H s.heap a (.lst xs) from I.hok a _ ea)
   exact PySem.W.kia_one PySem.W.kitx_list I.kIn ⟨_,h1,rfl⟩ e (fun z=>nomatch z) h
 | @frz a ob xs ea =>
   cases (show u=Value.ref a from rx)
   obtain ⟨_,_,_,n,_,h1⟩:=(show ObjOk X.prog X.w H s.heap a (.frz ob (.lst xs)) from I.hok a _ ea)
   exact PySem.W.kia_one PySem.W.kitx_list I.kIn ⟨_,h1,rfl⟩ e (fun z=>nomatch z) h
 | @tup a xs ea =>
   cases (show u=Value.ref a from rx)
   obtain ⟨_,_,_,p⟩:=(show ObjOk X.prog X.w H s.heap a (.tup xs) from I.hok a _ ea)
   obtain ⟨o,h1,h2,_⟩:=p
   exact PySem.W.kia_one PySem.W.kitx_tuple I.kIn ⟨o,h1,h2⟩ e (fun z=>nomatch z) h
 | @dK a kvs ea =>
   cases (show u=Value.ref a from rx)
   obtain ⟨_,_,vs,_,p⟩:=(show ObjOk X.prog X.w H s.heap a (.dK kvs) from I.hok a _ ea)
   obtain ⟨o,es,ep,h1,h2,_⟩:=p
   exact PySem.W.kia_one PySem.W.kitx_dict I.kIn ⟨o,h1,h2.1⟩ e (fun z=>nomatch z) h
 | @dT a kvs ea =>
   cases (show u=Value.ref a from rx)
   obtain ⟨_,_,xs,_,o,es,ep,h1,h2,_⟩:=(show ObjOk X.prog X.w H s.heap a (.dT kvs) from I.hok a _ ea)
   exact PySem.W.kia_one PySem.W.kitx_dict I.kIn ⟨o,h1,h2.1⟩ e (fun z=>nomatch z) h
 | @ins a C dx fs ea cl ha hn htk hm =>
   cases (show u=Value.ref a from rx)
   obtain ⟨mA,O,_⟩:=J8x I.hok ea
   obtain ⟨od,J,_⟩:=O.look
   exact PySem.W.kia_one (PySem.W.kitx_own (cl.get _) cl.hd ha hn htk hm) I.kIn J e (fun z=>nomatch z) h
end
structure Room (k:Nat)(A:Around):Prop where
 hd:A.handled=none
 dp:A.depth+3*k+5<recursionLimit
 un:A.units+16*k+200<cLine
theorem Room.mono {j k:Nat}{A:Around}(r:Room k A)(h:j<=k):Room j A:=⟨r.hd,by have:=r.dp;omega,by have:=r.un;omega⟩
theorem Room.deeper {k:Nat}{A:Around}(r:Room (k+1) A)(env:Env):Room k (A.deeper env) :=
 ⟨r.hd,by have:=r.dp;show A.depth+1+3*k+5<_;omega,by have:=r.un;show A.units+3+16*k+200<_;omega⟩
theorem Room.depth {k:Nat}{A:Around}(r:Room k A):A.depth<recursionLimit:=by have:=r.dp;omega
theorem Room.units {k:Nat}{A:Around}(r:Room k A):A.units+64<cLine:=by have:=r.un;omega
def Q1y:TA:=fun _ H Q=>Q [] H
def Q0n (ta:TE)(tr:TA):TA:=fun σ H Q=>ta σ H fun x H1=>tr σ H1 fun xs H2=>Q (x::xs) H2
section
variable {X:Cx}{e:Expr}{es:List Expr}{te:TE}{t:TA}{pos:Pos}
theorem JJ:PA X [] Q1y:=fun _ _ _ _ H Q I h=>Calls.spliced_nil ⟨[],H,I,.nil,h⟩
theorem BS (ha:PE X e te)(hr:PA X es t)(hs:starEach (e::es) X.env=(false,eval e X.env)::starEach es X.env:=by rfl):PA X (e::es) (Q0n te t):=by
 intro pos pins s σ H Q I h
 rw [hs]
 show wpAny _ _ (spliced ((false,eval e X.env)::backTo pos (starEach es X.env))) _ _ s
 refine Calls.spliced_cons (thn (ha pins s σ H _ I h) fun u s1 ⟨x,H1,I1,r1,q1⟩=>?_)
 exact thn (hr pos pins s1 σ H1 _ I1 q1) fun us s2 ⟨xs,H2,I2,r2,q2⟩=>⟨x::xs,H2,I2,.cons r1 r2,q2⟩
def Q5v (t:TA):TE:=fun σ H Q=>t σ H fun xs H1=>xs.length<=sizeLine/\∀ p,H1 p=none->Q (.ref p) (upd H1 p (.tup xs))
def Q8w (t:TA):TE:=fun σ H Q=>t σ H fun xs H1=>xs.length<=sizeLine/\∀ p,H1 p=none->Q (.ref p) (upd H1 p (.lst xs))
theorem J3n {x1}(h:PA X es t):PE X (.Tuple es x1 pos) (Q5v t):=by
 intro pins s σ H Q I hq
 refine wpAny_Tuple_spliced (thn (h pos pins s σ H _ I hq) fun us s1 ⟨xs,H1,I1,r,z,q⟩=>⟨by rw [<- r.length];exact z,?_⟩)
 have hf:H1 s1.heap.objs.size=none:=I1.hok.fresh (Nat.le_refl _)
 refine ⟨.ref s1.heap.objs.size,upd H1 s1.heap.objs.size (.tup xs),I1.laid (t':=s1.toks) (fun b u e=>B4 _ e) (Nat.le_refl _) ?_,rfl,q _ hf⟩
 exact ⟨z,us,r,⟨_,Heap.get?_push_size _ rfl,rfl,_,rfl⟩⟩
theorem WV (h:PA X es t):PE X (.List es pos) (Q8w t):=by
 intro pins s σ H Q I hq
 refine wpAny_List_spliced (thn (h pos pins s σ H _ I hq) fun us s1 ⟨xs,H1,I1,r,z,q⟩=>⟨by rw [<- r.length];exact z,?_⟩)
 have hf:H1 s1.heap.objs.size=none:=I1.hok.fresh (Nat.le_refl _)
 refine ⟨.ref s1.heap.objs.size,upd H1 s1.heap.objs.size (.lst xs),I1.laid (t':=s1.toks) (fun b u e=>B4 _ e) (Nat.le_refl _) ?_,rfl,q _ hf⟩
 exact ⟨z,us,0,r,Heap.get?_push_size _ rfl⟩
end
abbrev Sp:=List V->Hp->VK->XK->Prop
abbrev CXT:=List Env->Hp->Shared->XK->Value->Shared->Prop
structure Env0 (P:Program)(w:World)(K:Fg)(mg:Str->Option Value)(base:Heap)(A:Around)(outer:List Env)(s:Shared)(H:Hp):Prop where
 frames:A.frames=some outer
 mod:Mod K mg base
 bs:∀ b o,base.get? b=some o->s.heap.get? b=some o/\H b=none
 bsz:base.objs.size<=s.heap.objs.size
 funs:s.heap.FunFrames base outer
 frf:∀ b∈frs outer,H b=none
 hok:HOk P w H s.heap
 bare:AllBare s.gens
def CE (outer:List Env)(P:Program)(w:World)(H:Hp)(s:Shared)(Q:VK)(u:Value)(s':Shared):Prop :=
 ∃ v H',s'.os=s.os/\AllBare s'.gens/\Un (frs outer) [] H H' s.heap s'.heap/\HOk P w H' s'.heap/\RelV v u/\Q v H'
def CR (CX:CXT)(outer:List Env)(P:Program)(w:World)(H:Hp)(s:Shared)(Q:VK)(E:XK)(r:Result)(s':Shared):Prop :=
 match r with
 | .ok (.ret u)=>CE outer P w H s Q u s'
 | .ok _=>False
 | .error e=>CX outer H s E e s'
structure FnOk (P:Program)(w:World)(K:Fg)(mg:Str->Option Value)(base:Heap)(CX:CXT)(k:Nat)(f:Addr)(fd:FuncData)(ps:List Str)(sp:Sp):Prop where
 len:∀ vs H Q E,sp vs H Q E->vs.length=ps.length
 run:∀ (A:Around) (outer:List Env) (s:Shared) (H:Hp) (args:Args) (us:List Value) (vs:List V) (Q:VK) (E:XK),Room k A->Env0 P w K mg base A outer s H->BindsTo s fd args (ps.zip us)->Vals vs us->sp vs H Q E ->
  codeAny (model P w) A (.call (.ref f) args) (CR CX outer P w H s Q E) s
theorem FnOk.imp {CX:CXT}{k:Nat}{f:Addr} {ps:List Str}{sp sp':Sp}(F:FnOk P w K mg base CX k f fd ps sp)
 (h:∀ vs H Q E,sp' vs H Q E->sp vs H Q E):FnOk P w K mg base CX k f fd ps sp' :=
 ⟨fun vs H Q E q=>F.len vs H Q E (h _ _ _ _ q),fun A outer s H args us vs Q E hr he hb hv hs=>F.run A outer s H args us vs Q E hr he hb hv (h _ _ _ _ hs)⟩
section
variable {X:Cx}{pins:List (Addr×Obj)}{σ:St}{H:Hp}{s s':Shared}
theorem Inv.env0 (I:Inv X pins σ H s):Env0 X.prog X.w X.K X.mg X.base X.A X.stack s H :=
 ⟨I.ok.frames,I.ok.mod,I.bs,Nat.le_trans I.ok.bsz I.sz,I.stack,I.stkFree,I.hok,I.bare⟩
theorem Inv.after {Q:VK}{u:Value}(I:Inv X pins σ H s)(h:CE X.stack X.prog X.w H s Q u s'):EP X pins σ Q u s':=by
 obtain ⟨v,H',os,bare,un,hok,r,q⟩:=h
 obtain ⟨hh,g,d,t,os'⟩:=s'
 obtain rfl:os'=s.os:=os
 exact ⟨v,H',I.call (h':=hh) (g':=g) (d':=d) (t':=t) (ch:=[]) un hok bare (fun b z=>absurd z (by simp)),r,q⟩
end
def QK (sp:Sp)(dvs:List V)(E:XK)(t:TA):TE:=fun σ H Q=>t σ H fun vs H1=>sp (vs++dvs) H1 Q E
def Q9v (C:Addr)(m:Str)(sp:Sp)(dvs:List V)(E:XK)(ta:TE)(t:TA):TE:=fun σ H Q=>ta σ H fun x H1=>∃ a dx fs,x=.ref a/\H1 a=some (.ins C dx fs)/\fs.lookup m=none /\
 t σ H1 fun vs H2=>sp (x::(vs++dvs)) H2 Q E
def Q9w (C:Addr)(sp:Sp)(dvs:List V)(E:XK)(t:TA):TE:=fun σ H Q=>t σ H fun vs H1=>∀ x dx,H1 x=none->H1 dx=none->dx≠x ->
 sp (.ref x::(vs++dvs)) (upd (upd H1 dx (.own x)) x (.ins C dx [])) (fun v H2=>v=.non/\Q (.ref x) H2) E
def Binds (K:Fg)(fd:FuncData)(ps:List Str)(ds:List Value):Prop :=
 ∀ (s:Shared) (us:List Value),K.In s.heap->(us++ds).length=ps.length->BindsTo s fd ⟨us,[]⟩ (ps.zip (us++ds))
theorem Binds.all {ps:List Str}(h:∀ us:List Value,us.length=ps.length->bindArgs fd ⟨us,[]⟩=pure (ps.zip us)):Binds K fd ps []:=fun s us _ hl=>by
 rw [List.append_nil] at hl ⊢
 exact .of_eq (h us hl)
def FF (CX:CXT)(X:Cx)(E:XK):Prop:=∀ (pins:List (Addr×Obj)) (σ:St) (H:Hp) (s:Shared) (e:Value) (s':Shared),Inv X pins σ H s->CX X.stack H s E e s'->X.xe e s'
section
variable {X:Cx}{CX:CXT}{k:Nat}{f:Addr}{fd:FuncData}{ps:List Str}{sp:Sp}{dvs:List V}{ds:List Value}{E:XK}{x:Str}{p pos:Pos}{e:Expr}{es:List Expr}{t:TA}
theorem Q2d {pins:List (Addr×Obj)}{σ:St}{H:Hp}{s:Shared}{Q:VK}{us:List Value}{vs:List V}(F:FnOk X.prog X.w X.K X.mg X.base CX k f fd ps sp)(hr:Room k X.A)(hb:Binds X.K fd ps ds)(hd:Vals dvs ds)(hx:FF CX X E)
 (I:Inv X pins σ H s) (r:Vals vs us) (h:sp (vs++dvs) H Q E):wpAny (model X.prog X.w) X.A (call (.ref f) us) (EP X pins σ Q) X.xe s:=by
 have r2:Vals (vs++dvs) (us++ds):=r.append hd
 have hl:(us++ds).length=ps.length:=by rw [<- r2.length];exact F.len _ _ _ _ h
 refine wpAny_call (codeAny_mono (F.run X.A X.stack s H ⟨us,[]⟩ (us++ds) (vs++dvs) Q E hr I.env0 (hb s us I.kIn hl) r2 h) fun r s' hq=>?_)
 cases r with
 | error e=>exact hx pins σ H s e s' I hq
 | ok fl =>
   cases fl with
   | ret u=>exact I.after hq
   | next=>exact False.elim hq
   | brk=>exact False.elim hq
   | cont=>exact False.elim hq
theorem ZC (F:FnOk X.prog X.w X.K X.mg X.base CX k f fd ps sp)(hr:Room k X.A)(hg:Gl X x)(hm:X.mg x=some (.ref f))(hk:PySem.W.keepIn X.K (.ref f)=true)(hb:Binds X.K fd ps ds)(hd:Vals dvs ds)(hx:FF CX X E)
 (ha:PA X (e::es) t) (hdb:(x==("__debug__" : Str))=false:=by decide) (he:starEach (e::es) X.env=(false,eval e X.env)::starEach es X.env:=by rfl) (hpl:(backTo pos (starEach es X.env)).any (·.1)=false:=by rfl) :
 PE X (.Call (.Name x p) (e::es) [] pos) (QK sp dvs E t):=by
 intro pins s σ H Q I h
 refine wpAny_Call_Name_kw (SI I hg hm ?_ hdb)
 refine PySem.W.callWith_K (h₀:=X.base) I.ok.mod.kin hk (thn (ha pos pins s σ H _ I h) fun us s1 ⟨vs,H1,I1,r,q⟩=>⟨I1.kIn,?_⟩) he hpl
 exact Q2d F hr hb hd hx I1 r q
end
structure FnScope (N P:List Str)(sc:Scope):Prop where
 kind:sc.kind=.function
 co:sc.isCoroutine=false
 gen:sc.isGenerator=false
 nd:N.Nodup
 pre:N.take P.length=P
 par:∀ x∈P,sc.names.lookup x=some .local\/sc.names.lookup x=some .cell
 nofree:∀ y∈sc.names,y.2≠.free
theorem RL {kindOf:Str->Option NameKind}{x:Str}:∀ {binds:List (Str×Value)} {m:Str->Option Value},(∀ v,(x,v)∉binds)->bindL kindOf binds m x=m x
 | [],_,_=>rfl
 | (n,v)::r,m,h=>by
   unfold bindL
   rw [RL fun w hw=>h w (List.mem_cons_of_mem _ hw)]
   split
   · have:x≠n:=by rintro rfl;exact h v List.mem_cons_self
     simp [this]
   · rfl
theorem RN {kindOf:Str->Option NameKind}{x:Str}:∀ {binds:List (Str×Value)} {m:Str->Option Value},(∀ v,(x,v)∉binds)->bindC kindOf binds m x=m x
 | [],_,_=>rfl
 | (n,v)::r,m,h=>by
   unfold bindC
   rw [RN fun w hw=>h w (List.mem_cons_of_mem _ hw)]
   split
   · rfl
   · have:x≠n:=by rintro rfl;exact h v List.mem_cons_self
     simp [this]
theorem RM {kindOf:Str->Option NameKind}{x:Str}{v:Value}:∀ {P:List Str} {vs:List Value} {i:Nat} {m:Str->Option Value},P.Nodup->P[i]?=some x->vs[i]?=some v->kindOf x=some .local ->
 bindL kindOf (P.zip vs) m x=some v
 | [],_,_,_,_,h,_,_=>by simp at h
 | _::_,[],_,_,_,_,h,_=>by simp at h
 | p::P,w::vs,0,m,nd,h1,h2,hk=>by
   simp at h1 h2;subst h1;subst h2
   show bindL kindOf ((p,w)::P.zip vs) m p=_
   unfold bindL
   rw [RL fun v hv=>(List.nodup_cons.mp nd).1 (List.of_mem_zip hv).1,if_pos hk]
   simp
 | p::P,w::vs,i+1,m,nd,h1,h2,hk=>by
   show bindL kindOf ((p,w)::P.zip vs) m x=_
   unfold bindL
   exact RM (i:=i) (List.nodup_cons.mp nd).2 (by simpa using h1) (by simpa using h2) hk
theorem RO {kindOf:Str->Option NameKind}{x:Str}{v:Value}:∀ {P:List Str} {vs:List Value} {i:Nat} {m:Str->Option Value},P.Nodup->P[i]?=some x->vs[i]?=some v->kindOf x≠some .local ->
 bindC kindOf (P.zip vs) m x=some v
 | [],_,_,_,_,h,_,_=>by simp at h
 | _::_,[],_,_,_,_,h,_=>by simp at h
 | p::P,w::vs,0,m,nd,h1,h2,hk=>by
   simp at h1 h2;subst h1;subst h2
   show bindC kindOf ((p,w)::P.zip vs) m p=_
   unfold bindC
   rw [RN fun v hv=>(List.nodup_cons.mp nd).1 (List.of_mem_zip hv).1,if_neg hk]
   simp
 | p::P,w::vs,i+1,m,nd,h1,h2,hk=>by
   show bindC kindOf ((p,w)::P.zip vs) m x=_
   unfold bindC
   exact RO (i:=i) (List.nodup_cons.mp nd).2 (by simpa using h1) (by simpa using h2) hk
def DM (N:List Str)(vs:List V):St:=vs.map some++List.replicate (N.length - vs.length) none
def V1 (CX:CXT)(P:Program)(w:World)(K:Fg)(mg:Str->Option Value)(base:Heap)(N:List Str)(qual:Str)(scope:Scope)(f:Addr)(cd:Value)(A:Around)(outer:List Env)(s:Shared)(H:Hp)(E:XK):Cx where
 prog:=P
 w:=w
 K:=K
 mg:=mg
 base:=base
 A:=A.deeper (envOfC qual scope s.heap.objs.size f cd)
 N:=N
 s₀:=s
 H₀:=H
 env:=envOfC qual scope s.heap.objs.size f cd
 outer:=outer
 stack:=envOfC qual scope s.heap.objs.size f cd::outer
 ex:=[]
 calm:=true
 fn:=fun _=>true
 pn:=[]
 xe:=fun e s'=>wpAny (model P w) (A.deeper (envOfC qual scope s.heap.objs.size f cd)) (leaving (envOfC qual scope s.heap.objs.size f cd) e) (fun _ s''=>CX outer H s E e s'') (fun e' s''=>CX outer H s E e' s'') s'
theorem VU {sc:Scope}{n:Nat}{x:Str}(h:sc.names.lookup x=some .cell):∃ c,(cellsFrom n sc.names []).lookup x=some c:=by
 have q:=PySem.W.cellsFrom_some sc.names n [] (.inl h)
 exact Option.isSome_iff_exists.mp q
theorem J1w {CX:CXT}{P:Program}{w:World}{K:Fg}{mg:Str->Option Value}{base:Heap}{N ps:List Str}{qual:Str}{scope:Scope}{f:Addr}{cd:Value}{A:Around}{outer:List Env}{s s1:Shared}{H:Hp}{E:XK}{us:List Value}{vs:List V}
 (S:FnScope N ps scope) (hd:A.handled=none) (e0:Env0 P w K mg base A outer s H) (hl:vs.length=ps.length) (r:Vals vs us)
 (x:InCallC s s.heap.objs.size (bindL (envOfC qual scope s.heap.objs.size f cd).kindOf (ps.zip us) fun _=>none) (cellsFrom (s.heap.objs.size+1) scope.names []) (bindC (envOfC qual scope s.heap.objs.size f cd).kindOf (ps.zip us) fun _=>none) s1) :
 Inv (V1 CX P w K mg base N qual scope f cd A outer s H E) [] (DM N vs) H s1:=by
 have hpl:ps.length<=N.length:=by have:=congrArg List.length S.pre;rw [List.length_take] at this;omega
 obtain ⟨h1,tk,rfl,hk⟩:=x.done
 have noA:∀ b:Addr,b∉(V1 CX P w K mg base N qual scope f cd A outer s H E).ex:=fun b z=>absurd (show b∈([]:List Addr) from z) (by simp)
 refine ⟨⟨e0.mod,S.kind,rfl,rfl,Nat.le_refl _,fun y z c h1 h2=>?_,fun y hy=>?_,fun y c _ h=>?_,fun _=>hd,Around.frames_deeper e0.frames,.inr ⟨rfl,rfl⟩,fun b z=>absurd z (noA b),e0.bs,e0.bsz,fun b _ _=>noA b,fun b z=>absurd z (noA b),e0.funs,e0.frf⟩,
  rfl,e0.bare,Un.kept hk,⟨_,x.toInCall.ns,fun i y v h1 h2 h3=>?_⟩,fun y c h=>⟨_,x.cell y c h⟩,e0.hok.fresh (Nat.le_refl _),fun y c h=>?_,fun p hp=>absurd (show p∈([]:List (Addr×Obj)) from hp) (by simp),e0.hok.kept hk,?_⟩
 · exact name_of_addr x.apart (PySem.mem_of_lookup h1) (PySem.mem_of_lookup h2)
 · have hy:scope.names.lookup y=some .cell\/scope.names.lookup y=some .free:=hy
   rcases hy with hy|hy
   · exact VU hy
   · exact absurd rfl (S.nofree _ (PySem.mem_of_lookup hy))
 · exact Nat.le_of_lt (x.above y c (PySem.mem_of_lookup h))
 · have hi:i<vs.length:=by
    unfold DM at h2
    by_cases hi:i<vs.length
    · exact hi
    · rw [List.getElem?_append_right (by simpa using hi)] at h2
      rw [List.getElem?_replicate] at h2
      split at h2<;>cases h2
   have ha:vs[i]?=some v:=by
    unfold DM at h2
    rw [List.getElem?_append_left (by simpa using hi),List.getElem?_map] at h2
    cases e:vs[i]? with
    | none=>rw [e] at h2;cases h2
    | some a=>rw [e] at h2;cases h2;rfl
   obtain ⟨u,hu,rv⟩:=r.get ha
   have hp:ps[i]?=some y:=by
    rw [<- S.pre,List.getElem?_take_of_lt (by omega)];exact h1
   have ndP:ps.Nodup:=by rw [<- S.pre];exact S.nd.sublist (List.take_sublist _ _)
   refine ⟨u,rv,?_⟩
   rcases S.par y (List.mem_of_getElem? hp) with k|k
   · exact .inl ⟨k,RM ndP hp hu k⟩
   · obtain ⟨c,e⟩:=VU (n:=s.heap.objs.size+1) k
     refine .inr ⟨.inl k,c,e,?_⟩
     have q:=x.cell y c e
     rw [RO ndP hp hu (by show scope.names.lookup y≠_;rw [k];decide)] at q
     exact q
 · exact e0.hok.fresh (Nat.le_of_lt (x.above y c (PySem.mem_of_lookup h)))
 · unfold DM
   show _=N.length
   rw [List.length_append,List.length_map,List.length_replicate]
   omega
theorem Q0x {CX:CXT}{P:Program}{w:World}{K:Fg}{mg:Str->Option Value}{base:Heap}{k:Nat}{f:Addr}{name qual:Str}{params:Arguments}{body:List Stmt}{scope:Scope}{dV kV doc pm cdv ct oc:Value}{an od:Option Addr}
 {osl:Array (Option Value)} {N ps:List Str} {sp:Sp} (lk:K.lookup f=some ⟨oc,od,.func (PySem.W.fnOf name qual params body scope dV kV doc pm an cdv ct),osl⟩) (hcd:PySem.W.codeIn K cdv qual=true) (S:FnScope N ps scope)
 (len:∀ vs H Q E,sp vs H Q E->vs.length=ps.length)
 (hbody:∀ (A:Around) (outer:List Env) (s:Shared) (H:Hp) (vs:List V) (Q:VK) (E:XK),Room k (A.deeper (envOfC qual scope s.heap.objs.size f cdv))->sp vs H Q E ->
  ∃ t,PSs (V1 CX P w K mg base N qual scope f cdv A outer s H E) body t/\t { nx:=fun _ H'=>Q .non H',rt:=Q } (DM N vs) H) :
 FnOk P w K mg base CX (k+1) f (PySem.W.fnOf name qual params body scope dV kV doc pm an cdv ct) ps sp:=by
 refine ⟨len,fun A outer s H args us vs Q E hr e0 hb r hsp=>?_⟩
 have hl:=len _ _ _ _ hsp
 have KX:K.In s.heap:=e0.mod.kin.keeps fun b o e=>(e0.bs b o e).1
 have lim:s.heap.NoLimit:=e0.mod.nolimit.keeps fun b o e=>(e0.bs b o e).1
 have hkind:∀ y∈ps.zip us,scope.names.lookup y.1=some .local\/(scope.names.lookup y.1=some .cell/\((cellsFrom (s.heap.objs.size+1) scope.names []).lookup y.1).isSome=true):=fun ⟨n,v⟩ hy=>by
  rcases S.par n (List.of_mem_zip hy).1 with q|q
  · exact .inl q
  · exact .inr ⟨q,PySem.W.cellsFrom_some _ _ _ (.inl q)⟩
 refine codeAny_call_function hr.depth (KX _ _ lk) rfl S.co S.gen rfl (PySem.W.codeRec_of KX hcd) (hb _ _ _ _ ?_)
 refine wpAny_newFunctionEnv_cells S.kind hkind fun env he s1 x=>?_
 subst he
 refine ⟨lim.keeps x.toInCall.keep,codeAny_func ?_⟩
 obtain ⟨t,ht,hq⟩:=hbody A outer s H vs Q E (hr.deeper _) hsp
 have I:Inv (V1 CX P w K mg base N qual scope f cdv A outer s H E) [] (DM N vs) H s1:=J1w S hr.hd e0 hl r x
 refine wpAny_mono (ht [] s1 (DM N vs) H _ I hq) (fun fl s' hs=>?_) fun e s' hs=>hs
 have fin:∀ {σ':St} {H':Hp} {v:V} {u:Value},Inv (V1 CX P w K mg base N qual scope f cdv A outer s H E) [] σ' H' s'->RelV v u->Q v H'->CE outer P w H s Q u s' :=
  fun {σ' H' v u} J rv q=>⟨v,H',J.os,J.bare,J.base,J.hok,rv,q⟩
 cases fl with
 | ret u =>
   obtain ⟨v,σ',H',J,rv,q⟩:=hs
   exact fin J rv q
 | next =>
   obtain ⟨σ',H',J,q⟩:=hs
   exact fin (v:=V.non) (u:=Value.none) J rfl q
 | brk =>
   obtain ⟨_,_,_,q⟩:=hs
   exact False.elim q
 | cont =>
   obtain ⟨_,_,_,q⟩:=hs
   exact False.elim q
section
variable {X:Cx}{x:Str}{p pos:Pos}{e:Expr}{es:List Expr}{t:TA}{id T:String}{r:List V->Hp->VK->Prop}
def tCB (r:List V->Hp->VK->Prop)(t:TA):TE:=fun σ H Q=>t σ H fun vs H1=>r vs H1 Q
theorem NU (hc:CD X (.builtin id) r)(hg:Gl X x)(hm:X.mg x=none)(hv:bootBuiltins x=some (.builtin id))(ha:PA X (e::es) t)(hn:x≠"__name__":=by decide) (hdb:(x==("__debug__" : Str))=false:=by decide)
 (he:starEach (e::es) X.env=(false,eval e X.env)::starEach es X.env:=by rfl) (hpl:(backTo pos (starEach es X.env)).any (·.1)=false:=by rfl):PE X (.Call (.Name x p) (e::es) [] pos) (tCB r t):=by
 intro pins s σ H Q I h
 refine wpAny_Call_Name_kw (GA I hg hm hv ?_ hn hdb)
 exact PyProof.Rows.callWith_builtin1 (thn (ha pos pins s σ H _ I h) fun us s1 ⟨vs,H1,I1,r1,q1⟩=>hc pins s1 σ H1 vs us Q I1 r1 q1) he hpl
theorem EO (hc:CD X (.type T) r)(hg:Gl X x)(hm:X.mg x=none)(hv:bootBuiltins x=some (.type T))(ha:PA X (e::es) t)(hn:x≠"__name__":=by decide) (hdb:(x==("__debug__" : Str))=false:=by decide)
 (he:starEach (e::es) X.env=(false,eval e X.env)::starEach es X.env:=by rfl) (hpl:(backTo pos (starEach es X.env)).any (·.1)=false:=by rfl):PE X (.Call (.Name x p) (e::es) [] pos) (tCB r t):=by
 intro pins s σ H Q I h
 refine wpAny_Call_Name_kw (GA I hg hm hv ?_ hn hdb)
 exact PyProof.Rows.callWith_type1 (thn (ha pos pins s σ H _ I h) fun us s1 ⟨vs,H1,I1,r1,q1⟩=>hc pins s1 σ H1 vs us Q I1 r1 q1) he hpl
end
end L2
namespace HT
open PySem PyProof.Rows
section
variable {prog:Program}{w:World}{A:Around}{E:Value->Shared->Prop}{s:Shared}
def sIx (n d:Nat):Option Int->Nat
 | none=>d
 | some v=>if v<0 then (v+(n:Int)).toNat else min v.toNat n
theorem Q2c (n d:Nat)(hd:d<=n)(o:Option Int):sIx n d o<=n:=by
 cases o with
 | none=>exact hd
 | some v =>
   show (if v<0 then (v+(n:Int)).toNat else min v.toNat n)<=n
   by_cases hv:v<0
   · rw [if_pos hv];omega
   · rw [if_neg hv];exact Nat.min_le_right _ _
theorem ZZ (v:Int)(n d:Nat):(if v<0 then max (v+(n:Int)) 0 else min v (n:Int))=((sIx n d (some v):Nat):Int):=by
 show (if v<0 then max (v+(n:Int)) 0 else min v (n:Int))=(((if v<0 then (v+(n:Int)).toNat else min v.toNat n):Nat):Int)
 by_cases hv:v<0
 · simp only [if_pos hv];omega
 · simp only [if_neg hv];omega
theorem YH (lo hi:Option Int)(n:Nat):Builtin.Slice.sliceAdjust lo hi 1 (n:Int)=(((sIx n 0 lo:Nat):Int),((sIx n n hi:Nat):Int)):=by
 have h1:¬ ((1:Int)<0):=by omega
 unfold Builtin.Slice.sliceAdjust
 simp only [h1,if_false]
 refine Prod.ext ?_ ?_
 · cases lo with
   | none=>rfl
   | some v=>exact ZZ v n 0
 · cases hi with
   | none=>rfl
   | some v=>exact ZZ v n n
theorem WS (i j:Nat):Builtin.Slice.slicePlaces (i:Int) (j:Int) 1=j - i:=by
 unfold Builtin.Slice.slicePlaces
 have h1:(1:Int)>0:=by omega
 simp only [h1,if_true,Int.ediv_one]
 split<;>omega
theorem NK {v:Value}{o:Option Int}{Q:Option Int->Shared->Prop}(p:IsPart v o)(h:Q o s):wpAny (model prog w) A (Builtin.Slice.slicePartIndex v) Q E s:=by
 cases p with
 | none=>exact slicePart_none h
 | int i t=>exact slicePart_int h
theorem LC {sl:Addr}{vl vu:Value}{lo hi:Option Int}{n:Nat}{Q:Int×Int×Nat->Shared->Prop}(hs:s.heap.IsSliceOf sl vl vu .none)(pl:IsPart vl lo)(pu:IsPart vu hi)
 (h:Q (((sIx n 0 lo:Nat):Int),1,sIx n n hi - sIx n 0 lo) s):wpAny (model prog w) A (Builtin.Slice.sliceApplied (.ref sl) (pure (n:Int))) Q E s:=by
 obtain ⟨os,hos,hcs,hds⟩:=id hs
 unfold Builtin.Slice.sliceApplied Builtin.Slice.sliceFields
 refine B1 (B1 (wpAny_field hos hds (x:=vl) rfl (B1 (wpAny_field hos hds (x:=vu) rfl (B1 (wpAny_field hos hds (x:=.none) rfl (B2 ?_)))))))
 refine B1 (slicePart_none ?_)
 show wpAny _ _ (if ((1:Int)==0)=true then _ else _) _ _ s
 rw [if_neg (by decide)]
 refine B1 (NK pl (B1 (NK pu (B1 (B2 ?_)))))
 show wpAny _ _ (match Builtin.Slice.sliceAdjust lo hi 1 (n:Int) with|(lo,hi)=>pure (lo,(1:Int),Builtin.Slice.slicePlaces lo hi 1)) _ _ s
 rw [YH lo hi n]
 show wpAny _ _ (pure (((sIx n 0 lo:Nat):Int),(1:Int),Builtin.Slice.slicePlaces ((sIx n 0 lo:Nat):Int) ((sIx n n hi:Nat):Int) 1)) _ _ s
 rw [WS]
 exact B2 h
theorem J3l (xs:Array Value)(i k:Nat):((List.range k).filterMap fun (m:Nat)=>xs[((i:Int)+(m:Int)*1).toNat]?).toArray=((xs.toList.drop i).take k).toArray:=by
 have e:(fun (m:Nat)=>xs[((i:Int)+(m:Int)*1).toNat]?)=fun m=>xs[i+m]?:=by
  funext m
  have:((i:Int)+(m:Int)*1).toNat=i+m:=by omega
  rw [this]
 rw [e]
 have:=pick_run xs i k
 rw [List.filterMap_map] at this
 have e2:((fun x=>xs[x]?)∘fun x=>i+x)=fun m=>xs[i+m]?:=rfl
 rw [e2] at this
 rw [this]
theorem getItem_tuple_cut {t sl:Addr}{items:Array Value}{vl vu:Value}{lo hi:Option Int}{Q:Value->Shared->Prop}(ht:IsTup s.heap t items)(hs:s.heap.IsSliceOf sl vl vu .none)(pl:IsPart vl lo)(pu:IsPart vu hi)
 (hw:¬ (sIx items.size 0 lo=0/\sIx items.size items.size hi=items.size))
 (h:Q (.ref s.heap.objs.size) { s with heap:=s.heap.push { cls:=.type "tuple",data:=.seq ((items.toList.drop (sIx items.size 0 lo)).take (sIx items.size items.size hi - sIx items.size 0 lo)).toArray } })
 (hsz:items.size<=sizeLine):wpAny (model prog w) A (getItem (.ref t) (.ref sl)) Q E s:=by
 have htake:sizeOk (.seq ((items.toList.drop (sIx items.size 0 lo)).take (sIx items.size items.size hi - sIx items.size 0 lo)).toArray):=by
  show ((items.toList.drop (sIx items.size 0 lo)).take (sIx items.size items.size hi - sIx items.size 0 lo)).toArray.size<=sizeLine
  rw [List.size_toArray,List.length_take,List.length_drop,Array.length_toList]
  omega
 have hj:sIx items.size items.size hi<=items.size:=Q2c _ _ (Nat.le_refl _) hi
 obtain ⟨os,hos,hcs,hds⟩:=id hs
 have hTs:s.TypeIs (.ref sl) "slice":=⟨os,hos,hcs⟩
 unfold getItem
 try with_reducible refine wpAny_holding ?_
 first|refine B1 (B2 ?_)|skip
 refine B1 (wpAny_sequenceKey ht.typeIs (by decide) ?_)
 refine B1 (wpAny_callSpecial?_slot (name:=Str.ofString "__getitem__") ht.typeIs PyProof.Rows.slot_tuple_getitem
  (wpAny_call_entry PyProof.Rows.slot_tuple_getitem ht.typeIs entry_tuple_getitem ?_ (args_tuple_getitem _ _)))
 show wpAny _ _ (Builtin.Tuple.tupleItemsOf (.ref t) >>= _) _ _ s
 refine B1 (tupleItemsOf_ ht ?_)
 refine B1 (wpAny_typeOf hTs ?_)
 rw [if_pos (by decide)]
 refine B1 (LC hs pl pu ?_)
 have hno:¬ ((((sIx items.size 0 lo:Nat):Int)==0&&(1:Int)==1&&(sIx items.size items.size hi - sIx items.size 0 lo)==items.size)=true):=by
  intro q
  rw [Bool.and_eq_true,Bool.and_eq_true] at q
  have q1:((sIx items.size 0 lo:Nat):Int)=0:=eq_of_beq q.1.1
  have q2:sIx items.size items.size hi - sIx items.size 0 lo=items.size:=eq_of_beq q.2
  exact hw ⟨by omega,by omega⟩
 show wpAny _ _ (if (((sIx items.size 0 lo:Nat):Int)==0&&(1:Int)==1&&(sIx items.size items.size hi - sIx items.size 0 lo)==items.size)=true then _ else _) _ _ s
 rw [if_neg hno,J3l]
 first
  | exact B1 (m:=Builtin.Tuple.tupleExact _) (wpAny_newObj_type (B2 ⟨_,rfl,B2 h⟩) htake)
  | exact B1 (m:=Builtin.Tuple.tupleExact _) (wpAny_newObj_type (B1 (B2 (B2 ⟨_,rfl,B2 h⟩))) htake)
  | exact B1 (B1 (m:=Builtin.Tuple.tupleExact _) (wpAny_newObj_type (B2 (B2 ⟨_,rfl,B2 h⟩)) htake))
  | exact B1 (B1 (m:=Builtin.Tuple.tupleExact _) (wpAny_newObj_type (B2 ⟨_,rfl,B2 h⟩) htake))
end
end HT
namespace L2
open PySem PySem.Spec PyProof.Rows
abbrev TO:=St->Hp->(Option Int->Hp->Prop)->Prop
def PO (X:Cx)(e:Option Expr)(t:TO):Prop :=
 ∀ (pins:List (Addr×Obj)) (s:Shared) (σ:St) (H:Hp) (Q:Option Int->Hp->Prop),Inv X pins σ H s->t σ H Q ->
  wpAny (model X.prog X.w) X.A (evalPart e X.env) (fun u s'=>∃ o H',Inv X pins σ H' s'/\IsPart u o/\Q o H') X.xe s
def J7b:TO:=fun _ H Q=>Q none H
def Q5y (t:TE):TO:=fun σ H Q=>t σ H fun x H1=>∃ i,x=.int i/\Q (some i) H1
section
variable {X:Cx}{e:Expr}{te:TE}{lo hi:Option Expr}{tl th:TO}{pos p2:Pos}
theorem J7t:PO X none J7b:=by
 intro pins s σ H Q I h
 rw [evalPart_none]
 exact B2 ⟨none,H,I,.none,h⟩
theorem J7s (h:PE X e te):PO X (some e) (Q5y te):=by
 intro pins s σ H Q I hw
 rw [evalPart_some]
 refine thn (h pins s σ H _ I hw) fun u s1 ⟨x,H1,I1,r1,q1⟩=>?_
 obtain ⟨i,rfl,q⟩:=q1
 obtain ⟨t,rfl⟩:=r1
 exact ⟨some i,H1,I1,.int i t,q⟩
def SlR (X:Cx)(r:V->Option Int->Option Int->Hp->VK->Prop):Prop :=
 ∀ (pins:List (Addr×Obj)) (s:Shared) (σ:St) (H:Hp) (x:V) (v vl vu:Value) (lo hi:Option Int) (sl:Addr) (Q:VK),Inv X pins σ H s->RelV x v->s.heap.IsSliceOf sl vl vu .none->IsPart vl lo->IsPart vu hi->r x lo hi H Q ->
  ∃ T id,typeLookup (.type T) "__getitem__" = pure (some (.builtin id))/\s.TypeIs v T/\wpAny (model X.prog X.w) X.A (getItem v (.ref sl)) (EP X pins σ Q) X.xe s
theorem SlR.or {r r':V->Option Int->Option Int->Hp->VK->Prop}(h:SlR X r)(h':SlR X r'):SlR X (fun x lo hi H Q=>r x lo hi H Q\/r' x lo hi H Q):=by
 intro pins s σ H x v vl vu lo hi sl Q I rx hs pl pu q
 rcases q with q|q
 · exact h pins s σ H x v vl vu lo hi sl Q I rx hs pl pu q
 · exact h' pins s σ H x v vl vu lo hi sl Q I rx hs pl pu q
def tSl (r:V->Option Int->Option Int->Hp->VK->Prop)(te:TE)(tl th:TO):TE:=fun σ H Q=>te σ H fun x H1=>tl σ H1 fun l H2=>th σ H2 fun u H3=>r x l u H3 Q
theorem J3o {r:V->Option Int->Option Int->Hp->VK->Prop}(hr:SlR X r)(he:PE X e te)(hl:PO X lo tl)(hu:PO X hi th):PE X (.Subscript e (.Slice lo hi none p2) pos) (tSl r te tl th):=by
 intro pins s σ H Q I h
 refine Subscript_ (thn (he pins s σ H _ I h) fun v s1 ⟨x,H1,I1,r1,q1⟩=>?_)
 refine wpAny_Slice (thn (hl pins s1 σ H1 _ I1 q1) fun vl s2 ⟨l,H2,I2,pl,q2⟩=>thn (hu pins s2 σ H2 _ I2 q2) fun vu s3 ⟨u,H3,I3,pu,q3⟩=>?_)
 rw [evalPart_none]
 refine B2 ?_
 have I4:Inv X pins σ H3 { s3 with heap:=s3.heap.push { cls:=.type "slice",data:=.fields #[vl,vu,.none] } }:=I3.kept (t':=s3.toks) fun b ob q=>B4 _ q
 obtain ⟨T,id,hT,ht,hg⟩:=hr pins { s3 with heap:=s3.heap.push { cls:=.type "slice",data:=.fields #[vl,vu,.none] } } σ H3 x v vl vu l u s3.heap.objs.size Q I4 r1 (Heap.IsSliceOf.new ..) pl pu q3
 show wpAny (model X.prog X.w) X.A (subscriptTail e (.Slice lo hi none p2) v (.ref s3.heap.objs.size)) (EP X pins σ Q) X.xe { s3 with heap:=s3.heap.push { cls:=.type "slice",data:=.fields #[vl,vu,.none] } }
 exact tail_any (ops:=[.ref s3.heap.objs.size,v]) ht hT hg (by with_unfolding_all rfl)
def VO (xs:List V)(lo hi:Option Int):List V:=(xs.drop (HT.sIx xs.length 0 lo)).take (HT.sIx xs.length xs.length hi - HT.sIx xs.length 0 lo)
theorem MO (xs:List V)(lo hi:Option Int):(VO xs lo hi).length<=xs.length:=by
 unfold VO
 rw [List.length_take,List.length_drop]
 omega
def J3d (K:Fg):V->Option Int->Option Int->Hp->VK->Prop:=fun x lo hi H Q=>∃ a xs,x=.ref a/\SqT K H a xs /\
 ¬ (HT.sIx xs.length 0 lo=0/\HT.sIx xs.length xs.length hi=xs.length)/\∀ p,H p=none->Q (.ref p) (upd H p (.tup (VO xs lo hi)))
theorem Q2b:SlR X (J3d X.K):=by
 intro pins s σ H x v vl vu lo hi sl Q I rx hs pl pu h
 obtain ⟨a,xs,rfl,hx,hw,q⟩:=h
 cases rx
 obtain ⟨its,r,ht,hz⟩:=I.tuple hx
 have hlen:its.toArray.size=xs.length:=by rw [List.size_toArray];exact r.length.symm
 refine ⟨"tuple",_,PyProof.Rows.slot_tuple_getitem.lookup,ht.typeIs,?_⟩
 refine HT.getItem_tuple_cut ht hs pl pu (by rw [hlen];exact hw) ?_ (by rw [hlen];exact hz)
 rw [hlen]
 refine ⟨.ref s.heap.objs.size,_,I.laid (t':=s.toks) (o:=.tup (VO xs lo hi)) (fun b ob q=>B4 _ q) (Nat.le_refl _) ?_,rfl,q _ (I.hok.fresh (Nat.le_refl _))⟩
 exact ⟨Nat.le_trans (MO xs lo hi) hz,_,(r.drop (HT.sIx xs.length 0 lo)).take (HT.sIx xs.length xs.length hi - HT.sIx xs.length 0 lo),IsTup.new _ _⟩
end
def ixN (n:Nat)(i:Int):Option Nat:=if 0<=i then (if i<n then some i.toNat else none) else if -(n:Int)<=i then some (i+n).toNat else none
def atI {α:Type}(xs:List α)(i:Int):Option α:=(ixN xs.length i).bind fun j=>xs[j]?
theorem ZN {n:Nat}{i:Int}{j:Nat}(h:ixN n i=some j):seqIndex? i n=some j/\j<n/\-(n:Int)<=i/\i<n:=by
 unfold ixN at h
 by_cases h0:0<=i
 · rw [if_pos h0] at h
   by_cases h1:i<n
   · rw [if_pos h1] at h
     have e:i.toNat=j:=Option.some.inj h
     exact ⟨by rw [seqIndex_of h0 h1,e],by omega,by omega,h1⟩
   · rw [if_neg h1] at h;cases h
 · rw [if_neg h0] at h
   by_cases h1 : -(n:Int)<=i
   · rw [if_pos h1] at h
     have e:(i+n).toNat=j:=Option.some.inj h
     exact ⟨by rw [seqIndex_neg (by omega) h1,e],by omega,h1,by omega⟩
   · rw [if_neg h1] at h;cases h
theorem J0f {α:Type}{xs:List α}{i:Int}{v:α}(h:atI xs i=some v):∃ j,seqIndex? i xs.length=some j/\xs[j]?=some v/\j<xs.length/\-(xs.length:Int)<=i/\i<xs.length:=by
 unfold atI at h
 cases e:ixN xs.length i with
 | none=>rw [e] at h;cases h
 | some j =>
   rw [e] at h
   obtain ⟨h1,h2,h3,h4⟩:=ZN e
   exact ⟨j,h1,h,h2,h3,h4⟩
theorem EN {α:Type}{xs:List α}{j:Nat}{v:α}(h:xs[j]?=some v):atI xs (j:Int)=some v:=by
 have hj:j<xs.length:=(List.getElem?_eq_some_iff.mp h).1
 have e:ixN xs.length (j:Int)=some j:=by
  unfold ixN
  rw [if_pos (by omega),if_pos (by omega)];simp
 unfold atI;rw [e];exact h
def TQ (b:Expr):Prop:=∀ o i,subscripted b false o i=operate [o,i] (getItem o i)
def IxR (X:Cx)(r:R2):Prop :=
 ∀ (value slice:Expr) (pins:List (Addr×Obj)) (s:Shared) (σ:St) (H:Hp) (x y:V) (v u:Value) (Q:VK),Inv X pins σ H s->RelV x v->RelV y u->r x y H Q ->
  subscripted slice false v u=operate [v,u] (getItem v u)->wpAny (model X.prog X.w) X.A (subscriptTail value slice v u) (EP X pins σ Q) X.xe s
def MtR (X:Cx)(id:String)(r:V->List V->Hp->VK->Prop):Prop :=
 ∀ (pins:List (Addr×Obj)) (s:Shared) (σ:St) (H:Hp) (x:V) (xs:List V) (v:Value) (us:List Value) (Q:VK),Inv X pins σ H s->RelV x v->Vals xs us->r x xs H Q ->
  wpAny (model X.prog X.w) X.A (call (.builtin id) (v::us)) (EP X pins σ Q) X.xe s
section
variable {X:Cx}{a b:Expr}{ta tb:TE}{pos:Pos}
theorem IxR.or {r r':R2}(h:IxR X r)(h':IxR X r'):IxR X (fun x y H Q=>r x y H Q\/r' x y H Q):=by
 intro value slice pins s σ H x y v u Q I rx ry q hs
 rcases q with q|q
 · exact h value slice pins s σ H x y v u Q I rx ry q hs
 · exact h' value slice pins s σ H x y v u Q I rx ry q hs
theorem FI {r:R2}(hr:IxR X r)(ha:PE X a ta)(hb:PE X b tb)(hs:TQ b):PE X (.Subscript a b pos) (tOp r ta tb):=by
 intro pins s σ H Q I h
 exact Subscript_ (Q5i ha hb I h fun v u s2 x y H2 I2 rx ry q=>hr a b pins s2 σ H2 x y v u Q I2 rx ry q (hs _ _))
def J1a (K:Fg):R2:=fun x y H Q=>∃ p xs i v,x=.ref p/\y=.int i/\SqL K H p xs/\atI xs i=some v/\Q v H
def J7o (K:Fg):R2:=fun x y H Q=>∃ p xs i v,x=.ref p/\y=.int i/\SqT K H p xs/\atI xs i=some v/\Q v H
theorem IN:IxR X (J1a X.K):=by
 intro value slice pins s σ H x y v u Q I rx ry h hs
 obtain ⟨p,xs,i,z,rfl,rfl,hq,he,q⟩:=h
 cases rx
 obtain ⟨t,rfl⟩:=ry
 obtain ⟨its,r,pl,hz⟩:=I.list hq
 obtain ⟨j,h1,h2,h3,h4,h5⟩:=J0f he
 obtain ⟨w,ew,rw'⟩:=r.get h2
 have hl:=r.length
 have hn:=LR
 have fin:EP X pins σ Q w s:=⟨z,H,I,rw',q⟩
 by_cases h0:0<=i
 · have hj:i.toNat=j:=by
    rw [seqIndex_of h0 h5] at h1
    exact Option.some.inj h1
   exact item_listR pl.isList h0 (by omega) (by rw [hj];simpa using ew) fin hs
 · have hj:(i+(its.toArray.size:Int)).toNat=j:=by
    rw [seqIndex_neg (by omega) h4] at h1
    rw [List.size_toArray,<- hl]
    exact Option.some.inj h1
   exact subscriptTail_builtinR (x:=w) pl.isList.typeIs slot_list_getitem.lookup
    (wpAny_getItem_list_neg (Q:=fun r s'=>r=w/\EP X pins σ Q r s') pl.isList (by omega) (by rw [List.size_toArray]<;>omega) (by omega) (by rw [hj];simpa using ew) ⟨rfl,fin⟩) hs
theorem Q3i:IxR X (J7o X.K):=by
 intro value slice pins s σ H x y v u Q I rx ry h hs
 obtain ⟨p,xs,i,z,rfl,rfl,hq,he,q⟩:=h
 cases rx
 obtain ⟨t,rfl⟩:=ry
 obtain ⟨its,r,pl,hz⟩:=I.tuple hq
 obtain ⟨j,h1,h2,h3,h4,h5⟩:=J0f he
 obtain ⟨w,ew,rw'⟩:=r.get h2
 have hl:=r.length
 have hn:=LR
 have fin:EP X pins σ Q w s:=⟨z,H,I,rw',q⟩
 exact subscriptTail_builtinR (x:=w) pl.typeIs slot_tuple_getitem.lookup
  (getItem_tuple (j:=j) (Q:=fun r s'=>r=w/\EP X pins σ Q r s') pl (by omega) (by omega) (by rw [List.size_toArray,<- hl];exact h1) (by simpa using ew) ⟨rfl,fin⟩) hs
theorem XT (its:List Value)(n j:Nat)(u:Value):Obj.mapSeq (·.setIfInBounds j u) { cls:=.type "list",data:=.seq its.toArray n }={ cls:=.type "list",data:=.seq (its.set j u).toArray n }:=by
 simp [Obj.mapSeq]
theorem Inv.lst {pins:List (Addr×Obj)}{σ:St}{H:Hp}{s:Shared}{p:Addr}{xs:List V}(I:Inv X pins σ H s)(h:H p=some (.lst xs)) :
 ∃ (its:List Value) (n:Nat),Vals xs its/\s.heap.get? p=some { cls:=.type "list",data:=.seq its.toArray n }/\xs.length<=sizeLine:=by
 obtain ⟨z,its,n,r,e⟩:=I.hok p _ h
 exact ⟨its,n,r,e,z⟩
theorem Inv.lstUpd {pins:List (Addr×Obj)}{σ:St}{H:Hp}{s:Shared}{p:Addr}{xs ys:List V}{its its':List Value}{n n':Nat}{f:Obj->Obj}(I:Inv X pins σ H s)(h:H p=some (.lst xs))
 (ho:s.heap.get? p=some { cls:=.type "list",data:=.seq its.toArray n }) (hf:f { cls:=.type "list",data:=.seq its.toArray n }={ cls:=.type "list",data:=.seq its'.toArray n' }) (r:Vals ys its') (hz:ys.length<=sizeLine) (t:Nat) :
 Inv X pins σ (upd H p (.lst ys)) { s with heap:=s.heap.update p f,toks:=t }:=by
 have e:(s.heap.update p f).get? p=some { cls:=.type "list",data:=.seq its'.toArray n' }:=by
  rw [Heap.get?_update_self f ho (by rw [hf]<;>rfl),hf]
 refine I.write (x:=p) (e:=p) (by rw [h];trivial) (.inl rfl) (fun b u hb q=>(Heap.get?_update_other _ _ (Ne.symm hb)).trans q) ⟨_,e⟩ ?_
 exact ⟨hz,its',n',r,e⟩
def UG:V->V->V->Hp->(Hp->Prop)->Prop:=fun o i v H Q=>∃ p xs k j,o=.ref p/\i=.int k/\H p=some (.lst xs)/\ixN xs.length k=some j/\Q (upd H p (.lst (xs.set j v)))
theorem DY:Q5o X UG:=by
 intro pins s σ H o i v ov iv u Q I ro ri rv h
 obtain ⟨p,xs,k,j,rfl,rfl,hp,hj,q⟩:=h
 cases ro
 obtain ⟨t,rfl⟩:=ri
 obtain ⟨its,n,r,ho,hz⟩:=I.lst hp
 obtain ⟨h1,h2,h3,h4⟩:=ZN hj
 have hl:=r.length
 have hn:=LR
 have I':Inv X pins σ (upd H p (.lst (xs.set j v))) { s with heap:=s.heap.update p (Obj.mapSeq (·.setIfInBounds j u)) } :=
  I.lstUpd hp ho (XT its n j u) (r.set rv j) (by rw [List.length_set];exact hz) s.toks
 by_cases h0:0<=k
 · have hk:k.toNat=j:=by
    rw [seqIndex_of h0 h4] at h1
    exact Option.some.inj h1
   exact PySem.W.ki_setAt ho h0 (by omega) (by rw [List.size_toArray,<- hl];exact h4) (by rw [hk];exact ⟨_,I',q⟩)
 · have hk:(k+(its.toArray.size:Int)).toNat=j:=by
    rw [seqIndex_neg (by omega) h3] at h1
    rw [List.size_toArray,<- hl]
    exact Option.some.inj h1
   exact PySem.W.ki_setBack ho (by omega) (by rw [List.size_toArray,<- hl];exact h3) (by omega) (by rw [hk];exact ⟨_,I',q⟩)
theorem RV (lo hi:Option Int)(n:Nat):(sliceBounds lo hi none n).1=((HT.sIx n 0 lo:Nat):Int)/\(sliceBounds lo hi none n).2.1=((HT.sIx n n hi:Nat):Int)/\(sliceBounds lo hi none n).2.2=1:=by
 refine ⟨?_,?_,rfl⟩
 · cases lo with
   | none=>simp [sliceBounds,HT.sIx]
   | some i =>
     simp only [sliceBounds,HT.sIx,Option.getD_none,show (1:Int)>0 by decide,if_true]
     by_cases h:i<0
     · simp only [h,if_true]<;>omega
     · simp only [h,if_false]<;>omega
 · cases hi with
   | none=>simp [sliceBounds,HT.sIx]
   | some i =>
     simp only [sliceBounds,HT.sIx,Option.getD_none,show (1:Int)>0 by decide,if_true]
     by_cases h:i<0
     · simp only [h,if_true]<;>omega
     · simp only [h,if_false]<;>omega
theorem PU (its:List Value)(lo hi:Option Int):slicePick its.toArray lo hi none=((its.drop (HT.sIx its.length 0 lo)).take (HT.sIx its.length its.length hi - HT.sIx its.length 0 lo)).toArray:=by
 obtain ⟨h1,h2,h3⟩:=RV lo hi its.toArray.size
 unfold slicePick
 rw [h1,h2,h3]
 simp only [sliceRange_one,pick_run,List.size_toArray]<;>rfl
def J3e (K:Fg):V->Option Int->Option Int->Hp->VK->Prop:=fun x lo hi H Q=>∃ a xs,x=.ref a/\SqL K H a xs/\∀ p,H p=none->Q (.ref p) (upd H p (.lst (VO xs lo hi)))
theorem J7g:SlR X (J3e X.K):=by
 intro pins s σ H x v vl vu lo hi sl Q I rx hs pl pu h
 obtain ⟨a,xs,rfl,hx,q⟩:=h
 cases rx
 obtain ⟨its,r,ht,hz⟩:=I.list hx
 have hlen:=r.length
 refine ⟨"list",_,slot_list_getitem.lookup,ht.isList.typeIs,?_⟩
 refine wpAny_getItem_list_slice ht.isList hs pl pu .none (by simp) ?_ (by rw [List.size_toArray]<;>omega)
 rw [PU,<- hlen]
 refine ⟨.ref s.heap.objs.size,_,I.laid (t':=s.toks) (o:=.lst (VO xs lo hi)) (fun b ob q=>B4 _ q) (Nat.le_refl _) ?_,rfl,q _ (I.hok.fresh (Nat.le_refl _))⟩
 exact ⟨Nat.le_trans (MO xs lo hi) hz,_,0,(r.drop (HT.sIx xs.length 0 lo)).take (HT.sIx xs.length xs.length hi - HT.sIx xs.length 0 lo),Heap.get?_push_size _ rfl⟩
theorem TC:CD X (.builtin "len") (fun xs H Q=>∃ p ys,xs=[.ref p]/\(SqL X.K H p ys\/SqT X.K H p ys)/\Q (.int ys.length) H):=by
 intro pins s σ H xs us Q I r h
 obtain ⟨p,ys,rfl,hq,q⟩:=h
 obtain ⟨u,rfl,rx⟩:=JY r
 cases rx
 have hn:=LR
 rcases hq with hq|hq
 · obtain ⟨its,r',pl,hz⟩:=I.list hq
   have hlen:=r'.length
   exact Calls.call_len_list pl.isList (by simp only [List.size_toArray]<;>omega) ⟨.int ys.length,H,I.tok _,⟨s.toks+1,by rw [List.size_toArray,hlen]⟩,q⟩
 · obtain ⟨its,r',pl,hz⟩:=I.tuple hq
   have hlen:=r'.length
   exact len_tuple pl (by simp only [List.size_toArray]<;>omega) ⟨.int ys.length,H,I.tok _,⟨s.toks+1,by rw [List.size_toArray,hlen]⟩,q⟩
theorem TB:CD X (.type "list") (fun xs H Q=>∃ p ys,xs=[.ref p]/\(SqL X.K H p ys\/SqT X.K H p ys)/\∀ l,H l=none->Q (.ref l) (upd H l (.lst ys))):=by
 intro pins s σ H xs us Q I r h
 obtain ⟨p,ys,rfl,hq,q⟩:=h
 obtain ⟨u,rfl,rx⟩:=JY r
 cases rx
 have fin:∀ (its:List Value),Vals ys its->ys.length<=sizeLine->∀ (h':Heap) (c':Nat),(∀ b o',s.heap.get? b=some o'->h'.get? b=some o') ->
  h'.get? s.heap.objs.size=some { cls:=.type "list",dict:=none,data:=.seq its.toArray c',slots:=#[] }->EP X pins σ Q (.ref s.heap.objs.size) { s with heap:=h' }:=fun its r' hz h' c' kp e =>
  ⟨.ref s.heap.objs.size,_,I.laid (t':=s.toks) kp (Nat.le_refl _) (show ObjOk X.prog X.w _ h' _ (.lst ys) from ⟨hz,its,c',r',e⟩),rfl,q _ (I.hok.fresh (Nat.le_refl _))⟩
 rcases hq with hq|hq
 · obtain ⟨its,r',pl,hz⟩:=I.list hq
   have hlen:=r'.length
   obtain ⟨o,ho,hc,n,hd⟩:=pl.isList
   exact call_list_seq p (.inl rfl) ho hc hd (fun h' c' kp e=>fin its r' hz h' c' kp e) (by simp only [List.size_toArray]<;>omega)
 · obtain ⟨its,r',pl,hz⟩:=I.tuple hq
   have hlen:=r'.length
   obtain ⟨o,ho,hc,n,hd⟩:=pl
   exact call_list_seq p (.inr rfl) ho hc hd (fun h' c' kp e=>fin its r' hz h' c' kp e) (by simp only [List.size_toArray]<;>omega)
theorem QF:CD X (.type "tuple") (fun xs H Q=>∃ p ys,xs=[.ref p]/\((SqL X.K H p ys/\∀ l,H l=none->Q (.ref l) (upd H l (.tup ys)))\/(SqT X.K H p ys/\Q (.ref p) H))):=by
 intro pins s σ H xs us Q I r h
 obtain ⟨p,ys,rfl,h⟩:=h
 obtain ⟨u,rfl,rx⟩:=JY r
 cases rx
 rcases h with ⟨hq,q⟩|⟨hq,q⟩
 · obtain ⟨its,r',pl,hz⟩:=I.list hq
   have hlen:=r'.length
   refine call_tuple_list pl.isList (fun h' kp=>?_) (by simp only [List.size_toArray]<;>omega)
   have I1:Inv X pins σ H { s with heap:=h' }:=I.kept (t':=s.toks) kp
   have I2:Inv X pins σ (upd H h'.objs.size (.tup ys)) { s with heap:=h'.push { cls:=.type "tuple",data:=.seq its.toArray } } :=
    I1.laid (t':=s.toks) (fun b o e=>B4 _ e) (Nat.le_refl _) (show ObjOk X.prog X.w _ _ _ (.tup ys) from ⟨hz,its,r',IsTup.new _ _⟩)
   exact ⟨.ref h'.objs.size,_,I2,rfl,q _ (I1.hok.fresh (Nat.le_refl _))⟩
 · obtain ⟨its,r',pl,hz⟩:=I.tuple hq
   exact call_tuple_same pl ⟨.ref p,H,I,rfl,q⟩
def tyV (K:Fg)(T:String)(x:V)(H:Hp):Prop:=match x with
 | .str _=>T = "str"
 | .int _=>T = "int"
 | .ref p=>(T = "list"/\∃ xs,SqL K H p xs)\/(T = "tuple"/\∃ o,K.lookup p=some o/\o.cls=.type "tuple"/\o.dict=none) \/
  (T = "dict"/\((∃ kvs,H p=some (.dK kvs))\/∃ kvs,H p=some (.dT kvs)))\/(T = "set"/\∃ S n,H p=some (.set S n))
 | _=>False
theorem J2u {pins:List (Addr×Obj)}{σ:St}{H:Hp}{s:Shared}{T:String}{x:V}{v:Value}(I:Inv X pins σ H s)(r:RelV x v)(ty:tyV X.K T x H) :
 s.TypeIs v T/\∀ a,v=.ref a->∃ ob,s.heap.get? a=some ob/\ob.dict=none:=by
 cases x with
 | str z =>
   obtain ⟨t,rfl⟩:=r
   cases (show T = "str" from ty)
   exact ⟨typeIs_str s z t,fun _ e=>nomatch e⟩
 | int i =>
   obtain ⟨t,rfl⟩:=r
   cases (show T = "int" from ty)
   exact ⟨typeIs_int s i t,fun _ e=>nomatch e⟩
 | ref p =>
   cases r
   rcases ty with ⟨rfl,xs,hq⟩|⟨rfl,o,hk,hc,hd⟩|⟨rfl,hk⟩|⟨rfl,S,n,hk⟩
   · obtain ⟨its,_,pl,_⟩:=I.list hq
     refine ⟨pl.isList.typeIs,fun a e=>?_⟩
     cases e
     obtain ⟨o,n,e,c,hd,_⟩:=pl
     exact ⟨o,e,hd⟩
   · refine ⟨⟨o,I.kIn p o hk,hc⟩,fun a e=>?_⟩
     cases e
     exact ⟨o,I.kIn _ o hk,hd⟩
   · have z:∃ o,s.heap.get? p=some o/\o.ExactDict:=by
      rcases hk with ⟨kvs,hk⟩|⟨kvs,hk⟩
      · obtain ⟨_,_,_,_,o,_,_,e,ex,_⟩:=I.hok p _ hk
        exact ⟨o,e,ex⟩
      · obtain ⟨_,_,_,_,o,_,_,e,ex,_⟩:=I.hok p _ hk
        exact ⟨o,e,ex⟩
     obtain ⟨o,e,ex⟩:=z
     refine ⟨⟨o,e,ex.1⟩,fun a e2=>?_⟩
     cases e2
     exact ⟨o,e,ex.2.1⟩
   · obtain ⟨o,_,_,_,e,ex,_⟩:=I.hok p _ hk
     refine ⟨⟨o,e,ex.1⟩,fun a e2=>?_⟩
     cases e2
     exact ⟨o,e,ex.2.1⟩
 | _=>exact False.elim ty
def Q8y (K:Fg)(T:String)(r:V->List V->Hp->VK->Prop)(to:TE):TE:=fun σ H Q=>to σ H fun x H1=>tyV K T x H1/\r x [] H1 Q
def tBM (K:Fg)(T:String)(r:V->List V->Hp->VK->Prop)(to:TE)(t:TA):TE:=fun σ H Q=>to σ H fun x H1=>tyV K T x H1/\t σ H1 fun xs H2=>r x xs H2 Q
variable {o e:Expr}{es:List Expr}{to:TE}{t:TA}{name:Str}{apos cpos:Pos}{T id:String}{r:V->List V->Hp->VK->Prop}
theorem J3r (pa:PlainAttrs T)(slot:Slot T name id)(hty:typeOf (.builtin id)=pure (.type "method_descriptor")) (hm:MtR X id r) (ho:PE X o to)
 (hbase:attributeBase o name X.env (eval o X.env)=eval o X.env:=by rfl) (hline:(apos.endLine==cpos.line)=true:=by rfl):PE X (.Call (.Attribute o name apos) [] [] cpos) (Q8y X.K T r to):=by
 intro pins s σ H Q I h
 refine wpAny_Call_method0_late hbase hline (thn (ho pins s σ H _ I h) fun v s1 ⟨x,H1,I1,r1,ty,q1⟩=>?_)
 obtain ⟨h1,h2⟩:=J2u I1 r1 ty
 exact ⟨T,id,pa,slot,hty,h1,h2,Calls.callWith_builtin rfl (PySem.evalArgs_none (hm pins s1 σ H1 x [] v [] Q I1 r1 .nil q1))⟩
theorem NV (pa:PlainAttrs T)(slot:Slot T name id)(hty:typeOf (.builtin id)=pure (.type "method_descriptor")) (hm:MtR X id r) (ho:PE X o to) (ha:PA X (e::es) t)
 (hbase:attributeBase o name X.env (eval o X.env)=eval o X.env:=by rfl)
 (hfew:((backTo cpos (starEach (e::es) X.env)).all (fun x=>!x.1)&&(backToKw cpos (keywordEach [] X.env)).all (fun x=>x.1.isSome)
  && decide ((e::es).length+([]:List Keyword).length+(if ([]:List Keyword).isEmpty then 0 else 1)<30))=true:=by rfl)
 (hline:(apos.endLine==cpos.line)=true:=by rfl) (hs:starEach (e::es) X.env=(false,eval e X.env)::starEach es X.env:=by rfl) (hplain:(backTo cpos (starEach es X.env)).any (·.1)=false:=by rfl) :
 PE X (.Call (.Attribute o name apos) (e::es) [] cpos) (tBM X.K T r to t):=by
 intro pins s σ H Q I h
 refine wpAny_Call_method_late hbase hfew hline rfl (thn (ho pins s σ H _ I h) fun v s1 ⟨x,H1,I1,r1,ty,q1⟩=>?_)
 obtain ⟨h1,h2⟩:=J2u I1 r1 ty
 refine ⟨T,id,pa,slot,hty,h1,h2,?_⟩
 have hA:=ha cpos pins s1 σ H1 _ I1 q1
 rw [hs] at hA ⊢
 refine Calls.callWith_builtin (by show (false||(backTo cpos (starEach es X.env)).any (·.1))=false;rw [hplain]<;>rfl) (Calls.evalArgs_plain ?_)
 exact thn hA fun us s2 ⟨vs,H2,I2,r2,q2⟩=>hm pins s2 σ H2 x vs v us Q I2 r1 r2 q2
end
def MtM (X:Cx)(id:String)(r:V->List V->Hp->VK->Prop):Prop :=
 ∀ (pins:List (Addr×Obj)) (s:Shared) (σ:St) (H:Hp) (x:V) (xs:List V) (v:Value) (us:List Value) (Q:VK),Inv X pins σ H s->RelV x v->Vals xs us->r x xs H Q ->
  wpAny (model X.prog X.w) X.A (call (.builtin id) (v::us)) (EP X pins σ Q) X.xe s
theorem Vals.one:∀ {x:V} {us:List Value},Vals [x] us->∃ u,us=[u]/\RelV x u
 | _,_,.cons r .nil=>⟨_,rfl,r⟩
theorem Vals.two:∀ {x y:V} {us:List Value},Vals [x,y] us->∃ u v,us=[u,v]/\RelV x u/\RelV y v
 | _,_,_,.cons r (.cons q .nil)=>⟨_,_,rfl,r,q⟩
theorem Vals.zero:∀ {us:List Value},Vals [] us->us=[]
 | _,.nil=>rfl
theorem Vals.reverse {xs:List V}{us:List Value}(h:Vals xs us):Vals xs.reverse us.reverse:=by
 induction h with
 | nil=>exact .nil
 | cons r t ih=>rw [List.reverse_cons,List.reverse_cons];exact Vals.append ih (.cons r .nil)
section
variable {X:Cx}{pins:List (Addr×Obj)}{σ:St}{H:Hp}{s:Shared}{l:Addr}{xs ys:List V}
theorem Inv.lset {its its':List Value}{n:Nat}{f:Array Value->Array Value}{t':Nat}(I:Inv X pins σ H s)(hH:H l=some (.lst xs))
 (e:s.heap.get? l=some { cls:=.type "list",data:=.seq its.toArray n }) (hf:f its.toArray=its'.toArray) (hv:Vals ys its') (hz:ys.length<=sizeLine) :
 Inv X pins σ (upd H l (.lst ys)) { s with heap:=s.heap.update l (Obj.mapSeq f),toks:=t' }:=by
 have q:=PySem.IsL.update e f
 rw [hf] at q
 refine I.write (x:=l) (e:=l) (by rw [hH];exact trivial) (.inl rfl) (fun b' u hb hu=>(Heap.get?_update_other s.heap (Obj.mapSeq f) (Ne.symm hb)).trans hu) ⟨_,q⟩ ?_
 exact ⟨hz,its',_,hv,q⟩
theorem Inv.lnew {its:List Value}{t':Nat}(I:Inv X pins σ H s)(hv:Vals ys its)(hz:ys.length<=sizeLine) :
 Inv X pins σ (upd H s.heap.objs.size (.lst ys)) { s with heap:=s.heap.push { cls:=.type "list",data:=.seq its.toArray },toks:=t' } :=
 I.laid (fun _ _ q=>B4 _ q) (Nat.le_refl _) ⟨hz,its,0,hv,Heap.get?_push_size _ rfl⟩
theorem Inv.fresh (I:Inv X pins σ H s):H s.heap.objs.size=none:=I.hok.fresh (Nat.le_refl _)
theorem Inv.lstM (I:Inv X pins σ H s)(hH:H l=some (.lst xs)):xs.length<=sizeLine/\∃ (its:List Value) (n:Nat),Vals xs its/\xs.length=its.length/\s.heap.get? l=some { cls:=.type "list",data:=.seq its.toArray n }:=by
 obtain ⟨z,its,n,r,e⟩:=I.hok l _ hH
 exact ⟨z,its,n,r,r.length,e⟩
end
section
variable {X:Cx}
def IH:V->List V->Hp->VK->Prop:=fun x vs H Q=>∃ l xs y,x=.ref l/\vs=[y]/\H l=some (.lst xs)/\xs.length<sizeLine/\Q .non (upd H l (.lst (xs++[y])))
theorem DR:MtM X "list.append" IH:=by
 intro pins s σ H x vs v us Q I rx rv h
 obtain ⟨l,xs,y,rfl,rfl,hH,hz,q⟩:=h
 cases rx
 obtain ⟨u,rfl,ru⟩:=rv.one
 obtain ⟨z,its,n,r,hl,e⟩:=I.lstM hH
 refine call_meets F.slot_list_append ⟨_,e,rfl⟩ F.entry_list_append (F.args_list_append_2 _ _) (PySem.list_append l its.toArray n u (by rw [List.size_toArray];omega)) ⟨e,?_⟩
 refine ⟨.non,_,I.lset (its':=its++[u]) hH e (by simp) (r.append (.cons ru .nil)) ?_,rfl,q⟩
 rw [List.length_append,List.length_singleton]
 omega
def UH:V->List V->Hp->VK->Prop:=fun x vs H Q=>∃ l xs,x=.ref l/\vs=[]/\H l=some (.lst xs)/\Q .non (upd H l (.lst xs.reverse))
theorem XL:MtM X "list.reverse" UH:=by
 intro pins s σ H x vs v us Q I rx rv h
 obtain ⟨l,xs,rfl,rfl,hH,q⟩:=h
 cases rx
 have hus:=rv.zero
 subst hus
 obtain ⟨z,its,n,r,hl,e⟩:=I.lstM hH
 refine call_meets F.slot_list_reverse ⟨_,e,rfl⟩ F.entry_list_reverse (F.args_list_reverse_1 _) (AutoSeq1.list_reverse_list_0 l its.toArray n (by rw [List.size_toArray];omega)) ⟨e,?_⟩
 refine ⟨.non,_,I.lset (its':=its.reverse) hH e (by simp) r.reverse ?_,rfl,q⟩
 rw [List.length_reverse]
 omega
def J3f:V->List V->Hp->VK->Prop:=fun x vs H Q=>∃ l xs,x=.ref l/\vs=[]/\H l=some (.lst xs)/\Q .non (upd H l (.lst []))
theorem J4a:MtM X "list.clear" J3f:=by
 intro pins s σ H x vs v us Q I rx rv h
 obtain ⟨l,xs,rfl,rfl,hH,q⟩:=h
 cases rx
 have hus:=rv.zero
 subst hus
 obtain ⟨z,its,n,r,hl,e⟩:=I.lstM hH
 refine call_meets F.slot_list_clear ⟨_,e,rfl⟩ F.entry_list_clear (F.args_list_clear_1 _) (AutoSeq1.list_clear_list_0 l its.toArray n (by rw [List.size_toArray];omega)) ⟨e,?_⟩
 exact ⟨.non,_,I.lset (its':=[]) (ys:=[]) hH e rfl .nil (Nat.zero_le _),rfl,q⟩
def Q6l:R2:=fun x y H Q=>∃ l b xs zs,x=.ref l/\y=.ref b/\H l=some (.lst xs)/\H b=some (.lst zs)/\xs.length+zs.length<=sizeLine/\∀ p,H p=none->Q (.ref p) (upd H p (.lst (xs++zs)))
theorem J3v:OpR X (binaryOp .Add) Q6l:=by
 intro pins s σ H x y v u Q I rx ry h
 obtain ⟨l,b,xs,zs,rfl,rfl,hH,hB,hz,q⟩:=h
 cases rx
 cases ry
 obtain ⟨z,its,n,r,hl,e⟩:=I.lstM hH
 obtain ⟨z2,its2,n2,r2,hl2,e2⟩:=I.lstM hB
 refine PySem.P.add_list e e2 ?_ (by rw [List.size_toArray,List.size_toArray];omega)
 have ea:its.toArray++its2.toArray=(its++its2).toArray:=by simp
 rw [ea]
 exact ⟨.ref _,_,I.lnew (t':=s.toks) (r.append r2) (by rw [List.length_append];omega),rfl,q _ I.fresh⟩
end
end L2
namespace Att
open PySem PySem.W PySem.Calls PyProof.Rows
theorem MZ {P:Params}{h:Heap}:∀ (ns:List Int) (vs:List Value),WellAll P h vs (ns.map WData.int)->IntsAre vs ns:=by
 intro ns
 induction ns with
 | nil =>
   intro vs w
   rw [List.map_nil] at w
   cases w
   exact .nil
 | cons n ns ih =>
   intro vs w
   rw [List.map_cons] at w
   cases w with
   | cons a b =>
     cases a
     exact .cons _ _ (ih _ b)
theorem J0v {l:OpenLaw}{n:Nat}(hn:l.most=some n){P:Params}{h:Heap}{args:List WData}{vals:List Value}
 (hpre:l.row.toRowW.claim.pre args=true) (hwl:WellAll P h vals args) :
 ∃ a vs ns,vals=[Value.ref a]/\args=[WData.list (ns.map WData.int)]/\h.get? a=some { cls:=.type "list",data:=.seq vs.toArray }/\IntsAre vs ns/\ns.length<=n:=by
 have hsh:WShape.hasAll [] args [.list .int]=true:=(pre_splitW hpre).1
 have hc:l.pre.holds [] { args:=args }=true:=(pre_splitW hpre).2
 obtain ⟨d,r,rfl,h1,h2⟩:=hasAllW_cons hsh
 obtain rfl:=hasAllW_nil h2
 obtain ⟨xs,rfl,h3⟩:=hasW_list h1
 obtain ⟨ns,rfl⟩:=items_int h3
 have hlen:ns.length<=n:=by
  unfold OpenLaw.pre at hc
  have h4:(WTm.not (.lt (.lit (.int (n:Int))) (.len (.arg 0)))).holds [] { args:=[.list (ns.map .int)] }=true:=by
   have h4:=(holds_andW hc).1
   rw [hn] at h4
   exact h4
  have h5:=condW_of h4 (w_not (w_lt w_lit (w_len_list (w_arg rfl))))
  rw [List.length_map] at h5
  refine Nat.le_of_not_lt fun q=>?_
  have q':(n:Int)<((ns.length:Nat):Int):=by omega
  first
   | (rw [decide_eq_true q'] at h5;exact absurd h5 (by decide))
   | (simp at h5;omega)
 cases hwl with
 | cons w1 w2 =>
   cases w2
   cases w1 with
   | list ho hall=>exact ⟨_,_,ns,rfl,rfl,ho,MZ ns _ hall,hlen⟩
theorem J1d (l:OpenLaw)(args:List WData):l.row.toRowW.claim.post args (.bool true) args=true :=
 postW_of (r:=l.row.toRowW) (X:=(true==true))
  (show WShape.has [] (.bool true) .bool=true by first|rfl|decide|simp [WShape.has,WShape.arms,WShape.armsAll])
  (show (WTm.eq .res (.lit (.bool true))).value [] { args:=args,res:=some (.bool true),after:=args }=some (.bool (true==true)) from w_eq_bool (w_res rfl) w_lit) rfl
theorem attach_call {l:OpenLaw}{n:Nat}{q:Program}{loose:List Str}{XP:(Str->Option Value)->Heap->Prop}{YP:World->Heap->Prop}{d:DefRec}
 (hn:l.most=some n) (hdf:d.params.defaults=[])
 (call:∀ (w:World) (s₀ s₁:Shared) (mg mb:Str->Option Value) (fa:Addr) (o:Obj) (pm cd doc:Value) (a:Addr) (vs:List Value) (ns:List Int),
  Ground q loose [] XP w s₀ mg mb s₁.heap->YP w s₁.heap ->
  s₁.heap.get? fa=some o->o.data=.func (docDef d.name d.params d.body d.scope pm cd doc)->s₁.heap.CodeRec cd d.name->mg d.name=some (.ref fa) ->
  s₁.heap.get? a=some { cls:=.type "list",data:=.seq vs.toArray }->IntsAre vs ns->ns.length<=n->s₁.gens=#[] ->
  codeAny (model l.prog w) callerA (.call (.ref fa) ⟨[.ref a],[]⟩) (fun r s'=>r=.ok (.ret (.bool true))/\OldK s₁.heap s'.heap/\s'.os=s₁.os/\AllBare s'.gens) s₁) :
 WalkO q loose XP YP l.row.toRowW d [] (fun f vs=>PySem.call f vs):=by
 intro w s₀ s₁ mg mb G Y fa o pm cd doc dV kV ho hd hcd hD hmg hg args vals as hpre hlay hrd hwl hlo
 obtain rfl:dV=.none:=Dflts.none hD hdf
 obtain rfl:kV=.none:=Dflts.noKw hD
 obtain ⟨a,vs,ns,rfl,rfl,hobj,hints,hlen⟩:=J0v hn hpre hwl
 refine enter_call (codeAny_mono (call w s₀ s₁ mg mb fa o pm cd doc a vs ns G Y ho (fd_plain hd) hcd hmg hobj hints hlen hg) fun r s' hq=>?_)
 obtain ⟨rfl,h2,h3,h4⟩:=hq
 exact ⟨.inl ⟨.bool true,.bool true,[],rfl,fun _=>rfl,.bool true,J1d l _,fun _=>⟨List.Pairwise.nil,fun _ hm=>(nomatch hm)⟩⟩,h2,h3,h4⟩
section
def Q9h (h:Heap)(L d:Addr):List (Addr×Obj):=(List.range h.objs.size).filterMap fun a=>if a=L\/a=d then none else (h.get? a).map fun o=>(a,o)
end
end Att
namespace L2
open PySem PySem.Spec PyProof.Rows
theorem QH:∀ {vs:List Value} {ns:List Int},IntsAre vs ns->Vals (ns.map V.int) vs
 | _,_,.nil=>.nil
 | _,_,.cons n t h=>.cons ⟨t,rfl⟩ (QH h)
def Q5p (H:Hp):Prop:=∀ b,H b=none\/∃ o xs,H b=some (.frz o (.lst xs))
theorem J4h {P:Program}{w:World}{K:Fg}{mg mb:Str->Option Value}{CX:CXT}{k:Nat}{fa a:Addr}{fd:FuncData}{x:Str}{sp:Sp}{s₁:Shared}{vs:List Value}{ns:List Int}
 (KX:K.In s₁.heap) (hns:s₁.heap.Ns mainGlobals mg) (hb:s₁.heap.Ns builtinsNs mb) (hbb:∀ x:Str,x≠"__name__"->mb x=bootBuiltins x) (hlim:s₁.heap.NoLimit) (hg:s₁.gens=#[])
 (ha:s₁.heap.get? a=some { cls:=.type "list",data:=.seq vs.toArray }) (hi:IntsAre vs ns) (hl:ns.length<=sizeLine) (hr:Room k callerA)
 (F:∀ base:Heap,K.In base->base.Ns mainGlobals mg->FnOk P w K mg base CX k fa fd [x] sp) (hbind:∀ (s:Shared) (u:Value),BindsTo s fd ⟨[u],[]⟩ [(x,u)])
 (hsp:∀ H:Hp,Q5p H->SqL K H a (ns.map V.int)->sp [.ref a] H (fun v _=>v=.bl true) fun _ _ _=>False)
 (hCX:∀ H e s',CX [] H s₁ (fun _ _ _=>False) e s'->False) :
 codeAny (model P w) callerA (.call (.ref fa) ⟨[.ref a],[]⟩) (fun r s'=>r=.ok (.ret (.bool true))/\OldK s₁.heap s'.heap/\s'.os=s₁.os/\AllBare s'.gens) s₁:=by
 have rv:=QH hi
 have lenV:=hi.length
 have core:∀ H:Hp,Q5p H->SqL K H a (ns.map V.int)->HOk P w H s₁.heap->(∀ b,H b≠none->b=a)->(H a≠none->K.lookup a=none) ->
  codeAny (model P w) callerA (.call (.ref fa) ⟨[.ref a],[]⟩) (fun r s'=>r=.ok (.ret (.bool true))/\OldK s₁.heap s'.heap/\s'.os=s₁.os/\AllBare s'.gens) s₁:=by
  intro H hO hS hok hA hK
  have base_of:∀ {b:Addr} {o:Obj},s₁.heap.get? b=some o->H b=none->(SK s₁.heap H).get? b=some o:=fun e n=>J4u e n
  have noA:∀ {b:Addr} {o:Obj} {es:Array DictEntry} {ep:Nat},s₁.heap.get? b=some o->o.data=.dict es ep->H b=none:=fun {b o es ep} e d=>by
   cases q:H b with
   | none=>rfl
   | some u =>
     have e':b=a:=hA b (by rw [q];simp)
     subst e'
     rw [ha] at e;cases e
     have d':Data.seq vs.toArray _=Data.dict es ep:=d
     cases d'
  have nsK:∀ {b:Addr} {m:Str->Option Value},s₁.heap.Ns b m->(SK s₁.heap H).Ns b m:=fun {b m} ⟨o,es,ep,e,d,r⟩=>⟨o,es,ep,base_of e (noA e d),d,r⟩
  have hKb:K.In (SK s₁.heap H):=fun b o e=>base_of (KX b o e) (by
   cases q:H b with
   | none=>rfl
   | some u =>
     have e':b=a:=hA b (by rw [q];simp)
     subst e'
     rw [hK (by rw [q];simp)] at e;cases e)
  have hM:Mod K mg (SK s₁.heap H):=⟨hKb,nsK hns,⟨mb,nsK hb,hbb⟩,let ⟨mc,h1,h2⟩:=hlim;⟨mc,nsK h1,h2⟩⟩
  have e0:Env0 P w K mg (SK s₁.heap H) callerA [] s₁ H:=⟨rfl,hM,fun b o e=>J8g e,Nat.le_of_eq (J1y _ _),trivial,fun b hb=>absurd (show b∈([]:List Addr) from hb) (by simp),hok,.of_eq hg⟩
  refine codeAny_mono ((F _ hKb (nsK hns)).run callerA [] s₁ H ⟨[.ref a],[]⟩ [.ref a] [.ref a] _ _ hr e0 (hbind s₁ (.ref a)) (.cons rfl .nil) (hsp H hO hS)) fun r s' h=>?_
  cases r with
  | error e=>exact (hCX H e s' h).elim
  | ok fl =>
    cases fl with
    | next=>exact False.elim h
    | brk=>exact False.elim h
    | cont=>exact False.elim h
    | ret u =>
      obtain ⟨v,H',os,bare,un,hok',r',q⟩:=h
      have q':v=.bl true:=q
      subst q'
      obtain rfl:u=Value.bool true:=r'
      refine ⟨rfl,OldK.of_keep fun b o e=>?_,os,bare⟩
      cases q:H b with
      | none=>exact un.keep b o e q (by intro z;exact absurd (show b∈([]:List Addr) from z) (by simp)) (by simp)
      | some u =>
        rcases hO b with z|⟨ob,xs,z⟩
        · rw [q] at z;cases z
        · have z2:=un.frzs b ob _ z
          obtain ⟨e1,_⟩:=hok b _ z
          obtain ⟨e2,_⟩:=hok' b _ z2
          rw [e] at e1;cases e1
          exact e2
 cases hk:K.lookup a with
 | some o =>
   have e:=KX a o hk
   rw [ha] at e
   cases e
   refine core (fun _=>none) (fun _=>.inl rfl) (.inr ⟨_,vs.toArray,_,hk,rfl,rfl,rfl,by rw [List.size_toArray,lenV];exact hl,by simpa using rv⟩) (fun b u z=>by have z':(none:Option HO)=some u:=z;cases z') (fun b z=>absurd rfl z) fun z=>absurd rfl z
 | none =>
   refine core (fun b=>if b=a then some (.frz { cls:=.type "list",data:=.seq vs.toArray } (.lst (ns.map V.int))) else none) (fun b=>?_) (.inl (.inr ⟨{ cls:=.type "list",data:=.seq vs.toArray },if_pos rfl⟩)) (fun b u z=>?_) (fun b z=>?_) fun _=>hk
   · by_cases hb:b=a
     · exact .inr ⟨_,_,if_pos hb⟩
     · exact .inl (if_neg hb)
   · by_cases hb:b=a
     · have z':=(if_pos hb).symm.trans z
       cases z'
       subst hb
       exact ⟨ha,by rw [List.length_map];exact hl,vs,_,rv,ha⟩
     · have z':=(if_neg hb).symm.trans z
       cases z'
   · by_cases hb:b=a
     · exact hb
     · exact absurd (if_neg hb) z
theorem J6x {l:PySem.W.OpenLaw}{n k:Nat}{q:Program}{loose:List Str}{XP:(Str->Option Value)->Heap->Prop}{YP:World->Heap->Prop}{d:DefRec}{K:Params->Fg}{CX:World->CXT}{sp:World->Sp}{x:Str}
 (hn:l.most=some n) (hn2:n<=sizeLine) (hdf:d.params.defaults=[]) (hr:Room k callerA)
 (hY:∀ (w:World) (h:Heap),YP w h->(K w.params).In h)
 (F:∀ (w:World) (mg:Str->Option Value) (fa:Addr) (h:Heap),(K w.params).In h->h.Ns mainGlobals mg->mg d.name=some (.ref fa) ->
  ∃ fd:FuncData,(∀ (s:Shared) (u:Value),BindsTo s fd ⟨[u],[]⟩ [(x,u)]) /\
   ∀ base:Heap,(K w.params).In base->base.Ns mainGlobals mg->FnOk l.prog w (K w.params) mg base (CX w) k fa fd [x] (sp w))
 (hsp:∀ (w:World) (H:Hp) (a:Addr) (ns:List Int),ns.length<=n->Q5p H->SqL (K w.params) H a (ns.map V.int)->sp w [.ref a] H (fun v _=>v=.bl true) fun _ _ _=>False)
 (hCX:∀ (w:World) (H:Hp) (s:Shared) (e:Value) (s':Shared),CX w [] H s (fun _ _ _=>False) e s'->False) :
 PySem.W.WalkO q loose XP YP l.row.toRowW d [] (fun f vs=>PySem.call f vs):=by
 refine Att.attach_call hn hdf fun w s₀ s₁ mg mb fa o pm cd doc a vs ns G Y ho hd hcd hmg hobj hints hlen hg=>?_
 have KX:=hY w _ Y
 obtain ⟨fd,hb,hF⟩:=F w mg fa _ KX G.T.g hmg
 exact J4h KX G.T.g G.T.b G.T.builtins G.T.nolimit hg hobj hints (Nat.le_trans hlen hn2) hr hF hb (fun H hO hS=>hsp w H a ns hlen hO hS) fun H e s'=>hCX w H s₁ e s'
def KW (s:Stmt):Arguments:=match s with
 | .FunctionDef _ a _ _ _ _ _ _ _ _=>a
 | _=>{ posonlyargs:=[],args:=[],vararg:=none,kwonlyargs:=[],kw_defaults:=[],kwarg:=none,defaults:=[] }
def BV (s:Stmt):List Stmt:=match s with
 | .FunctionDef _ _ b _ _ _ _ _ _ _=>b
 | _=>[]
def J3 (s:Stmt):Scope:=match s with
 | .FunctionDef _ _ _ _ _ _ sc _ _ _=>sc
 | _=>{ kind:=.function,names:=[],isGenerator:=false,isCoroutine:=false }
abbrev CX0:CXT:=fun _ _ _ _ _ _=>False
abbrev E0:XK:=fun _ _ _=>False
theorem Q6r {X:Cx}:FF CX0 X E0:=fun _ _ _ _ _ _ _ h=>h.elim
structure Fun (K:Fg)(x qual:Str)(st:Stmt)(f:Addr)(fd:FuncData):Prop where
 ex:∃ (oc:Value) (od:Option Addr) (kV doc pm:Value) (an:Option Addr) (cdv ct:Value) (osl:Array (Option Value)),
  fd=PySem.W.fnOf x qual (KW st) (BV st) (J3 st) .none kV doc pm an cdv ct/\K.lookup f=some ⟨oc,od,.func fd,osl⟩/\PySem.W.codeIn K cdv qual=true
 kp:PySem.W.keepIn K (.ref f)=true
section
variable {P:Program}{w:World}{K:Fg}{mg:Str->Option Value}{base:Heap}
theorem Fun.ok {x qual:Str}{st:Stmt}{f:Addr} {N ps:List Str}{k:Nat}{sp:Sp}(F:Fun K x qual st f fd)(S:FnScope N ps (J3 st))(len:∀ vs H Q E,sp vs H Q E->vs.length=ps.length)
 (hbody:∀ (cdv:Value) (A:Around) (outer:List Env) (s:Shared) (H:Hp) (vs:List V) (Q:VK) (E:XK),Room k (A.deeper (envOfC qual (J3 st) s.heap.objs.size f cdv))->sp vs H Q E ->
  ∃ t,PSs (V1 CX0 P w K mg base N qual (J3 st) f cdv A outer s H E).nox (BV st) t/\t { nx:=fun _ H'=>Q .non H',rt:=Q } (DM N vs) H):FnOk P w K mg base CX0 (k+1) f fd ps sp:=by
 obtain ⟨oc,od,kV,doc,pm,an,cdv,ct,osl,rfl,lk,hcd⟩:=F.ex
 refine Q0x lk hcd S len fun A outer s H vs Q E hr hsp=>?_
 obtain ⟨t,h,q⟩:=hbody cdv A outer s H vs Q E hr hsp
 exact ⟨t,h.nox,q⟩
theorem Fun.binds {x qual:Str}{st:Stmt}{f:Addr} {ps:List Str}(F:Fun K x qual st f fd)
 (h:∀ (kV doc pm:Value) (an:Option Addr) (cdv ct:Value) (us:List Value),us.length=ps.length->bindArgs (PySem.W.fnOf x qual (KW st) (BV st) (J3 st) .none kV doc pm an cdv ct) ⟨us,[]⟩=pure (ps.zip us)):Binds K fd ps []:=by
 obtain ⟨oc,od,kV,doc,pm,an,cdv,ct,osl,rfl,lk,hcd⟩:=F.ex
 exact .all (h kV doc pm an cdv ct)
theorem Q3q {x qual:Str}{st:Stmt}{f:Addr}{oc:Value}{od an:Option Addr}{osl:Array (Option Value)}{kV doc pm cdv ct:Value}(l:K.lookup f=some ⟨oc,od,.func (PySem.W.fnOf x qual (KW st) (BV st) (J3 st) .none kV doc pm an cdv ct),osl⟩)
 (c:PySem.W.codeIn K cdv qual=true) (k:PySem.W.keepIn K (.ref f)=true):Fun K x qual st f (PySem.W.fnOf x qual (KW st) (BV st) (J3 st) .none kV doc pm an cdv ct):=⟨⟨oc,od,kV,doc,pm,an,cdv,ct,osl,rfl,l,c⟩,k⟩
end
section
variable {X:Cx}
theorem pv (i:Nat) {x:Str} {pos:Pos} (hN:X.N[i]?=some x:=by rfl) (hv:Vis X.env.scope x:=by first|exact Or.inl rfl|exact Or.inr (Or.inl rfl)|exact Or.inr (Or.inr rfl)) (hd:(x==("__debug__" : Str))=false:=by decide)
 (hcd:(x==("__classdict__" : Str))=false:=by decide):PE X (.Name x pos) (HK i):=J3m hN hv hd hcd
end
theorem Q9k {A B:Prop}(h:B):if false=true then A else B:=by
 rw [if_neg Bool.false_ne_true]
 exact h
theorem Q9j {A B:Prop}(h:A):if true=true then A else B:=by
 rw [if_pos rfl]
 exact h
def Same (H H':Hp):Prop:=∀ b o,H b=some o->H' b=some o
theorem Same.refl (H:Hp):Same H H:=fun _ _ h=>h
theorem Same.trans {H H1 H2:Hp}(a:Same H H1)(b:Same H1 H2):Same H H2:=fun c o h=>b c o (a c o h)
theorem Same.free {H H':Hp}(e:Same H H'){l:Addr}(h:H' l=Option.none):H l=Option.none:=by
 cases q:H l with
 | none=>rfl
 | some o =>
   rw [e l o q] at h
   cases h
end L2
set_option maxHeartbeats 4000000
namespace L2
open PySem PySem.Spec PyProof.Rows
theorem SW {x:Str}{lo:Nat}:∀ (names:List (Str×NameKind)) (n:Nat) (acc:List (Str×Addr)),lo<=n->(∀ c,acc.lookup x=some c->lo<=c)->∀ c,(cellsFrom n names acc).lookup x=some c->lo<=c
 | [],_,_,_,h,c,e=>h c e
 | (y,k)::r,n,acc,hn,h,c,e=>by
   unfold cellsFrom at e
   split at e
   · refine SW r (n+1) ((y,n)::acc) (by omega) (fun c' e'=>?_) c e
     rw [List.lookup_cons] at e'
     cases hb:x==y with
     | true=>rw [hb] at e';cases e';exact hn
     | false=>rw [hb] at e';exact h c' e'
   · exact SW r n acc hn h c e
theorem YD {x:Str}{lo:Nat}:∀ (names:List (Str×NameKind)) (n:Nat) (acc:List (Str×Addr)),lo<=n->(x,NameKind.cell)∈names->∀ c,(cellsFrom n names acc).lookup x=some c->lo<=c
 | [],_,_,_,hm,_,_=>by cases hm
 | (y,k)::r,n,acc,hn,hm,c,e=>by
   unfold cellsFrom at e
   split at e
   · rcases List.mem_cons.mp hm with z|z
     · cases z
       refine SW r (n+1) ((x,n)::acc) (by omega) (fun c' e'=>?_) c e
       rw [List.lookup_cons,beq_self_eq_true] at e'
       cases e'
       exact hn
     · exact YD r (n+1) ((y,n)::acc) (by omega) z c e
   · rename_i hk
     rcases List.mem_cons.mp hm with z|z
     · cases z
       exact absurd rfl hk
     · exact YD r n acc hn z c e
theorem YE {x:Str}:∀ (names:List (Str×NameKind)) (n:Nat) (acc:List (Str×Addr)),¬ (x,NameKind.cell)∈names->(cellsFrom n names acc).lookup x=acc.lookup x
 | [],_,_,_=>rfl
 | (y,k)::r,n,acc,hm=>by
   unfold cellsFrom
   have hr:¬ (x,NameKind.cell)∈r:=fun z=>hm (List.mem_cons_of_mem _ z)
   split
   · rename_i hk
     rw [YE r (n+1) _ hr,List.lookup_cons]
     have hxy:(x==y)=false:=by
      cases hb:x==y with
      | false=>rfl
      | true =>
        have e1:x=y:=beq_iff_eq.mp hb
        have e2:k=NameKind.cell:=beq_iff_eq.mp hk
        subst e1 e2
        exact absurd List.mem_cons_self hm
     rw [hxy]
   · exact YE r n acc hr
theorem YF:∀ (names:List (Str×NameKind)) (n:Nat) (acc:List (Str×Addr)),(∀ x c,acc.lookup x=some c->c<n)->(∀ x y c,acc.lookup x=some c->acc.lookup y=some c->x=y) ->
 ∀ x y c,(cellsFrom n names acc).lookup x=some c->(cellsFrom n names acc).lookup y=some c->x=y
 | [],_,_,_,h,x,y,c,e1,e2=>h x y c e1 e2
 | (z,k)::r,n,acc,hb,h,x,y,c,e1,e2=>by
   unfold cellsFrom at e1 e2
   split at e1
   · rename_i hk
     rw [if_pos hk] at e2
     refine YF r (n+1) ((z,n)::acc) (fun x' c' e'=>?_) (fun x' y' c' e1' e2'=>?_) x y c e1 e2
     · rw [List.lookup_cons] at e'
       cases q:x'==z with
       | true=>rw [q] at e';cases e';exact Nat.lt_succ_self _
       | false=>rw [q] at e';exact Nat.lt_succ_of_lt (hb x' c' e')
     · rw [List.lookup_cons] at e1' e2'
       cases q1:x'==z with
       | true =>
         rw [q1] at e1'
         cases e1'
         cases q2:y'==z with
         | true=>rw [beq_iff_eq.mp q1,beq_iff_eq.mp q2]
         | false =>
           rw [q2] at e2'
           exact absurd (hb y' _ e2') (Nat.lt_irrefl _)
       | false =>
         rw [q1] at e1'
         cases q2:y'==z with
         | true =>
           rw [q2] at e2'
           cases e2'
           exact absurd (hb x' _ e1') (Nat.lt_irrefl _)
         | false =>
           rw [q2] at e2'
           exact h x' y' c' e1' e2'
   · rename_i hk
     rw [if_neg hk] at e2
     exact YF r n acc hb h x y c e1 e2
theorem VT:∀ (names:List (Str×NameKind)) (n:Nat) (acc:List (Str×Addr)) (x:Str) (c:Addr),(cellsFrom n names acc).lookup x=some c->acc.lookup x=some c\/n<=c
 | [],_,_,_,_,e=>.inl e
 | (z,k)::r,n,acc,x,c,e=>by
   unfold cellsFrom at e
   split at e
   · rcases VT r (n+1) ((z,n)::acc) x c e with q|q
     · rw [List.lookup_cons] at q
       cases hb:x==z with
       | true=>rw [hb] at q;cases q;exact .inr (Nat.le_refl _)
       | false=>rw [hb] at q;exact .inl q
     · exact .inr (by omega)
   · exact VT r n acc x c e
theorem SX:∀ (names:List (Str×NameKind)) (h:Heap) (acc:List (Str×Addr)),(∀ x c,acc.lookup x=some c->∃ v,h.IsCell c v) ->
 ∀ x c,(cellsFrom h.objs.size names acc).lookup x=some c->∃ v,(pushCells h names).IsCell c v
 | [],_,_,hh,x,c,e=>hh x c e
 | (z,k)::r,h,acc,hh,x,c,e=>by
   unfold cellsFrom at e
   unfold pushCells
   split at e
   · rename_i hk
     rw [if_pos hk]
     have e':(cellsFrom (h.push { cls:=.type "cell",data:=.cell none }).objs.size r ((z,h.objs.size)::acc)).lookup x=some c:=by rw [Heap.size_push];exact e
     refine SX r _ _ (fun x' c' q=>?_) x c e'
     rw [List.lookup_cons] at q
     cases hb:x'==z with
     | true =>
       rw [hb] at q
       cases q
       exact ⟨none,_,Heap.get?_push_size _ rfl,rfl⟩
     | false =>
       rw [hb] at q
       obtain ⟨v,w⟩:=hh x' c' q
       exact ⟨v,w.keeps fun b o e=>B4 _ e⟩
   · rename_i hk
     rw [if_neg hk]
     exact SX r h acc hh x c e
theorem SV {env:Env}(f:Str×NameKind->List (Str×Addr)->Sem (ForInStep (List (Str×Addr))))
 (hf:∀ name kind cs,f (name,kind) cs=if kind==.free then (do let a <- cellOf env name;pure (.yield ((name,a)::cs))) else pure (.yield cs)) :
 ∀ (names:List (Str×NameKind)) (acc:List (Str×Addr)),(∀ x,(x,NameKind.free)∈names->∃ c,env.cells.lookup x=some c)->(∀ x c,acc.lookup x=some c->env.cells.lookup x=some c) ->
  ∃ cl,forIn names acc f=pure cl/\(∀ x c,cl.lookup x=some c->env.cells.lookup x=some c)/\∀ x,((acc.lookup x).isSome=true\/(x,NameKind.free)∈names)->(cl.lookup x).isSome=true
 | [],acc,_,ha=>⟨acc,by rw [List.forIn_nil],ha,fun x h=>h.elim id fun z=>by cases z⟩
 | (name,kind)::r,acc,hn,ha=>by
   have hr:∀ x,(x,NameKind.free)∈r->∃ c,env.cells.lookup x=some c:=fun x hx=>hn x (List.mem_cons_of_mem _ hx)
   by_cases hk:(kind==NameKind.free)=true
   · have ek:kind=NameKind.free:=beq_iff_eq.mp hk
     subst ek
     obtain ⟨c,hc⟩:=hn name List.mem_cons_self
     obtain ⟨cl,e1,e2,e3⟩:=SV f hf r ((name,c)::acc) hr (fun x c' e=>by
      rw [List.lookup_cons] at e
      cases hb:x==name with
      | true=>rw [hb] at e;cases e;rw [beq_iff_eq.mp hb];exact hc
      | false=>rw [hb] at e;exact ha x c' e)
     refine ⟨cl,?_,e2,fun x hx=>e3 x ?_⟩
     · rw [List.forIn_cons,hf,if_pos hk]
       unfold cellOf
       rw [hc]
       simpa using e1
     · rcases hx with hx|hx
       · left
         rw [List.lookup_cons]
         cases hb:x==name with
         | true=>rfl
         | false=>exact hx
       · rcases List.mem_cons.mp hx with z|z
         · cases z
           left
           rw [List.lookup_cons,beq_self_eq_true]
           rfl
         · exact .inr z
   · obtain ⟨cl,e1,e2,e3⟩:=SV f hf r acc hr ha
     refine ⟨cl,?_,e2,fun x hx=>e3 x ?_⟩
     · rw [List.forIn_cons,hf,if_neg hk]
       simpa using e1
     · rcases hx with hx|hx
       · exact .inl hx
       · rcases List.mem_cons.mp hx with z|z
         · cases z
           exact absurd rfl hk
         · exact .inr z
theorem QE {scope:Scope}{env:Env}(hn:∀ x,(x,NameKind.free)∈scope.names->∃ c,env.cells.lookup x=some c) :
 ∃ cl,closureFor scope env=pure cl/\(∀ x c,cl.lookup x=some c->env.cells.lookup x=some c)/\∀ x,(x,NameKind.free)∈scope.names->(cl.lookup x).isSome=true:=by
 obtain ⟨cl,e1,e2,e3⟩:=SV (env:=env) (fun x cs=>match x with
  | (name,kind)=>if (kind==NameKind.free)=true then (do let a <- cellOf env name;pure (ForInStep.yield ((name,a)::cs))) else pure (ForInStep.yield cs)) (fun name kind cs=>rfl) scope.names [] hn (fun x c e=>by cases e)
 refine ⟨cl,?_,e2,fun x hx=>e3 x (.inr hx)⟩
 show (forIn scope.names [] _ >>= fun r=>pure r)=_
 refine Eq.trans (congrArg (fun m=>m >>= fun r=>pure r) e1) ?_
 simp
def YV (ifs:List Expr)(env:Env):Sem Bool:=forIn ifs true fun c r=>if r=true then do let ok <- isTrue c env (eval c env);pure (ForInStep.yield ok) else pure (ForInStep.yield r)
theorem SU {prog:Program}{w:World}{A:Around}{R:Result->Shared->Prop}{s:Shared}{elt target iter:Expr}{ifs:List Expr}{scope:Scope}{pos:Pos}{it acc:Value}{env:Env}(J:Nat->Shared->Prop)
 (turn:∀ n s,J n s->wpAny (model prog w) A (pyNext it) (fun r s₁=>match r with
  | none=>R (.ok .next) s₁
  | some v=>wpAny (model prog w) A (letOwnedTupleGo target it v) (fun _ s₁'=>wpAny (model prog w) A (assign target env v) (fun _ s₂=>wpAny (model prog w) A (YV ifs env) (fun ok s₃ =>
   if ok=true then wpAny (model prog w) A (eval elt env) (fun x s₄=>wpAny (model prog w) A (call (.builtin "list.append") [acc,x]) (fun _ s₅=>∃ m,m<n/\J m s₅) (notedBy (model prog w) A env fun e s'=>R (.error e) s') s₄)
    (notedBy (model prog w) A env fun e s'=>R (.error e) s') s₃
   else ∃ m,m<n/\J m s₃) (notedBy (model prog w) A env fun e s'=>R (.error e) s') s₂) (notedBy (model prog w) A env fun e s'=>R (.error e) s') s₁') (notedBy (model prog w) A env fun e s'=>R (.error e) s') s₁)
   (notedBy (model prog w) A env fun e s'=>R (.error e) s') s) (n:Nat) (h:J n s) :
 codeAny (model prog w) A (.compLoop (.ListComp elt [⟨target,iter,ifs,0⟩] scope pos) 0 it acc env) R s:=by
 refine codeAny_loop rfl J (fun n s hJ=>?_) n h
 show wpAny _ _ (Sem.onRaise (compTurn (.ListComp elt [⟨target,iter,ifs,0⟩] scope pos) 0 it acc env) fun x=>do noteFrame x env;theTreesLotGoes x) _ _ _
 refine wpAny_noted ?_
 rw [compTurn_list]
 refine B1 (wpAny_standAt (B1 (thn (turn n s hJ) fun r s₁ h₁=>?_)))
 cases r with
 | none=>exact B2 h₁
 | some v =>
   refine B1 (thn h₁ fun _ s₁' h₁'=>B1 (thn h₁' fun _ s₂ h₂=>B1 (thn h₂ fun ok s₃ h₃=>?_)))
   cases ok with
   | true=>exact B1 (B1 (thn h₃ fun x s₄ h₄=>B1 (thn h₄ fun _ s₅ h₅=>B2 (B2 ⟨rfl,h₅⟩))))
   | false=>exact B2 ⟨rfl,h₃⟩
def Q5t (X:Cx)(C:Addr)(e:Value)(s':Shared):Prop :=
 ∃ m,s'.heap.Ns C m/\∀ h',Heap.SameBut C s'.heap h'->∀ cenv:Env,cenv.locals=C->wpAny (model X.prog X.w) X.A (passOn "comprehension.variables-let-go" e cenv:Sem Value) (fun _ _=>False) X.xe { s' with heap:=h' }
def Q0 (X:Cx)(N:List Str)(scope:Scope)(cells:List (Str×Addr))(C:Addr)(fp:List Addr)(s:Shared)(H:Hp):Cx where
 prog:=X.prog
 w:=X.w
 K:=X.K
 mg:=X.mg
 base:=X.base
 A:=X.A
 N:=N
 s₀:=s
 H₀:=H
 env:=compEnvC scope cells C X.env
 outer:=X.stack
 stack:=X.stack
 ex:=fp
 fn:=fun x=>decide (scope.names.lookup x=some NameKind.cell)
 calm:=X.calm
 pn:=[]
 xe:=notedBy (model X.prog X.w) X.A (compEnvC scope cells C X.env) (Q5t X C)
def capt (σ:St)(map:List (Option Nat)):St:=map.map fun o=>o.bind fun i=>(σ[i]?).join
def CapOk (X:Cx)(scope:Scope):List (Option Nat)->List Str->Prop
 | [],[]=>True
 | none::m,_::n=>CapOk X scope m n
 | some i::m,x::n=>(X.N[i]?=some x/\scope.names.lookup x=some .free/\(scope.names.all fun p=>!(p.1==x&&p.2==NameKind.cell))=true/\(X.env.kindOf x=some .cell\/X.env.kindOf x=some .free))/\CapOk X scope m n
 | _,_=>False
theorem CapOk.length {X:Cx}{scope:Scope}:∀ {m:List (Option Nat)} {n:List Str},CapOk X scope m n->m.length=n.length
 | [],[],_=>rfl
 | none::m,_::n,h=>by simp [CapOk.length (m:=m) (n:=n) h]
 | some i::m,x::n,h=>by simp [CapOk.length (m:=m) (n:=n) h.2]
 | [],_::_,h=>h.elim
 | some _::_,[],h=>h.elim
 | none::_,[],h=>h.elim
theorem CapOk.get {X:Cx}{scope:Scope}:∀ {m:List (Option Nat)} {n:List Str} {j i:Nat} {x:Str},CapOk X scope m n->m[j]?=some (some i)->n[j]?=some x ->
 X.N[i]?=some x/\scope.names.lookup x=some .free/\¬ (x,NameKind.cell)∈scope.names/\(X.env.kindOf x=some .cell\/X.env.kindOf x=some .free)
 | [],[],_,_,_,_,e,_=>by simp at e
 | none::m,_::n,0,_,_,_,e,_=>by simp at e
 | none::m,_::n,j+1,i,x,h,e,e'=>CapOk.get (m:=m) (n:=n) (j:=j) h (by simpa using e) (by simpa using e')
 | some k::m,y::n,0,i,x,h,e,e'=>by
   have e1:k=i:=by simpa using e
   have e2:y=x:=by simpa using e'
   subst e1 e2
   obtain ⟨⟨h1,h2,h3,h4⟩,_⟩:=h
   refine ⟨h1,h2,fun hm=>?_,h4⟩
   have q:=List.all_eq_true.mp h3 _ hm
   simp at q
 | some k::m,y::n,j+1,i,x,h,e,e'=>CapOk.get (m:=m) (n:=n) (j:=j) h.2 (by simpa using e) (by simpa using e')
 | [],_::_,_,_,_,h,_,_=>h.elim
 | some _::_,[],_,_,_,h,_,_=>h.elim
 | none::_,[],_,_,_,h,_,_=>h.elim
def IE (g:TG)(map:List (Option Nat)):Prop:=∀ v σ H Q,g v σ H Q->g v σ H fun σ' H'=>(σ'.length=σ.length/\∀ j i:Nat,map[j]?=some (some i)->σ'[j]?=σ[j]?)/\Q σ' H'
def PIf (X:Cx)(ifs:List Expr)(t:TT):Prop :=
 ∀ (pins:List (Addr×Obj)) (s:Shared) (σ:St) (H:Hp) (Q:Bool->Hp->Prop),Inv X pins σ H s->t σ H Q->wpAny (model X.prog X.w) X.A (YV ifs X.env) (TP X pins σ Q) X.xe s
def Q5w:TT:=fun _ H Q=>Q true H
theorem J7v {X:Cx}:PIf X [] Q5w:=fun _ _ _ H _ I h=>B2 ⟨H,I,h⟩
theorem J7u {X:Cx}{c:Expr}{t:TT}(hc:PT X c t):PIf X [c] t:=fun pins s σ H Q I h=>by
 unfold YV
 simp only [List.forIn_cons,List.forIn_nil,if_true]
 exact B1 (B1 (thn (hc pins s σ H Q I h) fun b s' hb=>B2 (B2 hb)))
theorem DF {env:Env}{x:Str}{k:NameKind}:∀ {names:List (Str×NameKind)},
 (names.map fun (p:Str×NameKind)=>match p with|(n,k)=>if (k==NameKind.free&&env.scope.kind==.function&&env.kindOf n==some .cell) then (n,NameKind.cell) else (n,k)).lookup x=some k ->
 ∃ k',names.lookup x=some k'/\(k'=k\/(k'=.free/\k=.cell))
 | [],h=>by simp at h
 | (n,k')::r,h=>by
   rw [List.map_cons] at h
   by_cases hc:(k'==NameKind.free&&env.scope.kind==.function&&env.kindOf n==some .cell)=true
   · simp only [if_pos hc,List.lookup_cons] at h
     rw [List.lookup_cons]
     cases hx:x==n with
     | true =>
       rw [hx] at h
       cases h
       refine ⟨k',rfl,.inr ⟨?_,rfl⟩⟩
       simp only [Bool.and_eq_true,beq_iff_eq] at hc
       exact hc.1.1
     | false =>
       rw [hx] at h
       exact DF h
   · simp only [if_neg hc,List.lookup_cons] at h
     rw [List.lookup_cons]
     cases hx:x==n with
     | true =>
       rw [hx] at h
       cases h
       exact ⟨_,rfl,.inl rfl⟩
     | false =>
       rw [hx] at h
       exact DF h
theorem GS {env:Env}{x:Str}:∀ {names:List (Str×NameKind)},names.lookup x=some .free ->
 (names.map fun (p:Str×NameKind)=>match p with|(n,k)=>if (k==NameKind.free&&env.scope.kind==.function&&env.kindOf n==some .cell) then (n,NameKind.cell) else (n,k)).lookup x=some .cell \/
 (names.map fun (p:Str×NameKind)=>match p with|(n,k)=>if (k==NameKind.free&&env.scope.kind==.function&&env.kindOf n==some .cell) then (n,NameKind.cell) else (n,k)).lookup x=some .free
 | [],h=>by simp at h
 | (n,k')::r,h=>by
   rw [List.map_cons]
   rw [List.lookup_cons] at h
   by_cases hc:(k'==NameKind.free&&env.scope.kind==.function&&env.kindOf n==some .cell)=true
   · simp only [if_pos hc,List.lookup_cons]
     cases hx:x==n with
     | true=>exact .inl rfl
     | false =>
       rw [hx] at h
       exact GS h
   · simp only [if_neg hc,List.lookup_cons]
     cases hx:x==n with
     | true =>
       rw [hx] at h
       cases h
       exact .inr rfl
     | false =>
       rw [hx] at h
       exact GS h
section
variable {X:Cx}{elt iter tg:Expr}{ifs:List Expr}{scope:Scope}{pos:Pos}{N':List Str}{map:List (Option Nat)}{wi:TI}{g:TG}{tt:TT}{te:TE}
def MR (J:It)(g:TG)(tt:TT)(te:TE)(σc:St)(Fin:List V->Hp->Prop)(W:Nat->Nat->List V->Hp->Prop):Prop :=
 ∀ i m acc H2,W i m acc H2->(J.stop i H2/\acc.length<=sizeLine/\Fin acc H2) \/
  (J.go i H2/\acc.length<sizeLine/\∃ N:List V->Hp->Prop,(∀ acc' H',N acc' H'->∃ m',m'<m/\W (i+1) m' acc' H')/\∀ x H3,J.yld i H2 x H3->g x σc H3 fun σ4 H4=>tt σ4 H4 fun b H5=>if b=true then te σ4 H5 fun v H6=>N (acc++[v]) H6 else N acc H5)
structure TurnG (R:Cx->Prop)(P:Program)(w:World)(K:Fg)(tg:Expr)(J:It)(fp:List Addr)(it:Addr)(tn:Nat->Heap->Prop):Prop where
 mem:it∈fp
 obj:∀ i h,tn i h->∀ b∈fp,∃ o,h.get? b=some o/\∀ v,o.data≠.cell v
 keep:∀ i h h',tn i h->(∀ b∈fp,∀ o,h.get? b=some o->h'.get? b=some o)->tn i h'
 item:∀ (X:Cx),X.prog=P->X.w=w->X.K=K->R X->∀ (i:Nat) (pins:List (Addr×Obj)) (s:Shared) (σ:St) (H:Hp) (E:Value->Shared->Prop),Inv X pins σ H s->(∀ b∈fp,HJ X pins H b)->tn i s.heap->J.go i H->wpAny (model P w) X.A (pyNext (.ref it)) (fun r s1=>∃ u,r=some u /\
  wpAny (model P w) X.A (letOwnedTupleGo tg (.ref it) u) (fun _ s2=>∃ x H',Inv X pins σ H' s2/\RelV x u/\J.yld i H x H'/\tn (i+1) s2.heap/\∀ b∈fp,H' b=none) E s1) E s
 done:∀ (X:Cx),X.prog=P->X.w=w->X.K=K->R X->∀ (i:Nat) (pins:List (Addr×Obj)) (s:Shared) (σ:St) (H:Hp) (E:Value->Shared->Prop),Inv X pins σ H s->(∀ b∈fp,HJ X pins H b)->tn i s.heap->J.stop i H->wpAny (model P w) X.A (pyNext (.ref it)) (fun r s1=>r=none/\Inv X pins σ H s1) E s
 self:∀ (A:Around) (i:Nat) (s:Shared) (Q:Value->Shared->Prop) (E:Value->Shared->Prop),tn i s.heap->Q (.ref it) s->wpAny (model P w) A (pyIter (.ref it)) Q E s
theorem Turn.gen {tg:Expr}{J:It}{fp:List Addr}{it:Addr}{tn:Nat->Heap->Prop}(T:Turn P w K tg J fp it tn):TurnG (fun X=>X.calm=true) P w K tg J fp it tn:=⟨T.mem,T.obj,T.keep,T.item,T.done,T.self⟩
structure BlkM (X:Cx)(N':List Str)(scope:Scope)(map:List (Option Nat))(tg elt:Expr)(ifs:List Expr)(g:TG)(tt:TT)(te:TE):Prop where
 kind:scope.kind=.function
 loc:∀ x∈scope.names,x.2=.local->scope.names.lookup x.1=some .local
 free:(scope.names.all fun p=>!(p.2==NameKind.free)||(X.env.kindOf p.1==some .cell||X.env.kindOf p.1==some .free))=true
 cap:CapOk X scope map N'
 keep:IE g map
 run:∀ cells C fp s H,PG (Q0 X N' scope cells C fp s H) tg g/\PIf (Q0 X N' scope cells C fp s H) ifs tt/\PE (Q0 X N' scope cells C fp s H) elt te
structure Blk (X:Cx)(N':List Str)(scope:Scope)(map:List (Option Nat))(tg elt:Expr)(ifs:List Expr)(g:TG)(tt:TT)(te:TE):Prop where
 calm:X.calm=true
 kind:scope.kind=.function
 loc:∀ x∈scope.names,x.2=.local->scope.names.lookup x.1=some .local
 free:(scope.names.all fun p=>!(p.2==NameKind.free)||(X.env.kindOf p.1==some .cell||X.env.kindOf p.1==some .free))=true
 cap:CapOk X scope map N'
 keep:IE g map
 run:∀ cells C fp s H,PG (Q0 X N' scope cells C fp s H) tg g/\PIf (Q0 X N' scope cells C fp s H) ifs tt/\PE (Q0 X N' scope cells C fp s H) elt te
theorem Blk.m (B:Blk X N' scope map tg elt ifs g tt te):BlkM X N' scope map tg elt ifs g tt te:=⟨B.kind,B.loc,B.free,B.cap,B.keep,B.run⟩
theorem J0e {pins:List (Addr×Obj)}{σ:St}{H1:Hp}{s2:Shared}{cl:List (Str×Addr)}{fp:List Addr}(I:Inv X pins σ H1 s2)(B:BlkM X N' scope map tg elt ifs g tt te)
 (hsub:∀ x c,cl.lookup x=some c->X.env.cells.lookup x=some c) (hhas:∀ x,(x,NameKind.free)∈scope.names->(cl.lookup x).isSome=true)
 (hf:∀ b∈fp,HJ X pins H1 b) (hfo:∀ b∈fp,∃ o,s2.heap.get? b=some o) (C:Addr) (h3:Heap) (hC:s2.heap.objs.size<=C) (k3:∀ b o,s2.heap.get? b=some o->h3.get? b=some o) (hCsz:C<h3.objs.size) (hns:h3.Ns C fun _=>none) (tk:Nat) :
 Inv (Q0 X N' scope (cellsFrom h3.objs.size scope.names cl) C fp s2 H1) [] (capt σ map) H1 { s2 with heap:=pushCells h3 scope.names,toks:=tk }:=by
 have kk:∀ b o,s2.heap.get? b=some o->(pushCells h3 scope.names).get? b=some o:=fun b o e=>pushCells_keeps _ _ b o (k3 b o e)
 have fsz:∀ b∈fp,b<s2.heap.objs.size:=fun b hb=>by obtain ⟨o,e⟩:=hfo b hb;exact B5 e
 have clz:∀ x c,cl.lookup x=some c->c<s2.heap.objs.size:=fun x c e=>by
  obtain ⟨v,o,ho,_⟩:=I.cell x c (hsub x c e)
  exact B5 ho
 have h3sz:s2.heap.objs.size<h3.objs.size:=Nat.lt_of_le_of_lt hC hCsz
 have cof:∀ x c,(cellsFrom h3.objs.size scope.names cl).lookup x=some c->X.env.cells.lookup x=some c\/h3.objs.size<=c:=fun x c e=>(VT _ _ _ x c e).imp (hsub x c) id
 have cnb:∀ x c,(cellsFrom h3.objs.size scope.names cl).lookup x=some c->∀ b∈fp,c≠b:=fun x c e b hb z=>by
  rcases cof x c e with q|q
  · exact (hf b hb).2.2.2.2.1 x c q z
  · have h1:=fsz b hb
    rw [<- z] at h1
    exact absurd (Nat.lt_of_lt_of_le (Nat.lt_trans h1 h3sz) q) (Nat.lt_irrefl _)
 have fnf:∀ b∈fp,b∉frs X.stack:=fun b hb hm=>by
  obtain ⟨_,f1,f2,_⟩:=hf b hb
  rcases List.mem_cons.mp (I.stkSub b hm) with z|z
  · exact f1 z
  · exact f2 z
 have cellI:∀ x c,(cellsFrom h3.objs.size scope.names cl).lookup x=some c->∃ v,(pushCells h3 scope.names).IsCell c v:=fun x c e =>
  SX scope.names h3 cl (fun x' c' q=>by
   obtain ⟨v,w⟩:=I.cell x' c' (hsub x' c' q)
   exact ⟨v,w.keeps k3⟩) x c e
 have hC0:H1 C=none:=I.hok.fresh hC
 have ok:(Q0 X N' scope (cellsFrom h3.objs.size scope.names cl) C fp s2 H1).Ok :=
  { mod:=I.ok.mod
    kind:=B.kind
    glob:=I.ok.glob
    blt:=I.ok.blt
    above:=hC
    inj:=YF scope.names h3.objs.size cl (fun x c e=>Nat.lt_trans (clz x c e) h3sz) fun x y c e1 e2=>I.ok.inj x y c (hsub x c e1) (hsub y c e2)
    has:=fun x hx=>by
     have hx:(relabel scope X.env).names.lookup x=some .cell\/(relabel scope X.env).names.lookup x=some .free:=hx
     have goal:(scope.names.lookup x=some .cell\/(cl.lookup x).isSome=true):=by
      rcases hx with q|q
      · obtain ⟨k',e1,e2⟩:=DF q
        rcases e2 with z|⟨z,_⟩
        · exact .inl (by rw [e1,z])
        · exact .inr (hhas x (PySem.mem_of_lookup (by rw [e1,z])))
      · obtain ⟨k',e1,e2⟩:=DF q
        rcases e2 with z|⟨z,z'⟩
        · exact .inr (hhas x (PySem.mem_of_lookup (by rw [e1,z])))
        · cases z'
     exact Option.isSome_iff_exists.mp (PySem.W.cellsFrom_some scope.names h3.objs.size cl goal)
    cab:=fun x c hx e=>Nat.le_of_lt (Nat.lt_of_lt_of_le h3sz (YD scope.names h3.objs.size cl (Nat.le_refl _) (PySem.mem_of_lookup (of_decide_eq_true hx)) c e))
    hd:=I.ok.hd
    frames:=I.ok.frames
    stk:=.inl rfl
    exf:=fun b hb=>⟨fun z=>absurd (fsz b hb) (by rw [z];exact Nat.not_lt.mpr hC),fun x c e=>cnb x c e b hb⟩
    bs:=I.bs
    bsz:=Nat.le_trans I.ok.bsz I.sz
    noex:=fun b o e hb=>by
     rcases (hf b hb).2.2.2.1 with z|z
     · exact I.ok.noex b o e z
     · exact absurd (B5 (I.ok.bs b o e).1) (Nat.not_lt.mpr z)
    exfs:=fnf
    funs:=I.stack
    frf:=I.stkFree }
 refine ⟨ok,rfl,I.bare,Un.kept kk,⟨fun _=>none,hns.keeps fun b o e=>pushCells_keeps _ _ b o e,fun j x v e1 e2 e3=>?_⟩,cellI,hC0,fun x c e=>?_,fun p hp=>absurd (show p∈([]:List (Addr×Obj)) from hp) (by simp),I.hok.kept kk,?_⟩
 · have e2':(capt σ map)[j]?=some (some v):=e2
   unfold capt at e2'
   rw [List.getElem?_map] at e2'
   cases hm:map[j]? with
   | none=>rw [hm] at e2';cases e2'
   | some o =>
     rw [hm] at e2'
     cases o with
     | none=>simp at e2'
     | some i =>
       have e2'':(σ[i]?).join=some v:=by simpa using e2'
       have hσ:σ[i]?=some (some v):=by
        cases q:σ[i]? with
        | none=>rw [q] at e2'';cases e2''
        | some o' =>
          rw [q] at e2''
          have:o'=some v:=by simpa using e2''
          rw [this]
       obtain ⟨c1,c2,c3,c4⟩:=B.cap.get hm e1
       obtain ⟨m,hn,hl⟩:=I.loc
       have vis:Vis X.env.scope x:=by
        rcases c4 with z|z
        · exact .inr (.inl z)
        · exact .inr (.inr z)
       obtain ⟨u,r,l⟩:=hl i x v c1 hσ vis
       refine ⟨u,r,?_⟩
       rcases l with ⟨z,_⟩|⟨_,c,ec,hcell⟩
       · rcases c4 with q|q
         · rw [q] at z;cases z
         · rw [q] at z;cases z
       · right
         refine ⟨GS c2,c,?_,hcell.keeps kk⟩
         show (cellsFrom h3.objs.size scope.names cl).lookup x=some c
         rw [YE _ _ _ c3]
         obtain ⟨c',hc'⟩:=Option.isSome_iff_exists.mp (hhas x (PySem.mem_of_lookup c2))
         have:=hsub x c' hc'
         rw [ec] at this
         cases this
         exact hc'
 · rcases cof x c e with q|q
   · exact I.freeC x c q
   · exact I.hok.fresh (Nat.le_trans (Nat.le_of_lt h3sz) q)
 · show (capt σ map).length=N'.length
   unfold capt
   rw [List.length_map]
   exact B.cap.length
theorem J0d {pins:List (Addr×Obj)}{σ:St}{H1:Hp}{s2:Shared}{cl:List (Str×Addr)}{fp:List Addr}{it:Addr}{tn:Nat->Heap->Prop}{J:It}{E:Value->Shared->Prop}(I:Inv X pins σ H1 s2)(B:BlkM X N' scope map tg elt ifs g tt te)
 (hsub:∀ x c,cl.lookup x=some c->X.env.cells.lookup x=some c) (hhas:∀ x,(x,NameKind.free)∈scope.names->(cl.lookup x).isSome=true)
 {R:Cx->Prop} (hR:∀ cells C fp s H,R (Q0 X N' scope cells C fp s H)) (T:TurnG R X.prog X.w X.K tg J fp it tn) (st:tn 0 s2.heap) (hf:∀ b∈fp,HJ X pins H1 b) {Fin:List V->Hp->Prop} {W:Nat->Nat->List V->Hp->Prop} {m0:Nat} (w0:W 0 m0 [] H1) (ht:MR J g tt te (capt σ map) Fin W)
 {RR:Value->Addr->Result->Shared->Prop}
 (hOk:∀ D C acc H' s' m,Inv X pins σ (upd H' D (.lst acc)) s'->H' D=none->s'.heap.Ns C m->upd H' D (.lst acc) C=none->C≠X.env.locals->X.s₀.heap.objs.size<=C->(∀ x c,X.env.cells.lookup x=some c->c≠C)->(∀ p∈X.pn++pins,p.1≠C)->Fin acc H'->RR (.ref D) C (.ok .next) s')
 (hErr:∀ D C e s',Q5t X C e s'->RR (.ref D) C (.error e) s') :
 wpAny (model X.prog X.w) X.A (newList []) (fun acc s3=>wpAny (model X.prog X.w) X.A (newFunctionEnv scope X.env.globals cl [] X.env.qual none .none (some X.env)) (fun cenv s4 =>
  codeAny (model X.prog X.w) X.A (.compStart (.ListComp elt [⟨tg,iter,ifs,0⟩] scope pos) 0 (.ref it) acc { cenv with scope:=relabel scope X.env }) (RR acc cenv.locals) s4) E s3) E s2:=by
 have fo:∀ b∈fp,∃ o,s2.heap.get? b=some o:=fun b hb=>by obtain ⟨o,e,_⟩:=T.obj 0 _ st b hb;exact ⟨o,e⟩
 refine wpAny_newObj_type ?_
 generalize hH2:s2.heap.push { cls:=.type "list",dict:=none,data:=.seq ([]:List Value).toArray }=H2
 have szD:H2.objs.size=s2.heap.objs.size+1:=by rw [<- hH2,Heap.size_push]
 have kD:∀ b o,s2.heap.get? b=some o->H2.get? b=some o:=fun b o e=>hH2▸B4 _ e
 simp only [newFunctionEnv,Option.isSome_some,if_true]
 refine B1 (wpAny_alloc ?_)
 refine B1 (wpAny_layCells _ (fun name kind cells=>by cases hkc:kind==NameKind.cell<;>simp [hkc]) _ _ _ _ ?_)
 dsimp only
 generalize hH3:H2.push { cls:=.type "dict",dict:=none,data:=.dict #[] }=h3
 have sz3:h3.objs.size=H2.objs.size+1:=by rw [<- hH3,Heap.size_push]
 have kC:∀ b o,H2.get? b=some o->h3.get? b=some o:=fun b o e=>hH3▸B4 _ e
 have nsC:h3.Ns H2.objs.size fun _=>none:=hH3▸Heap.Ns.new H2 (.type "dict")
 refine B1 (B2 (B2 ?_))
 show codeAny _ _ (.compStart (.ListComp elt [⟨tg,iter,ifs,0⟩] scope pos) 0 (.ref it) (.ref s2.heap.objs.size) (compEnvC scope (cellsFrom h3.objs.size scope.names cl) H2.objs.size X.env)) _ _
 generalize hX':Q0 X N' scope (cellsFrom h3.objs.size scope.names cl) H2.objs.size fp s2 H1=X'
 have I4:Inv X' [] (capt σ map) H1 { s2 with heap:=pushCells h3 scope.names }:=hX'▸J0e I B hsub hhas hf fo H2.objs.size h3 (by rw [szD];exact Nat.le_succ _) (fun b o e=>kC b o (kD b o e)) (by rw [sz3];exact Nat.lt_succ_self _) nsC s2.toks
 obtain ⟨pg,pif,pel⟩:=B.run (cellsFrom h3.objs.size scope.names cl) H2.objs.size fp s2 H1
 rw [hX'] at pg pif pel
 have eprog:X'.prog=X.prog:=by rw [<- hX'];rfl
 have ew:X'.w=X.w:=by rw [<- hX'];rfl
 have eK:X'.K=X.K:=by rw [<- hX'];rfl
 have eA:X'.A=X.A:=by rw [<- hX'];rfl
 have ecalm:R X':=by rw [<- hX'];exact hR _ _ _ _ _
 have eenv:X'.env=compEnvC scope (cellsFrom h3.objs.size scope.names cl) H2.objs.size X.env:=by rw [<- hX'];rfl
 have exe:X'.xe=notedBy (model X.prog X.w) X.A (compEnvC scope (cellsFrom h3.objs.size scope.names cl) H2.objs.size X.env) (Q5t X H2.objs.size):=by rw [<- hX'];rfl
 have es0:X'.s₀=s2:=by rw [<- hX'];rfl
 have eH0:X'.H₀=H1:=by rw [<- hX'];rfl
 have eex:X'.ex=fp:=by rw [<- hX'];rfl
 have efs:X'.fs=frs X.stack:=by rw [<- hX'];rfl
 have epn:X'.pn=[]:=by rw [<- hX'];rfl
 have eL:X'.env.locals=H2.objs.size:=by rw [eenv];rfl
 generalize hDd:s2.heap.objs.size=D at *
 have fD:∀ b∈fp,b≠D:=fun b hb=>by obtain ⟨o,e⟩:=fo b hb;exact Nat.ne_of_lt (hDd▸B5 e)
 have nfsD:D∉X'.fs:=fun hb=>by
  rw [efs] at hb
  have h1:=I.stkSub D hb
  rcases List.mem_cons.mp h1 with z|z
  · have:=I.lt;rw [hDd,<- z] at this;exact Nat.lt_irrefl _ this
  · exact I.nofs (by rw [hDd];exact Nat.le_refl _) z
 have ncD:∀ x c,X'.env.cells.lookup x=some c->c≠D:=fun x c e z=>by
  rw [eenv] at e
  rcases VT _ _ _ x c e with q|q
  · obtain ⟨v,o,ho,_⟩:=I.cell x c (hsub x c q)
    have:=B5 ho
    rw [hDd,z] at this
    exact Nat.lt_irrefl _ this
  · rw [z,sz3,szD] at q
    exact absurd (Nat.lt_of_lt_of_le (Nat.lt_succ_of_lt (Nat.lt_succ_self D)) q) (Nat.lt_irrefl _)
 have f4:∀ {H':Hp} {pl:List (Addr×Obj)},(∀ b∈fp,H' b=none)->(∀ p∈pl,p.1=D)->∀ b∈fp,HJ X' pl H' b:=fun {H' pl} hn hpl b hb=>by
  have q:=hf b hb
  refine ⟨hn b hb,?_,?_,.inl (by rw [eex];exact hb),fun x c e=>?_,fun p hp=>?_⟩
  · rw [eL]
    obtain ⟨o,e⟩:=fo b hb
    have:=B5 e
    rw [hDd] at this
    intro z
    rw [z,szD] at this
    exact absurd (Nat.lt_of_succ_lt this) (Nat.lt_irrefl _)
  · have:=I4.ok.exfs b (by rw [eex];exact hb)
    exact this
  · exact (I4.ok.exf b (by rw [eex];exact hb)).2 x c e
  · rw [epn] at hp
    have hp:p∈pl:=by simpa using hp
    rw [hpl p hp]
    exact (fD b hb).symm
 have noCell:∀ {its:Array Value} {n:Nat} (v:Option Value),({ cls:=.type "list",data:=.seq its n }:Obj).data≠.cell v:=fun v z=>by cases z
 have hD4:(pushCells h3 scope.names).get? D=some { cls:=.type "list",data:=.seq ([]:List Value).toArray 0 }:=pushCells_keeps _ _ _ _ (kC _ _ (by rw [<- hH2,<- hDd];exact Heap.get?_push_size _ rfl))
 have loop:codeAny (model X.prog X.w) X.A (.compLoop (.ListComp elt [⟨tg,iter,ifs,0⟩] scope pos) 0 (.ref it) (.ref D) (compEnvC scope (cellsFrom h3.objs.size scope.names cl) H2.objs.size X.env)) (RR (.ref D) H2.objs.size) { s2 with heap:=pushCells h3 scope.names }:=by
  refine SU (fun n s'=>∃ i acc H' its k,Inv X' [] (capt σ map) H' s'/\tn i s'.heap/\(∀ b∈fp,H' b=none)/\H' D=none/\s'.heap.get? D=some { cls:=.type "list",data:=.seq (List.toArray its) k }/\Vals acc its/\W i n acc H') ?_ m0
   ⟨0,[],H1,[],0,I4,T.keep _ _ _ st fun b hb o e=>pushCells_keeps _ _ _ _ (kC _ _ (kD _ _ e)),fun b hb=>(hf b hb).1,I.hok.fresh (by rw [hDd];exact Nat.le_refl _),hD4,.nil,w0⟩
  rintro n s5 ⟨i,acc,H5,its,k,I5,st5,fr5,hD5,oD5,rv5,w5⟩
  have pinD:Inv X' [(D,{ cls:=.type "list",data:=.seq (List.toArray its) k })] (capt σ map) H5 s5:=I5.pins_of fun p hp=>by
   have e:p=(D,{ cls:=.type "list",data:=.seq (List.toArray its) k }):=by simpa using hp
   subst e
   refine ⟨oD5,hD5,?_,nfsD,fun v=>noCell v⟩
   rw [eL,szD]
   exact Nat.ne_of_lt (Nat.lt_succ_self _)
  have plD:∀ p∈[(D,({ cls:=.type "list",data:=.seq (List.toArray its) k }:Obj))],p.1=D:=fun p hp=>by
   have e:p=(D,{ cls:=.type "list",data:=.seq (List.toArray its) k }):=by simpa using hp
   rw [e]
  have err:∀ e s',X'.xe e s'->notedBy (model X.prog X.w) X.A (compEnvC scope (cellsFrom h3.objs.size scope.names cl) H2.objs.size X.env) (fun e s'=>RR (.ref D) H2.objs.size (.error e) s') e s':=fun e s' he=>by
   rw [exe] at he
   exact wpAny_mono he (fun _ s'' q=>hErr D _ e s'' q) fun e'' s'' q=>hErr D _ e'' s'' q
  rcases ht i n acc H5 w5 with ⟨stop,hsz,fin⟩|⟨go,hsz,NN,hNN,step⟩
  · have dn:=T.done X' eprog ew eK ecalm i _ s5 (capt σ map) H5 (notedBy (model X.prog X.w) X.A (compEnvC scope (cellsFrom h3.objs.size scope.names cl) H2.objs.size X.env) fun e s'=>RR (.ref D) H2.objs.size (.error e) s') pinD (f4 fr5 plD) st5 stop
    rw [eA] at dn
    refine thn dn fun r s6 ⟨hr,I6⟩=>?_
    subst hr
    obtain ⟨oD6,hD6,_⟩:=I6.pin (D,_) (by rw [epn];exact List.mem_cons_self)
    obtain ⟨m,nsm,_⟩:=I6.loc
    rw [eL] at nsm
    have un:=I6.base
    rw [efs,eex,eH0,es0] at un
    have hok:=I6.hok
    rw [eprog,ew] at hok
    have os6:=I6.os
    rw [es0] at os6
    have fC:H5 H2.objs.size=none:=by rw [<- eL];exact I6.free
    have nDC:H2.objs.size≠D:=by rw [szD];exact Nat.ne_of_gt (Nat.lt_succ_self _)
    refine hOk D H2.objs.size acc H5 s6 m (I.call' (ch:=fp) os6 ?_ ?_ I6.bare fun b hb=>?_) hD5 nsm (by rw [V3 nDC];exact fC) ?_ ?_ ?_ ?_ fin
    · refine ⟨un.keep,un.slot,fun b o e n hx=>?_,un.there,fun b xs e=>?_,fun b o u e=>?_,fun b ps e=>?_⟩
      · rw [V3 (Nat.ne_of_lt (hDd▸B5 e))]
        exact un.free b o e n hx
      · have:=un.tups b xs e
        rw [V3 (Y2 this hD5)]
        exact this
      · have:=un.frzs b o u e
        rw [V3 (Y2 this hD5)]
        exact this
      · obtain ⟨more,this⟩:=un.tbls b ps e
        exact ⟨more,by rw [V3 (Y2 this hD5)];exact this⟩
    · intro b o e
      by_cases hb:b=D
      · subst hb
        rw [V8] at e
        cases e
        exact ⟨hsz,its,k,rv5,oD6⟩
      · rw [V3 hb] at e
        exact (hok b o e).stay (fun _ _ _ q=>q) (fun c q=>by rw [V3 (Y2 q hD5)];exact q) fun c xs q=>by rw [V3 (Y2 q hD5)];exact q
    · obtain ⟨f0,f1,f2,f3,f4',f5⟩:=hf b hb
      exact ⟨f3,f1,f4',f5⟩
    · have:=I.lt
      rw [hDd] at this
      intro z
      rw [<- z,szD] at this
      exact absurd (Nat.lt_of_succ_lt this) (Nat.lt_irrefl _)
    · have:=I.sz
      rw [hDd] at this
      omega
    · intro x c e z
      obtain ⟨v,o,ho,_⟩:=I.cell x c e
      have:=B5 ho
      rw [hDd,z,szD] at this
      exact absurd (Nat.lt_of_succ_lt this) (Nat.lt_irrefl _)
    · intro p hp z
      have:=B5 (I.pin p hp).1
      rw [hDd,z,szD] at this
      exact absurd (Nat.lt_of_succ_lt this) (Nat.lt_irrefl _)
  · have im:=T.item X' eprog ew eK ecalm i _ s5 (capt σ map) H5 (notedBy (model X.prog X.w) X.A (compEnvC scope (cellsFrom h3.objs.size scope.names cl) H2.objs.size X.env) fun e s'=>RR (.ref D) H2.objs.size (.error e) s') pinD (f4 fr5 plD) st5 go
    rw [eA] at im
    refine thn im fun r s6 ⟨u,hr,h6⟩=>?_
    subst hr
    refine thn h6 fun _ s7 ⟨x,H7,I7,r7,y7,st7,fr7⟩=>?_
    have I7':=I7.pinned (f4 fr7 plD) (T.obj _ _ st7)
    have stp:=B.keep _ _ _ _ (step x H7 y7)
    have pgx:=pg _ s7 (capt σ map) H7 x u _ I7' r7 stp
    rw [eprog,ew,eA,eenv] at pgx
    refine wpAny_mono pgx (fun _ s8 ⟨σ8,H8,I8,⟨kl,k8⟩,q8⟩=>?_) err
    have pix:=pif _ s8 σ8 H8 _ I8 q8
    rw [eprog,ew,eA,eenv] at pix
    refine wpAny_mono pix (fun b s9 ⟨H9,I9,q9⟩=>?_) err
    have wk:∀ {σa:St} {Ha:Hp} {sa:Shared},σa=σ8->Inv X' ([(D,({ cls:=.type "list",data:=.seq (List.toArray its) k }:Obj))]++GU fp s7.heap) σa Ha sa ->
     Inv X' [] (capt σ map) Ha sa/\tn (i+1) sa.heap/\(∀ b∈fp,Ha b=none)/\Ha D=none/\sa.heap.get? D=some { cls:=.type "list",data:=.seq (List.toArray its) k }:=fun {σa Ha sa} ea Ia=>by
     subst ea
     refine ⟨(Ia.pins_of (pins':=[]) fun p hp=>absurd hp (by simp)).weak kl.symm fun j v e=>?_,T.keep _ _ _ st7 fun b hb o e=>(Ia.pin (b,o) (List.mem_append_right _ (List.mem_append_right _ (CA hb e)))).1,fun b hb=>?_,?_,?_⟩
     · have e':=e
       unfold capt at e'
       rw [List.getElem?_map] at e'
       cases hm:map[j]? with
       | none=>rw [hm] at e';cases e'
       | some o =>
         rw [hm] at e'
         cases o with
         | none=>simp at e'
         | some i'=>rw [k8 j i' hm];exact e
     · obtain ⟨o,e,d⟩:=T.obj _ _ st7 b hb
       exact (Ia.pin (b,o) (List.mem_append_right _ (List.mem_append_right _ (CA hb e)))).2.1
     · exact (Ia.pin (D,_) (List.mem_append_right _ (List.mem_append_left _ List.mem_cons_self))).2.1
     · exact (Ia.pin (D,_) (List.mem_append_right _ (List.mem_append_left _ List.mem_cons_self))).1
    cases b with
    | false =>
      rw [if_neg Bool.false_ne_true] at q9 ⊢
      obtain ⟨m',hm',w9⟩:=hNN _ _ q9
      obtain ⟨a1,a2,a3,a4,a5⟩:=wk rfl I9
      exact ⟨m',hm',i+1,acc,H9,its,k,a1,a2,a3,a4,a5,rv5,w9⟩
    | true =>
      rw [if_pos rfl] at q9 ⊢
      have pex:=pel _ s9 σ8 H9 _ I9 q9
      rw [eprog,ew,eA,eenv] at pex
      refine wpAny_mono pex (fun v s10 ⟨y,H10,I10,r10,q10⟩=>?_) err
      obtain ⟨m',hm',w10⟩:=hNN _ _ q10
      obtain ⟨a1,a2,a3,a4,a5⟩:=wk rfl I10
      have hl:=rv5.length
      refine wpAny_list_append_plain (items:=List.toArray its) ⟨k,a5⟩ (fun h11 pl11 sb11=>?_) (by simp only [List.size_toArray];omega)
      obtain ⟨k',e11⟩:=pl11
      refine ⟨m',hm',i+1,acc++[y],H10,its++[v],k',a1.turned (t':=s10.toks) (it:=D) (fun b o hb e=>(sb11.2 b hb).trans e) a4 ?_ (.inr (by rw [es0,hDd];exact Nat.le_refl _)) ncD (fun p hp=>absurd hp (by rw [epn];simp)),T.keep _ _ _ a2 fun b hb o e=>(sb11.2 b (fD b hb)).trans e,a3,a4,?_,rv5.append (.cons r10 .nil),w10⟩
      · rw [eL,szD]
        exact Nat.ne_of_lt (Nat.lt_succ_self _)
      · rw [e11,List.push_toArray]
 exact codeAny_compStart_list loop (T.self _ 0 _ _ _ (T.keep _ _ _ st fun b hb o e=>pushCells_keeps _ _ _ _ (kC _ _ (kD _ _ e))) loop)
theorem Blk.clos {pins:List (Addr×Obj)}{σ:St}{H:Hp}{s:Shared}(B:Blk X N' scope map tg elt ifs g tt te)(I:Inv X pins σ H s) :
 ∃ cl,closureFor scope X.env=pure cl/\(∀ x c,cl.lookup x=some c->X.env.cells.lookup x=some c)/\∀ x,(x,NameKind.free)∈scope.names->(cl.lookup x).isSome=true :=
 QE fun x hx=>I.ok.has x (by
  have q:=List.all_eq_true.mp B.free _ hx
  simpa using q)
def Q6e (wi:TI)(map:List (Option Nat))(g:TG)(tt:TT)(te:TE):TE:=fun σ H Q=>wi σ H fun J H1=>∃ W:Nat->Nat->List V->Hp->Prop,(∃ m,W 0 m [] H1) /\
 MR J g tt te (capt σ map) (fun acc H'=>∀ D,H' D=none->Q (.ref D) (upd H' D (.lst acc))) W
theorem NE (B:Blk X N' scope map tg elt ifs g tt te)(hi:PI X tg iter wi)(hs:∀ x,foldedSetIterable iter X.env x=pure x:=by intro _;rfl):PE X (.ListComp elt [⟨tg,iter,ifs,0⟩] scope pos) (Q6e wi map g tt te):=by
 intro pins s σ H Q I h
 obtain ⟨cl,hcl,hsub,hhas⟩:=B.clos I
 rw [eval_ListComp]
 refine wpAny_comprehension_free (use:=none) rfl hs hcl B.kind B.loc (thn (hi pins s σ H _ I h) fun v s1 h1=>thn h1 fun itv s2 h2=>?_)
 obtain ⟨it,fp,tn,J,H2,e,I2,T,st2,f2,W,⟨m0,w0⟩,turn⟩:=h2
 subst e
 refine J0d (RR:=fun acc C=>compPost (model X.prog X.w) X.A X.xe none (EP X pins σ Q) acc C) I2 B.m hsub hhas (R:=fun X=>X.calm=true) (fun _ _ _ _ _=>B.calm) T.gen st2 f2 w0 turn (fun D C acc H' s' m I' hD nsm fC c1 c2 c3 c4 fin=>?_) fun D C e s' z=>z
 refine ⟨m,nsm,fun h' sb=>⟨.ref D,_,?_,rfl,fin D hD⟩⟩
 exact I'.turned (t':=s'.toks) (fun b o hb e=>(sb.2 b hb).trans e) fC c1 (.inr c2) c3 c4
def J2w (i:Nat)(wi:TI)(map:List (Option Nat))(g:TG)(tt:TT)(te:TE):TS:=fun D σ H=>wi σ H fun J H1=>∃ W:Nat->Nat->List V->Hp->Prop,(∃ m,W 0 m [] H1) /\
 MR J g tt te (capt σ map) (fun acc H'=>∀ d,H' d=none->D.nx (σ.set i (some (.ref d))) (upd H' d (.lst acc))) W
theorem NT {i:Nat}{y:Str}{py spos:Pos}(hN:X.N.Nodup)(hiN:X.N[i]?=some y)(hy:Loc X.env.scope y)(B:Blk X N' scope map tg elt ifs g tt te)(hi:PI X tg iter wi)
 (hsw:swapsWith (.ListComp elt [⟨tg,iter,ifs,0⟩] scope pos) (some (.Name y py)) spos.line X.env=pure true:=by rfl) (hfn:X.fn y=true\/X.env.scope.names.lookup y=some .local:=by first|exact .inl rfl|exact .inr rfl)
 (hs:∀ x,foldedSetIterable iter X.env x=pure x:=by intro _;rfl):PS X (.Assign [.Name y py] (.ListComp elt [⟨tg,iter,ifs,0⟩] scope pos) spos) (J2w i wi map g tt te):=by
 intro pins s σ H D I h
 obtain ⟨cl,hcl,hsub,hhas⟩:=B.clos I
 rw [exec_Assign_Name_used _ _ _ _ hsw]
 refine B1 (wpAny_standAt (B1 ?_))
 show wpAny _ _ (do let _ <- comprehension (.ListComp elt [⟨tg,iter,ifs,0⟩] scope pos) scope X.env _ (newList []) false (eval iter X.env) (some (assign (.Name y py) X.env))) _ _ _
 refine B1 (thn (wpAny_comprehension_free (use:=some (assign (.Name y py) X.env)) (Q:=fun _ s'=>SP X pins D .next s') rfl hs hcl B.kind B.loc (thn (hi pins s σ H _ I h) fun v s1 h1=>thn h1 fun itv s2 h2=>?_)) fun _ s' hq=>B2 (B2 hq))
 obtain ⟨it,fp,tn,J,H2,e,I2,T,st2,f2,W,⟨m0,w0⟩,turn⟩:=h2
 subst e
 refine J0d (RR:=fun acc C=>compPost (model X.prog X.w) X.A X.xe (some (assign (.Name y py) X.env)) (fun _ s'=>SP X pins D .next s') acc C) I2 B.m hsub hhas (R:=fun X=>X.calm=true) (fun _ _ _ _ _=>B.calm) T.gen st2 f2 w0 turn (fun d C acc H' s' m I' hD nsm fC c1 c2 c3 c4 fin=>?_) fun D C e s' z=>z
 refine wpAny_assign_Name (QL I' hN hiN hy (v:=.ref d) rfl (fun s'' I'' ⟨a,sb,ha⟩=>?_) hfn)
 have hCa:C≠a:=by
  rcases ha with z|z
  · rw [z];exact c1
  · exact (c3 y a z).symm
 refine ⟨m,nsm.sameBut sb hCa,fun h' sb'=>⟨_,_,?_,fin d hD⟩⟩
 exact I''.turned (t':=s''.toks) (fun b o hb e=>(sb'.2 b hb).trans e) fC c1 (.inr c2) c3 c4
end
theorem gkeep_name {j:Nat}{map:List (Option Nat)}(h:map[j]?=some none):IE (VH j) map:=fun v σ H Q q=>by
 refine ⟨⟨by simp,fun j' i hm=>?_⟩,q⟩
 have:j≠j':=fun z=>by rw [z,hm] at h;cases h
 rw [List.getElem?_set_ne this]
def Bd (n:Nat)(i:Int):Prop:=i.natAbs<2 ^ n
theorem Bd.mono {m n:Nat}{i:Int}(h:Bd m i)(k:m<=n):Bd n i:=Nat.lt_of_lt_of_le h (Nat.pow_le_pow_right (by decide) k)
theorem Bd.mul {m n:Nat}{i j:Int}(h:Bd m i)(k:Bd n j):Bd (m+n) (i*j):=by
 unfold Bd at *
 rw [Int.natAbs_mul,Nat.pow_add]
 exact Nat.mul_lt_mul'' h k
theorem Bd.add {m n:Nat}{i j:Int}(h:Bd m i)(k:Bd n j):Bd (max m n+1) (i+j):=by
 have h':Bd (max m n) i:=h.mono (Nat.le_max_left _ _)
 have k':Bd (max m n) j:=k.mono (Nat.le_max_right _ _)
 unfold Bd at *
 rw [Nat.pow_succ]
 have:=Int.natAbs_add_le i j
 omega
theorem Bd.sub {m n:Nat}{i j:Int}(h:Bd m i)(k:Bd n j):Bd (max m n+1) (i - j):=by
 have h':Bd (max m n) i:=h.mono (Nat.le_max_left _ _)
 have k':Bd (max m n) j:=k.mono (Nat.le_max_right _ _)
 unfold Bd at *
 rw [Nat.pow_succ]
 have:=Int.natAbs_sub_le i j
 omega
theorem Bd.neg {m:Nat}{i:Int}(h:Bd m i):Bd m (-i):=by
 unfold Bd at *
 rw [Int.natAbs_neg]
 exact h
theorem Bd.of {n:Nat}{i:Int}(h1 : -(2 ^ n:Nat)<i)(h2:i<(2 ^ n:Nat)):Bd n i:=by
 unfold Bd
 omega
theorem TK {n:Nat}{i:Int}(h:Bd n i):Builtin.Int.intBits i<=n:=by
 unfold Builtin.Int.intBits
 split
 · exact Nat.zero_le _
 · rename_i hz
   have h0:i.natAbs≠0:=fun z=>hz (by have:i=0:=Int.natAbs_eq_zero.mp z;simp [this])
   exact (Nat.log2_lt h0).mpr h
def CMulB (i j:Int):Prop:=(∃ m n,Bd m i/\Bd n j/\m+n<=100000000)\/Bd 64 j
def Q8p (i j:Int):Prop:=0<j/\∃ n,Bd n j/\n<=9000
section
variable {X:Cx}
theorem Y5:OpR X (binaryOp .Mult) (rI CMulB fun i j=>.int (i*j)):=opI fun i j _ _ _ _ _ hc q=>mul_int q (by
 rcases hc with ⟨m,n,h1,h2,h3⟩|h1
 case inr=>exact .of_right (TK h1)
 have e1:=TK h1
 have e2:=TK h2
 unfold IntMulOk
 have e3:Builtin.Int.intTooBig (Builtin.Int.intBits i+Builtin.Int.intBits j)=false:=by
  unfold Builtin.Int.intTooBig
  refine decide_eq_false ?_
  have:bitsLine=134217728:=by unfold bitsLine;decide
  rw [this]
  omega
 rw [e3]
 simp)
theorem UN:OpR X (binaryOp .FloorDiv) (rI Q8p fun i j=>.int (i / j)):=opI fun i j _ _ _ _ _ hc q=>by
 obtain ⟨h1,n,h2,h3⟩:=hc
 refine floordiv_int (by omega) (by rw [Int.fdiv_eq_ediv_of_nonneg i (by omega)];exact q) (.inl (PyProof.noPylong_of_log2 ?_))
 have h0:j.natAbs≠0:=by omega
 exact (Nat.log2_lt h0).mpr (h2.mono h3)
theorem KG:OpR X (binaryOp .FloorDiv) (rI (fun _ j=>j≠0/\∃ n,Bd n j/\n<=9000) fun i j=>.int (i.fdiv j)):=opI fun i j _ _ _ _ _ hc q=>by
 obtain ⟨h1,n,h2,h3⟩:=hc
 refine floordiv_int h1 q (.inl (PyProof.noPylong_of_log2 ?_))
 have h0:j.natAbs≠0:=by omega
 exact (Nat.log2_lt h0).mpr (h2.mono h3)
end
theorem Same.upd {H:Hp}{p:Addr}{o:HO}(h:H p=none):Same H (upd H p o):=fun b u e=>by rw [V3 (Y2 e h)];exact e
def Keep (p:Addr)(H H':Hp):Prop:=∀ b o,b≠p->H b=some o->H' b=some o
theorem Keep.upd {p:Addr}{H:Hp}{o:HO}:Keep p H (upd H p o):=fun b u n e=>by rw [V3 n];exact e
structure Callee (P:Program)(w:World)(K:Fg)(mg:Str->Option Value)(base:Heap)(CX:CXT)(x:Str)(k:Nat)(ps:List Str)(sp:Sp):Prop where
 ex:∃ f fd,FnOk P w K mg base CX k f fd ps sp/\mg x=some (.ref f)/\PySem.W.keepIn K (.ref f)=true/\Binds K fd ps []
section
variable {X:Cx}{k:Nat}{ps:List Str}{sp:Sp}{x:Str}{p pos:Pos}{e:Expr}{es:List Expr}{t:TA}
theorem LN (G:Callee X.prog X.w X.K X.mg X.base CX0 x k ps sp)(hr:Room k X.A)(hg:Gl X x)(ha:PA X (e::es) t)(hdb:(x==("__debug__" : Str))=false:=by decide) (he:starEach (e::es) X.env=(false,eval e X.env)::starEach es X.env:=by rfl) (hpl:(backTo pos (starEach es X.env)).any (·.1)=false:=by rfl) :
 PE X (.Call (.Name x p) (e::es) [] pos) (QK sp [] E0 t):=by
 obtain ⟨f,fd,F,hm,hk,hb⟩:=G.ex
 exact ZC F hr hg hm hk hb .nil Q6r ha hdb he hpl
theorem VW:CD X (.builtin "isinstance") (fun xs H Q=>∃ y c t b,xs=[y,.ty c]/\TyOf X.K H y t/\PySem.W.kitOne X.K t (.type c)=some b/\Q (.bl b) H):=by
 intro pins s σ H xs us Q I r h
 obtain ⟨y,c,t,b,rfl,ty,e,q⟩:=h
 obtain ⟨u,w',rfl,r1,r2⟩:=QI r
 cases (show w'=Value.type c from r2)
 exact J1v I r1 ty e fun tk=>⟨.bl b,H,I.tok _,rfl,q⟩
end
theorem Callee.mk' {CX:CXT}{x qual:Str}{st:Stmt}{f:Addr} {k:Nat}{ps:List Str}{sp:Sp}(F:Fun K x qual st f fd)(G:FnOk P w K mg base CX k f fd ps sp)(hm:mg x=some (.ref f))(hb:Binds K fd ps []) :
 Callee P w K mg base CX x k ps sp:=⟨f,fd,G,hm,F.kp,hb⟩
theorem J8t {c:Bool}{A B:Prop}(h1:c=true->A)(h2:c=false->B):if c=true then A else B:=by
 cases c with
 | true=>exact Q9j (h1 rfl)
 | false=>exact Q9k (h2 rfl)
theorem J6b:bootBuiltins "abs" = some (.builtin "abs"):=by decide +kernel
theorem AU:bootBuiltins "len" = some (.builtin "len"):=by decide +kernel
theorem DX:bootBuiltins "isinstance" = some (.builtin "isinstance"):=by decide +kernel
theorem TD:bootBuiltins "max" = some (.builtin "max"):=by decide +kernel
theorem IB:bootBuiltins "min" = some (.builtin "min"):=by decide +kernel
theorem Q5g:bootBuiltins "sum" = some (.builtin "sum"):=by decide +kernel
theorem J6a:bootBuiltins "all" = some (.builtin "all"):=by decide +kernel
theorem J5z:bootBuiltins "any" = some (.builtin "any"):=by decide +kernel
theorem TF:bootBuiltins "int" = some (.type "int"):=by decide +kernel
theorem Q0c:bootBuiltins "bool" = some (.type "bool"):=by decide +kernel
theorem VY:bootBuiltins "tuple" = some (.type "tuple"):=by decide +kernel
theorem EM:bootBuiltins "list" = some (.type "list"):=by decide +kernel
theorem Q5f:bootBuiltins "zip" = some (.type "zip"):=by decide +kernel
theorem TH:bootBuiltins "enumerate" = some (.type "enumerate"):=by decide +kernel
theorem Same.get {H H':Hp}{a:Addr}{o:HO}(S:Same H H')(h:H a=some o):H' a=some o:=S a o h
theorem Keep.get {p:Addr}{H H':Hp}{a:Addr}{o:HO}(S:Keep p H H')(n:a≠p)(h:H a=some o):H' a=some o:=S a o n h
theorem Bd.num (i:Int)(h:i.natAbs<18446744073709551616):Bd 64 i:=h
theorem BQ:1000<=sizeLine:=by decide
theorem Q1r {a b:Int}(h:decide (V.int a=V.int b)=true):a=b:=by injection of_decide_eq_true h
theorem J8i {a b:Int}(h:(!decide (V.int a=V.int b))=true):a≠b:=fun z=>by rw [z] at h;simp at h
theorem J8j {a b:Int}(h:(!decide (V.int a=V.int b))=false):a=b:=by
 have q:decide (V.int a=V.int b)=true:=by cases e:decide (V.int a=V.int b) with|true=>rfl|false=>rw [e] at h;cases h
 exact Q1r q
theorem J5i {p:Prop}[Decidable p](h:decide p=true):p:=of_decide_eq_true h
def Bag (H:Hp)(p:Addr):Prop:=∃ f m:Int,H p=some (.lst [.int f,.int m])/\0<=f/\0<=m/\m<2147483647
theorem Bag.ne {H:Hp}{p a:Addr}{xs:List V}(b:Bag H p)(h:H a=some (.tup xs)):a≠p:=by
 obtain ⟨f,m,e,_⟩:=b
 exact Q0q h e (by intro z;cases z)
theorem CMulB.right {i j:Int}(h:Bd 64 j):CMulB i j:=.inr h
theorem Keep.tup {p:Addr}{H H':Hp}{a:Addr}{xs:List V}(S:Keep p H H')(b:Bag H p)(h:H a=some (.tup xs)):H' a=some (.tup xs):=S a _ (b.ne h) h
theorem J6e {xs:List V}{i:Int}(h0:0<=i)(h1:i<xs.length):∃ v,atI xs i=some v/\v∈xs:=by
 obtain ⟨j,rfl⟩:∃ j:Nat,i=j:=⟨i.toNat,by omega⟩
 have hj:j<xs.length:=by omega
 exact ⟨xs[j],EN (List.getElem?_eq_getElem hj),List.getElem_mem hj⟩
theorem Z2 (l:List Str)(h:l.Nodup):l.Nodup:=h
section
variable {X:Cx}{l:Expr}
theorem ZM (K:Fg)(h:X.K=K):IxR X (J7o K):=by subst h;exact Q3i
theorem EB (K:Fg)(h:X.K=K):IxR X (J1a K):=by subst h;exact IN
theorem AV {es:List Expr}{k:Nat}{t:TGs}{n:Nat}{pos:Pos}(K:Fg)(h:X.K=K)(hc:X.calm=true)(hs:PGs X es t)(hn:(assignEach es X.env).length=n:=by rfl)(hst:(assignEach es X.env).findIdx? (·.1)=none:=by rfl):PG X (.Tuple es k pos) (Q3p K n t):=by subst h;exact Q2p hc hs hn hst
theorem Q7 (K:Fg)(h:X.K=K):CD X (.builtin "len") (fun xs H Q=>∃ p ys,xs=[.ref p]/\(SqL K H p ys\/SqT K H p ys)/\Q (.int ys.length) H):=by subst h;exact TC
theorem PJ (K:Fg)(h:X.K=K):CD X (.type "tuple") (fun xs H Q=>∃ p ys,xs=[.ref p]/\((SqL K H p ys/\∀ l,H l=none->Q (.ref l) (upd H l (.tup ys)))\/(SqT K H p ys/\Q (.ref p) H))):=by subst h;exact QF
theorem BG (K:Fg)(h:X.K=K):CD X (.type "list") (fun xs H Q=>∃ p ys,xs=[.ref p]/\(SqL K H p ys\/SqT K H p ys)/\∀ l,H l=none->Q (.ref l) (upd H l (.lst ys))):=by subst h;exact TB
theorem J1c {a:Expr}{ta:TE}(K:Fg)(h:X.K=K)(ha:PE X a ta)(he:∀ whole,isTrue a X.env whole=(do let v <- whole;standAt a.pos;holding [v] (truthy v))):PT X a (fun σ H Q=>ta σ H fun x H'=>∃ k,Q5l K x H' k/\Q k H'):=by subst h;exact J3h ha he
end
theorem OR:∀ {ns:List Int} {us:List Value},Vals (ns.map V.int) us->∃ xs:List (Int×Tok),us=xs.map (fun p=>Value.int p.1 p.2)/\xs.map (·.1)=ns
 | [],us,r=>by
   cases r
   exact ⟨[],rfl,rfl⟩
 | n::ns,us,r=>by
   cases r with
   | cons r1 r2 =>
     obtain ⟨t,rfl⟩:=r1
     obtain ⟨xs,e1,e2⟩:=OR r2
     exact ⟨(n,t)::xs,by rw [e1];rfl,by rw [<- e2];rfl⟩
theorem LY (xs:List (Int×Tok)):intItems xs.toArray=(xs.map fun p=>Value.int p.1 p.2).toArray:=by simp [intItems]
section
variable {X:Cx}
theorem J2l (K:Fg)(hK:X.K=K)(hc:X.calm=true):CD X (.builtin "sum") (fun xs H Q=>∃ (p:Addr) (ns:List Int),xs=[.ref p]/\SqL K H p (ns.map V.int)/\Q (.int ns.sum) H):=by
 subst hK
 intro pins s σ H xs us Q I r h
 obtain ⟨p,ns,rfl,hq,q⟩:=h
 obtain ⟨u,rfl,rx⟩:=JY r
 cases rx
 obtain ⟨its,rv,pl,hz⟩:=I.list hq
 obtain ⟨ps,e1,e2⟩:=OR rv
 subst e1
 have hl:=pl.isList
 rw [<- LY] at hl
 refine sum_intListG (xs:=ps.toArray) (I.ok.hd hc) hl fun h' tk t' k=>?_
 refine ⟨.int ns.sum,H,I.kept k,⟨t',?_⟩,q⟩
 rw [preSum_eq,List.take_of_length_le (by simp)]
 show Value.int ((ps.map (·.1)).sum) t'=_
 rw [e2]
theorem ME:∀ {bs:List Bool} {us:List Value},Vals (bs.map V.bl) us->us=bs.map Value.bool
 | [],us,r=>by
   cases r
   rfl
 | b::bs,us,r=>by
   cases r with
   | cons r1 r2 =>
     cases r1
     rw [ME r2]
     rfl
theorem MM (bs:List Bool):(List.range bs.length).map (fun i=>bs[i]?.getD false)=bs:=by
 apply List.ext_getElem
 · simp
 · intro i h1 h2
   simp at h1
   simp [h1]
theorem RJ (K:Fg)(hK:X.K=K)(hc:X.calm=true):CD X (.builtin "all") (fun xs H Q=>∃ (p:Addr) (bs:List Bool),xs=[.ref p]/\SqL K H p (bs.map V.bl)/\Q (.bl (bs.all id)) H):=by
 subst hK
 intro pins s σ H xs us Q I r h
 obtain ⟨p,bs,rfl,hq,q⟩:=h
 obtain ⟨u,rfl,rx⟩:=JY r
 cases rx
 obtain ⟨its,rv,pl,hz⟩:=I.list hq
 have e1:=ME rv
 subst e1
 have hl:=pl.isList
 have hlt:p<s.heap.objs.size:=by obtain ⟨_,e,_⟩:=hl;exact B5 e
 refine call_all_walk (wpAny_pyIter_list hl ?_)
 refine ⟨_,_,_,_,_,_,(fun i=>bs[i]?.getD false),rfl,Walks.list (A:=X.A.in1) (I.ok.hd hc) _ p (Nat.ne_of_lt hlt) (bs.map Value.bool).toArray,⟨⟨_,Heap.get?_push_size _ rfl,rfl,rfl⟩,hl.push _⟩,?_,fun h' tk hk=>?_⟩
 · intro i v s' Q' E' hv hq'
   have e:bs[i]?.map Value.bool=some v:=by simpa using hv
   cases hb:bs[i]? with
   | none=>rw [hb] at e;cases e
   | some b =>
     rw [hb] at e
     cases e
     have hq'':Q' (bs[i]?.getD false) s':=hq'
     rw [hb] at hq''
     exact wpAny_truthy_bool hq''
 · have ea:(List.range (bs.map Value.bool).toArray.size).all (fun i=>bs[i]?.getD false)=bs.all id:=by
    have:=congrArg (fun l:List Bool=>l.all id) (MM bs)
    simpa [List.all_map] using this
   rw [ea]
   refine ⟨.bl (bs.all id),H,I.kept fun b o e=>hk b o (fun hm=>?_) (B4 _ e),rfl,q⟩
   have:b=s.heap.objs.size:=by simpa using hm
   exact absurd (this▸B5 e) (Nat.lt_irrefl _)
theorem RI (K:Fg)(hK:X.K=K)(hc:X.calm=true):CD X (.builtin "any") (fun xs H Q=>∃ (p:Addr) (bs:List Bool),xs=[.ref p]/\SqL K H p (bs.map V.bl)/\Q (.bl (bs.any id)) H):=by
 subst hK
 intro pins s σ H xs us Q I r h
 obtain ⟨p,bs,rfl,hq,q⟩:=h
 obtain ⟨u,rfl,rx⟩:=JY r
 cases rx
 obtain ⟨its,rv,pl,hz⟩:=I.list hq
 have e1:=ME rv
 subst e1
 have hl:=pl.isList
 have hlt:p<s.heap.objs.size:=by obtain ⟨_,e,_⟩:=hl;exact B5 e
 refine call_any_walk (wpAny_pyIter_list hl ?_)
 refine ⟨_,_,_,_,_,_,(fun i=>bs[i]?.getD false),rfl,Walks.list (A:=X.A.in1) (I.ok.hd hc) _ p (Nat.ne_of_lt hlt) (bs.map Value.bool).toArray,⟨⟨_,Heap.get?_push_size _ rfl,rfl,rfl⟩,hl.push _⟩,?_,fun h' tk hk=>?_⟩
 · intro i v s' Q' E' hv hq'
   have e:bs[i]?.map Value.bool=some v:=by simpa using hv
   cases hb:bs[i]? with
   | none=>rw [hb] at e;cases e
   | some b =>
     rw [hb] at e
     cases e
     have hq'':Q' (bs[i]?.getD false) s':=hq'
     rw [hb] at hq''
     exact wpAny_truthy_bool hq''
 · have ea:(List.range (bs.map Value.bool).toArray.size).any (fun i=>bs[i]?.getD false)=bs.any id:=by
    have:=congrArg (fun l:List Bool=>l.any id) (MM bs)
    simpa [List.any_map] using this
   rw [ea]
   refine ⟨.bl (bs.any id),H,I.kept fun b o e=>hk b o (fun hm=>?_) (B4 _ e),rfl,q⟩
   have:b=s.heap.objs.size:=by simpa using hm
   exact absurd (this▸B5 e) (Nat.lt_irrefl _)
end
section
variable {prog:Program}{w:World}{A:Around}{E:Value->Shared->Prop}{s:Shared}
theorem XH {u t:Addr}{j:Nat}{its}{v:Value}{Q:Value->Shared->Prop}(a1:s.heap.IsTupleIter u t j)(a2:s.heap.IsTuple t its)(a3:its[j]?=some v)
 (q:∀ h',h'.IsTupleIter u t (j+1)->Heap.SameBut u s.heap h'->Q v { s with heap:=h' }):wpAny (model prog w) A (Builtin.SmallTypes.nextOf (.ref u)) Q E s:=by
 obtain ⟨oi,b1,b2,b3⟩:=id a1
 obtain ⟨ot,c1,_,nt,c2⟩:=a2
 unfold Builtin.SmallTypes.nextOf
 refine B1 (wpAny_callSpecial?_slot (name:=Str.ofString "__next__") a1.typeIs F.slot_tuple_iterator_next (wpAny_call_entry F.slot_tuple_iterator_next a1.typeIs F.entry_tuple_iterator_next ?_ (F.args_tuple_iterator_next_1 _)))
 show wpAny _ _ (field (.ref u) 0 >>= _) _ _ s
 refine B1 (wpAny_field b1 b3 (x:=.ref t) rfl ?_)
 show wpAny _ _ (if (Value.ref t==Value.none)=true then _ else _) _ _ s;rw [if_neg (show ¬ ((Value.ref t==Value.none)=true) from Bool.false_ne_true)]
 show wpAny _ _ (field (.ref u) 1 >>= _) _ _ s
 refine B1 (wpAny_field b1 b3 (x:=.int j 0) rfl ?_)
 show wpAny _ _ (seqItems? (.ref t) >>= _) _ _ s;refine B1 (wpAny_seqItems c1 c2 ?_)
 simp only [Int.toNat_natCast,a3]
 refine B1 (wpAny_setField b1 b3 (by simp) (B2 ⟨v,rfl,B2 (q _ ⟨_,Heap.get?_update_self _ b1 (Obj.isFreed_of_fields (Obj.data_mapFields b3 _)),(Obj.cls_mapFields ..).trans b2,by rw [Obj.data_mapFields b3];simp [rawInt]⟩ (Heap.SameBut.update ..))⟩))
theorem J1m {u t:Addr}{j:Nat}{its}{Q:Value->Shared->Prop}(a0:A.handled=none)(a1:s.heap.IsTupleIter u t j)(a2:s.heap.IsTuple t its)(a3:its[j]?=none)
 (q:∀ h' e,Heap.ExtBut u s.heap h'->(∃ o,h'.get? e=some o/\o.cls=.type "StopIteration")->E (.ref e) { s with heap:=h' }):wpAny (model prog w) A (Builtin.SmallTypes.nextOf (.ref u)) Q E s:=by
 obtain ⟨oi,b1,b2,b3⟩:=id a1
 obtain ⟨ot,c1,_,nt,c2⟩:=a2
 unfold Builtin.SmallTypes.nextOf
 refine B1 (wpAny_callSpecial?_slot (name:=Str.ofString "__next__") a1.typeIs F.slot_tuple_iterator_next (wpAny_call_entry F.slot_tuple_iterator_next a1.typeIs F.entry_tuple_iterator_next ?_ (F.args_tuple_iterator_next_1 _)))
 show wpAny _ _ (field (.ref u) 0 >>= _) _ _ s
 refine B1 (wpAny_field b1 b3 (x:=.ref t) rfl ?_)
 show wpAny _ _ (if (Value.ref t==Value.none)=true then _ else _) _ _ s;rw [if_neg (show ¬ ((Value.ref t==Value.none)=true) from Bool.false_ne_true)]
 show wpAny _ _ (field (.ref u) 1 >>= _) _ _ s
 refine B1 (wpAny_field b1 b3 (x:=.int j 0) rfl ?_)
 show wpAny _ _ (seqItems? (.ref t) >>= _) _ _ s;refine B1 (wpAny_seqItems c1 c2 ?_)
 simp only [Int.toNat_natCast,a3]
 refine B1 (wpAny_rule (B1 (wpAny_setField b1 b3 (by simp) ?_)))
 show wpAny _ _ (newExc (.type "StopIteration") [] >>= _) _ _ _;refine B1 ?_;simp only [newExc,newTuple]
 refine B1 (wpAny_newObj_type ?_ (by size_fits));refine B1 (m:=firstArgMember _ _) (wpAny_of_eq (a:=Value.none) (by first|rfl|(simp only [firstArgMember];rfl)) ?_)
 refine wpAny_newObj_type ?_ (by size_fits);simp only [raiseNew];refine B1 (wpAny_handled ?_)
 first|rw [show A.in1.handled=none from a0]|rw [a0]
 refine B1 (B2 (wpAny_throw (q _ _ (((Heap.SameBut.update ..).extBut.push _).push _) ⟨_,Heap.get?_push_size _ rfl,rfl⟩)))
def ItAt (b:Bool)(h:Heap)(u l:Addr)(j:Nat):Prop:=match b with|false=>h.IsListIter u l j|true=>h.IsTupleIter u l j
def SeqAt (b:Bool)(h:Heap)(l:Addr)(xs:Array Value):Prop:=match b with|false=>h.IsList l xs|true=>h.IsTuple l xs
theorem ItAt.at {b:Bool}{h h':Heap}{u l:Addr}{j:Nat}(x:ItAt b h u l j)(k:∀ o,h.get? u=some o->h'.get? u=some o):ItAt b h' u l j:=by
 cases b with
 | false=>exact Heap.IsListIter.at x k
 | true=>exact Heap.IsTupleIter.at x k
theorem SeqAt.at {b:Bool}{h h':Heap}{l:Addr}{xs:Array Value}(x:SeqAt b h l xs)(k:∀ o,h.get? l=some o->h'.get? l=some o):SeqAt b h' l xs:=by
 cases b with
 | false=>obtain ⟨o,e,r⟩:=x;exact ⟨o,k o e,r⟩
 | true=>obtain ⟨o,e,r⟩:=x;exact ⟨o,k o e,r⟩
theorem ItAt.obj {b:Bool}{h:Heap}{u l:Addr}{j:Nat}(x:ItAt b h u l j):∃ o,h.get? u=some o/\∀ v,o.data≠.cell v:=by
 cases b with
 | false=>obtain ⟨o,e,c,d⟩:=x;exact ⟨o,e,fun v z=>by rw [d] at z;cases z⟩
 | true=>obtain ⟨o,e,c,d⟩:=x;exact ⟨o,e,fun v z=>by rw [d] at z;cases z⟩
theorem TY {b:Bool}{u l:Addr}{j:Nat}{xs:Array Value}{v:Value}{Q:Value->Shared->Prop}(a1:ItAt b s.heap u l j)(a2:SeqAt b s.heap l xs)(a3:xs[j]?=some v)
 (q:∀ h',ItAt b h' u l (j+1)->Heap.SameBut u s.heap h'->Q v { s with heap:=h' }):wpAny (model prog w) A (Builtin.SmallTypes.nextOf (.ref u)) Q E s:=by
 cases b with
 | false=>exact wpAny_nextOf_list_item a1 a2 a3 q
 | true=>exact XH a1 a2 a3 q
theorem J7d {b:Bool}{u l:Addr}{j:Nat}{xs:Array Value}{Q:Value->Shared->Prop}(a0:A.handled=none)(a1:ItAt b s.heap u l j)(a2:SeqAt b s.heap l xs)(a3:xs[j]?=none)
 (q:∀ h' e,Heap.ExtBut u s.heap h'->(∃ o,h'.get? e=some o/\o.cls=.type "StopIteration")->E (.ref e) { s with heap:=h' }):wpAny (model prog w) A (Builtin.SmallTypes.nextOf (.ref u)) Q E s:=by
 cases b with
 | false=>exact wpAny_nextOf_list_end a0 a1 a2 a3 q
 | true=>exact J1m a0 a1 a2 a3 q
abbrev DK (h:Heap)(T:Addr)(vs:Array Value):Prop:=h.get? T=some { cls:=.type "tuple",data:=.seq vs }
theorem QJ {T:Addr}{vs:Array Value}{v:Value}{k:Nat}{Q:Unit->Shared->Prop}(hv:vs.size<=1000)(hT:DK s.heap T vs)
 (q:∀ h',DK h' T (vs.setIfInBounds k v)->Heap.SameBut T s.heap h'->Q () { s with heap:=h' }):wpAny (model prog w) A (updateSeq T (·.setIfInBounds k v)) Q E s:=by
 have z1:vs.size<=sizeLine:=Nat.le_trans hv BQ
 refine wpAny_updateSeq hT rfl (q _ ?_ (Heap.SameBut.update ..)) (hz:=z1) (_hz':=by simp;omega)
 show Heap.get? _ T=_
 rw [Heap.get?_update_self _ hT rfl];simp [Obj.mapSeq]
end
section
variable {X:Cx}{pins:List (Addr×Obj)}{σ:St}{H:Hp}{s:Shared}{h':Heap}
theorem Inv.zipped {fp:List Addr}{T:Addr}{o:HO}{t':Nat}(I:Inv X pins σ H s)(hf:∀ b∈fp,HJ X pins H b)(k:∀ b o,b∉fp->s.heap.get? b=some o->h'.get? b=some o)(hT:s.heap.objs.size<=T)
 (new:ObjOk X.prog X.w (upd H T o) h' T o):Inv X pins σ (upd H T o) { s with heap:=h',toks:=t' }:=by
 have hn:H T=none:=I.hok.fresh hT
 have ne:∀ b u,s.heap.get? b=some u->b≠T:=fun b u e z=>absurd (B5 e) (by rw [z];exact Nat.not_lt.mpr hT)
 have nfp:∀ b u,H b=some u->b∉fp:=fun b u e hb=>by rw [(hf b hb).1] at e;cases e
 refine I.step (g':=s.gens) (d':=s.drawn) (ch:=fp) (fun b hb=>?_) (fun b o _ _ hc e _=>k b o hc e) (fun b o _ _ hc e _=>⟨o.slots,k b o hc e⟩) (fun b u _ e n=>by rw [V3 (ne b u e)];exact n)
  (fun b o hc e=>⟨o,k b o hc e⟩) (fun b xs e=>by rw [V3 (Y2 e hn)];exact e) (fun b o u e=>by rw [V3 (Y2 e hn)];exact e) (fun b ps e=>⟨#[],by rw [V3 (Y2 e hn),e];simp⟩) (fun m hm=>?_) (fun b u e=>?_) I.bare
 · obtain ⟨_,f1,_,f3,f4,f5⟩:=hf b hb
   exact ⟨f3,f1,f4,f5⟩
 · obtain ⟨o,es,ep,ho,r⟩:=hm
   exact ⟨o,es,ep,k _ o (fun hb=>(hf _ hb).2.1 rfl) ho,r⟩
 · by_cases hb:b=T
   · subst hb
     rw [V8] at e
     cases e
     exact new
   · rw [V3 hb] at e
     refine (I.hok b u e).stay (fun c v hc q=>k c v ?_ q) (fun c q=>by rw [V3 (Y2 q hn)];exact q) fun c xs q=>by rw [V3 (Y2 q hn)];exact q
     rcases hc with z|z
     · rw [z];exact nfp b u e
     · exact nfp c _ z
theorem Inv.turnedL {fp:List Addr}{t':Nat}(I:Inv X pins σ H s)(hf:∀ b∈fp,HJ X pins H b)(k:∀ b o,b∉fp->s.heap.get? b=some o->h'.get? b=some o):Inv X pins σ H { s with heap:=h',toks:=t' }:=by
 have nfp:∀ b u,H b=some u->b∉fp:=fun b u e hb=>by rw [(hf b hb).1] at e;cases e
 refine I.step (g':=s.gens) (d':=s.drawn) (ch:=fp) (fun b hb=>?_) (fun b o _ _ hc e _=>k b o hc e) (fun b o _ _ hc e _=>⟨o.slots,k b o hc e⟩) (fun b u _ e n=>n)
  (fun b o hc e=>⟨o,k b o hc e⟩) (fun b xs e=>e) (fun b o u e=>e) (fun b ps e=>⟨#[],by rw [e];simp⟩) (fun m hm=>?_) (fun b u e=>?_) I.bare
 · obtain ⟨_,f1,_,f3,f4,f5⟩:=hf b hb
   exact ⟨f3,f1,f4,f5⟩
 · obtain ⟨o,es,ep,ho,r⟩:=hm
   exact ⟨o,es,ep,k _ o (fun hb=>(hf _ hb).2.1 rfl) ho,r⟩
 · refine (I.hok b u e).stay (fun c v hc q=>k c v ?_ q) (fun c q=>q) fun c xs q=>q
   rcases hc with z|z
   · rw [z];exact nfp b u e
   · exact nfp c _ z
def SqX (K:Fg)(b:Bool)(H:Hp)(a:Addr)(xs:List V):Prop:=match b with|false=>SqL K H a xs|true=>SqT K H a xs
theorem Inv.seqX {b:Bool}{a:Addr}{xs:List V}(I:Inv X pins σ H s)(h:SqX X.K b H a xs):∃ its:List Value,Vals xs its/\SeqAt b s.heap a its.toArray/\xs.length<=sizeLine:=by
 cases b with
 | false=>obtain ⟨its,r,p,z⟩:=I.list h;exact ⟨its,r,p.isList,z⟩
 | true=>obtain ⟨its,r,p,z⟩:=I.tuple h;exact ⟨its,r,p,z⟩
theorem Inv.seqX_inj {b:Bool}{a:Addr}{xs ys:List V}(I:Inv X pins σ H s)(h:SqX X.K b H a xs)(h':SqX X.K b H a ys):xs=ys:=by
 cases b with
 | false=>exact I.list_inj h h'
 | true=>exact I.tuple_inj h h'
theorem Inv.seqX_ne {b:Bool}{a:Addr}{xs:List V}{c:Addr}(I:Inv X pins σ H s)(h:SqX X.K b H a xs)(f:HJ X pins H c):a≠c:=by
 intro e
 subst e
 have base:∀ {o:Obj},X.base.get? a=some o->False:=fun {o} q=>by
  rcases f.2.2.2.1 with z|z
  · exact I.ok.noex a o q z
  · exact absurd (B5 (I.ok.bs a o q).1) (Nat.not_lt.mpr z)
 cases b with
 | false =>
   rcases h with (h|⟨o,h⟩)|⟨o,_,_,h,_⟩
   · rw [f.1] at h;cases h
   · rw [f.1] at h;cases h
   · exact base (I.ok.mod.kin _ _ h)
 | true =>
   rcases h with (h|⟨o,h⟩)|⟨o,_,_,h,_⟩
   · rw [f.1] at h;cases h
   · rw [f.1] at h;cases h
   · exact base (I.ok.mod.kin _ _ h)
end
section
variable {prog:Program}{w:World}{A:Around}{E:Value->Shared->Prop}{s:Shared}
structure ZAp2 (z TI TO i1 i2 l1 l2:Addr):Prop where
 z_TI:z≠TI
 z_TO:z≠TO
 z_i1:z≠i1
 z_i2:z≠i2
 TI_z:TI≠z
 TI_TO:TI≠TO
 TI_i1:TI≠i1
 TI_i2:TI≠i2
 TO_z:TO≠z
 TO_TI:TO≠TI
 TO_i1:TO≠i1
 TO_i2:TO≠i2
 i1_z:i1≠z
 i1_TI:i1≠TI
 i1_TO:i1≠TO
 i1_i2:i1≠i2
 i2_z:i2≠z
 i2_TI:i2≠TI
 i2_TO:i2≠TO
 i2_i1:i2≠i1
 l1_z:l1≠z
 l1_TI:l1≠TI
 l1_TO:l1≠TO
 l1_i1:l1≠i1
 l1_i2:l1≠i2
 l2_z:l2≠z
 l2_TI:l2≠TI
 l2_TO:l2≠TO
 l2_i1:l2≠i1
 l2_i2:l2≠i2
theorem J0l {b1 b2:Bool}{z TI TO i1 i2 l1 l2:Addr}{k:Nat}{xs1 xs2:Array Value}{x1 x2 a1 a2:Value}{Q:Value->Shared->Prop}(D:ZAp2 z TI TO i1 i2 l1 l2)(hz:IsZip s.heap z TI TO .none)(hI:DK s.heap TI #[.ref i1,.ref i2])(hO:DK s.heap TO #[a1,a2])(d1:ItAt b1 s.heap i1 l1 k)(g1:SeqAt b1 s.heap l1 xs1)(d2:ItAt b2 s.heap i2 l2 k)(g2:SeqAt b2 s.heap l2 xs2)
 (e1:xs1[k]?=some x1) (e2:xs2[k]?=some x2)
 (q:∀ h',IsZip h' z TI TO (rawInt s.heap.objs.size)->DK h' TO #[x1,x2]->ItAt b1 h' i1 l1 (k+1)->ItAt b2 h' i2 l2 (k+1)->DK h' s.heap.objs.size #[x1,x2]->(∀ c o,c≠z->c≠TO->c≠i1->c≠i2->s.heap.get? c=some o->h'.get? c=some o)->Q (.ref s.heap.objs.size) { s with heap:=h' }) :
 wpAny (model prog w) A (Builtin.«zip.__next__» ⟨[.ref z],[]⟩) (fun fin s'=>∃ v,fin=.done (.ret v)/\Q v s') E s:=by
 show wpAny _ _ (field (.ref z) 2 >>= _) _ _ _;refine B1 (wpAny_field hz rfl (x:=.bool false) rfl ?_)
 show wpAny _ _ (field (.ref z) 3 >>= _) _ _ _;refine B1 (wpAny_field hz rfl (x:=.ref TI) rfl ?_)
 refine B1 (wpAny_seqItems hI rfl ?_)
 show wpAny _ _ (Builtin.SmallTypes.ownedTupleIsFree (.ref z) >>= _) _ _ _;refine B1 ?_;unfold Builtin.SmallTypes.ownedTupleIsFree
 refine B1 (wpAny_field hz rfl (x:=.none) rfl (B2 ?_));simp only [if_true];refine B1 (wpAny_rule ?_)
 refine B1 (wpAny_field hz rfl (x:=.ref TO) rfl ?_);refine B1 (wpAny_setField_rec hz (by simp) fun p0 z0 m0=>?_)
 replace z0:IsZip p0 z TI TO .ellipsis:=z0
 have y0:DK p0 TO #[a1,a2]:=m0.extBut _ _ D.TO_z hO
 have w0:∀ c o,c≠z->c≠TO->c≠i1->c≠i2->s.heap.get? c=some o->p0.get? c=some o:=fun c o c1 _ _ _ e=>m0.extBut _ _ c1 e
 have r0:p0.objs.size=s.heap.objs.size:=m0.1
 have d1_0:ItAt b1 p0 i1 l1 k:=d1.at fun o e=>m0.extBut _ _ D.i1_z e
 have g1_0:SeqAt b1 p0 l1 xs1:=g1.at fun o e=>m0.extBut _ _ D.l1_z e
 have d2_0:ItAt b2 p0 i2 l2 k:=d2.at fun o e=>m0.extBut _ _ D.i2_z e
 have g2_0:SeqAt b2 p0 l2 xs2:=g2.at fun o e=>m0.extBut _ _ D.l2_z e
 refine B1 ?_;simp only [List.zipIdx_cons,List.zipIdx_nil,List.forIn_cons,List.forIn_nil]
 refine B1 (B1 (wpAny_onRaise ?_));show wpAny _ _ (Builtin.SmallTypes.nextOf (.ref i1) >>= _) _ _ _
 refine B1 (TY d1_0 g1_0 e1 fun u1 t1 n1=>B2 ?_)
 have v1:DK u1 TO #[a1,a2]:=n1.extBut _ _ D.TO_i1 y0
 refine B1 (wpAny_seqItems v1 rfl ?_);refine B1 (QJ (Nat.le_of_ble_eq_true rfl) v1 fun p1 y1 m1=>?_)
 replace y1:DK p1 TO #[x1,a2]:=y1
 have z1:IsZip p1 z TI TO .ellipsis:=m1.extBut _ _ D.z_TO (n1.extBut _ _ D.z_i1 z0)
 have w1:∀ c o,c≠z->c≠TO->c≠i1->c≠i2->s.heap.get? c=some o->p1.get? c=some o:=fun c o c1 c2 c3 c4 e=>m1.extBut _ _ c2 (n1.extBut _ _ c3 (w0 c o c1 c2 c3 c4 e))
 have r1:p1.objs.size=s.heap.objs.size:=by rw [m1.1,n1.1];exact r0
 have d1_1:ItAt b1 p1 i1 l1 (k+1):=t1.at fun o e=>m1.extBut _ _ D.i1_TO e
 have d2_1:ItAt b2 p1 i2 l2 k:=(d2_0.at fun o e=>n1.extBut _ _ D.i2_i1 e).at fun o e=>m1.extBut _ _ D.i2_TO e
 have g2_1:SeqAt b2 p1 l2 xs2:=(g2_0.at fun o e=>n1.extBut _ _ D.l2_i1 e).at fun o e=>m1.extBut _ _ D.l2_TO e
 refine B1 (wpAny_letGo (B2 ?_))
 refine B1 (B1 (wpAny_onRaise ?_));show wpAny _ _ (Builtin.SmallTypes.nextOf (.ref i2) >>= _) _ _ _
 refine B1 (TY d2_1 g2_1 e2 fun u2 t2 n2=>B2 ?_)
 have v2:DK u2 TO #[x1,a2]:=n2.extBut _ _ D.TO_i2 y1
 refine B1 (wpAny_seqItems v2 rfl ?_);refine B1 (QJ (Nat.le_of_ble_eq_true rfl) v2 fun p2 y2 m2=>?_)
 replace y2:DK p2 TO #[x1,x2]:=y2
 have z2:IsZip p2 z TI TO .ellipsis:=m2.extBut _ _ D.z_TO (n2.extBut _ _ D.z_i2 z1)
 have w2:∀ c o,c≠z->c≠TO->c≠i1->c≠i2->s.heap.get? c=some o->p2.get? c=some o:=fun c o c1 c2 c3 c4 e=>m2.extBut _ _ c2 (n2.extBut _ _ c4 (w1 c o c1 c2 c3 c4 e))
 have r2:p2.objs.size=s.heap.objs.size:=by rw [m2.1,n2.1];exact r1
 have d1_2:ItAt b1 p2 i1 l1 (k+1):=(d1_1.at fun o e=>n2.extBut _ _ D.i1_i2 e).at fun o e=>m2.extBut _ _ D.i1_TO e
 have d2_2:ItAt b2 p2 i2 l2 (k+1):=t2.at fun o e=>m2.extBut _ _ D.i2_TO e
 refine B1 (wpAny_letGo (B2 (B2 ?_)))
 refine B1 (wpAny_seqItems y2 rfl ?_);refine B1 (wpAny_newTuple ?_)
 have zl:z<p2.objs.size:=B5 z2
 show wpAny _ _ (Builtin.SmallTypes.ownedTupleHandOut (.ref z) (.ref p2.objs.size) >>= _) _ _ _;refine B1 ?_;unfold Builtin.SmallTypes.ownedTupleHandOut
 have za:IsZip (p2.push { cls:=.type "tuple",data:=.seq #[x1,x2] }) z TI TO .ellipsis:=B4 _ z2
 refine B1 (wpAny_setField_rec za (by simp) fun pa zb ma=>?_)
 replace zb:IsZip pa z TI TO (rawInt p2.objs.size):=zb
 refine wpAny_setField_rec zb (by simp) fun pb zc mb=>?_
 replace zc:IsZip pb z TI TO (rawInt p2.objs.size):=zc
 have up:∀ c o,c≠z->p2.get? c=some o->pb.get? c=some o:=fun c o c1 e=>mb.extBut _ _ c1 (ma.extBut _ _ c1 (B4 _ e))
 have tt:DK pb p2.objs.size #[x1,x2]:=mb.extBut _ _ (Nat.ne_of_gt zl) (ma.extBut _ _ (Nat.ne_of_gt zl) (Heap.get?_push_size _ rfl))
 rw [r2] at zc tt
 refine B2 ⟨_,rfl,?_⟩
 show Q (.ref p2.objs.size) _
 rw [r2]
 exact q pb zc (up _ _ D.TO_z y2) (d1_2.at fun o e=>up _ o D.i1_z e) (d2_2.at fun o e=>up _ o D.i2_z e) tt fun c o c1 c2 c3 c4 e=>up c o c1 (w2 c o c1 c2 c3 c4 e)
theorem J2o {b1 b2:Bool}{z TI TO i1 i2 l1 l2:Addr}{k:Nat}{xs1 xs2:Array Value}{a1 a2:Value}{Q:Fin->Shared->Prop}(hh:A.handled=none)(D:ZAp2 z TI TO i1 i2 l1 l2)(hz:IsZip s.heap z TI TO .none)(hI:DK s.heap TI #[.ref i1,.ref i2])(hO:DK s.heap TO #[a1,a2])(d1:ItAt b1 s.heap i1 l1 k)(g1:SeqAt b1 s.heap l1 xs1)(d2:ItAt b2 s.heap i2 l2 k)(g2:SeqAt b2 s.heap l2 xs2)
 (e1:xs1[k]?=none) (q:∀ h' e,(∀ c o,c≠z->c≠TO->c≠i1->c≠i2->s.heap.get? c=some o->h'.get? c=some o)->(∃ o,h'.get? e=some o/\o.cls=.type "StopIteration")->E (.ref e) { s with heap:=h' }) :
 wpAny (model prog w) A (Builtin.«zip.__next__» ⟨[.ref z],[]⟩) Q E s:=by
 show wpAny _ _ (field (.ref z) 2 >>= _) _ _ _;refine B1 (wpAny_field hz rfl (x:=.bool false) rfl ?_)
 show wpAny _ _ (field (.ref z) 3 >>= _) _ _ _;refine B1 (wpAny_field hz rfl (x:=.ref TI) rfl ?_)
 refine B1 (wpAny_seqItems hI rfl ?_)
 show wpAny _ _ (Builtin.SmallTypes.ownedTupleIsFree (.ref z) >>= _) _ _ _;refine B1 ?_;unfold Builtin.SmallTypes.ownedTupleIsFree
 refine B1 (wpAny_field hz rfl (x:=.none) rfl (B2 ?_));simp only [if_true];refine B1 (wpAny_rule ?_)
 refine B1 (wpAny_field hz rfl (x:=.ref TO) rfl ?_);refine B1 (wpAny_setField_rec hz (by simp) fun p0 z0 m0=>?_)
 replace z0:IsZip p0 z TI TO .ellipsis:=z0
 have y0:DK p0 TO #[a1,a2]:=m0.extBut _ _ D.TO_z hO
 have w0:∀ c o,c≠z->c≠TO->c≠i1->c≠i2->s.heap.get? c=some o->p0.get? c=some o:=fun c o c1 _ _ _ e=>m0.extBut _ _ c1 e
 have r0:p0.objs.size=s.heap.objs.size:=m0.1
 have d1_0:ItAt b1 p0 i1 l1 k:=d1.at fun o e=>m0.extBut _ _ D.i1_z e
 have g1_0:SeqAt b1 p0 l1 xs1:=g1.at fun o e=>m0.extBut _ _ D.l1_z e
 have d2_0:ItAt b2 p0 i2 l2 k:=d2.at fun o e=>m0.extBut _ _ D.i2_z e
 have g2_0:SeqAt b2 p0 l2 xs2:=g2.at fun o e=>m0.extBut _ _ D.l2_z e
 refine B1 ?_;simp only [List.zipIdx_cons,List.zipIdx_nil,List.forIn_cons,List.forIn_nil]
 refine B1 (B1 (wpAny_onRaise ?_));show wpAny _ _ (Builtin.SmallTypes.nextOf (.ref i1) >>= _) _ _ _
 refine B1 (J7d hh d1_0 g1_0 e1 fun u1 e n1 he=>?_)
 obtain ⟨oe,f1,f2⟩:=he
 have z1:IsZip u1 z TI TO .ellipsis:=n1 _ _ D.z_i1 z0
 have ez:e≠z:=fun x=>by subst x;rw [z1] at f1;cases f1;simp at f2
 refine wpAny_setField_rec z1 (by simp) fun p1 _ m1=>q p1 e (fun c o c1 c2 c3 c4 x=>m1.extBut _ _ c1 (n1 _ _ c3 (w0 c o c1 c2 c3 c4 x))) ⟨oe,m1.extBut _ _ ez f1,f2⟩
end
section
variable {prog:Program}{w:World}{A:Around}{E:Value->Shared->Prop}{s:Shared}
def CU (b:Bool)(l:Addr):Obj:=match b with
 | false=>{ cls:=.type "list_iterator",data:=.fields #[.ref l,.int 0 0] }
 | true=>{ cls:=.type "tuple_iterator",data:=.fields #[.ref l,.int 0 0] }
theorem VF {b:Bool}{h:Heap}{u l:Addr}(e:h.get? u=some (CU b l)):ItAt b h u l 0:=by
 cases b with
 | false=>exact ⟨_,e,rfl,rfl⟩
 | true=>exact ⟨_,e,rfl,rfl⟩
theorem OP (b:Bool)(l:Addr):(CU b l).isFreed=false:=by cases b<;>rfl
theorem TX {b:Bool}{l:Addr}{xs:Array Value}{Q:Value->Shared->Prop}(a:SeqAt b s.heap l xs)(q:Q (.ref s.heap.objs.size) { s with heap:=s.heap.push (CU b l) }):wpAny (model prog w) A (pyIter (.ref l)) Q E s:=by
 cases b with
 | false=>exact wpAny_pyIter_list a q
 | true=>exact wpAny_pyIter_tuple a q
end
section
variable {prog:Program}{w:World}{A:Around}{E:Value->Shared->Prop}{s:Shared}
abbrev zH2 (b1 b2:Bool)(l1 l2:Addr)(s:Shared):Heap:=(((((s.heap.push (CU b1 l1)).push (CU b2 l2)).push { cls:=.type "tuple",data:=.seq #[.ref s.heap.objs.size,.ref (s.heap.objs.size+1)] }).push { cls:=.type "tuple",data:=.seq #[.none,.none] }).push { cls:=.type "zip",data:=.fields #[.none,.bool false,.bool false,.ref (s.heap.objs.size+2),.ref (s.heap.objs.size+3)] })
theorem XO (b1 b2:Bool)(l1 l2:Addr)(xs1 xs2:Array Value) :
 Meets (Builtin.«zip.__new__» ⟨[.type "zip",.ref l1,.ref l2],[]⟩) (fun _ R s=>SeqAt b1 s.heap l1 xs1/\SeqAt b2 s.heap l2 xs2/\R (.ok (.ret (.ref (s.heap.objs.size+4)))) { s with heap:=zH2 b1 b2 l1 l2 s }) :=
 .of_wp fun prog w A R s h=>by
  obtain ⟨hp,g,d,tk,os⟩:=s;obtain ⟨k1,k2,h⟩:=h
  have hs:=sub_zip
  have K1:SeqAt b1 (Shared.heap ⟨hp,g,d,tk,os⟩) l1 xs1:=k1.at fun o e=>e
  have K2:SeqAt b2 (Shared.heap ⟨(hp.push (CU b1 l1)),g,d,tk,os⟩) l2 xs2:=k2.at fun o e=>B4 _ (e)
  wp_walk using TX K1,TX K2
  simp only [Heap.size_push] at *
  exact ⟨_,rfl,h⟩
theorem J2k {b1 b2:Bool}{l1 l2:Addr}{xs1 xs2:Array Value}{Q:Value->Shared->Prop}(k1:SeqAt b1 s.heap l1 xs1)(k2:SeqAt b2 s.heap l2 xs2)
 (q:∀ h',IsZip h' (s.heap.objs.size+4) (s.heap.objs.size+2) (s.heap.objs.size+3) .none->DK h' (s.heap.objs.size+2) #[.ref s.heap.objs.size,.ref (s.heap.objs.size+1)]->DK h' (s.heap.objs.size+3) #[.none,.none]->ItAt b1 h' (s.heap.objs.size) l1 0->ItAt b2 h' (s.heap.objs.size+1) l2 0->(∀ c o,s.heap.get? c=some o->h'.get? c=some o)->Q (.ref (s.heap.objs.size+4)) { s with heap:=h' }) :
 wpAny (model prog w) A (call (.type "zip") [.ref l1,.ref l2]) Q E s:=by
 refine callType_new F.called_zip (by decide) (F.typeCall_zip_2 _ _) (F.newCall_zip_2 _ _) (fun obj=>F.args_object_init_3 obj _ _) F.entry_zip_new (XO b1 b2 l1 l2 xs1 xs2) ⟨k1,k2,?_⟩
 have z1:(s.heap.push (CU b1 l1)).objs.size=s.heap.objs.size+1:=by exact Heap.size_push ..
 have z2:((s.heap.push (CU b1 l1)).push (CU b2 l2)).objs.size=s.heap.objs.size+2:=by rw [Heap.size_push,z1]
 have z3:(((s.heap.push (CU b1 l1)).push (CU b2 l2)).push { cls:=.type "tuple",data:=.seq #[.ref s.heap.objs.size,.ref (s.heap.objs.size+1)] }).objs.size=s.heap.objs.size+3:=by rw [Heap.size_push,z2]
 have z4:((((s.heap.push (CU b1 l1)).push (CU b2 l2)).push { cls:=.type "tuple",data:=.seq #[.ref s.heap.objs.size,.ref (s.heap.objs.size+1)] }).push { cls:=.type "tuple",data:=.seq #[.none,.none] }).objs.size=s.heap.objs.size+4:=by rw [Heap.size_push,z3]
 have g0:(zH2 b1 b2 l1 l2 s).get? s.heap.objs.size=some _:=B4 _ (B4 _ (B4 _ (B4 _ (Heap.get?_push_size _ (OP _ _)))))
 have g1:(zH2 b1 b2 l1 l2 s).get? (s.heap.push (CU b1 l1)).objs.size=some _:=B4 _ (B4 _ (B4 _ (Heap.get?_push_size _ (OP _ _))))
 rw [z1] at g1
 have g2:(zH2 b1 b2 l1 l2 s).get? ((s.heap.push (CU b1 l1)).push (CU b2 l2)).objs.size=some _:=B4 _ (B4 _ (Heap.get?_push_size _ rfl))
 rw [z2] at g2
 have g3:(zH2 b1 b2 l1 l2 s).get? (((s.heap.push (CU b1 l1)).push (CU b2 l2)).push { cls:=.type "tuple",data:=.seq #[.ref s.heap.objs.size,.ref (s.heap.objs.size+1)] }).objs.size=some _:=B4 _ (Heap.get?_push_size _ rfl)
 rw [z3] at g3
 have g4:(zH2 b1 b2 l1 l2 s).get? ((((s.heap.push (CU b1 l1)).push (CU b2 l2)).push { cls:=.type "tuple",data:=.seq #[.ref s.heap.objs.size,.ref (s.heap.objs.size+1)] }).push { cls:=.type "tuple",data:=.seq #[.none,.none] }).objs.size=some _:=Heap.get?_push_size _ rfl
 rw [z4] at g4
 exact ⟨⟨_,g4,rfl⟩,q _ g4 g2 g3 (VF g0) (VF g1) fun c o x=>B4 _ (B4 _ (B4 _ (B4 _ (B4 _ x))))⟩
end
def Q5r (K:Fg)(b1 b2:Bool)(l1 l2:Addr):It :=
 ⟨fun i H=>∃ ys1 ys2 y1 y2,SqX K b1 H l1 ys1/\ys1[i]?=some y1/\SqX K b2 H l2 ys2/\ys2[i]?=some y2,
  fun i H v H'=>∃ t y1 y2,v=.ref t/\H t=none/\H'=upd H t (.tup [y1,y2])/\(∀ ys,SqX K b1 H l1 ys->ys[i]?=some y1)/\(∀ ys,SqX K b2 H l2 ys->ys[i]?=some y2),
  fun i H=>(∃ ys,SqX K b1 H l1 ys/\ys.length<=i)/\(∃ ys,SqX K b2 H l2 ys)⟩
structure ZFp2 (z TI TO i1 i2:Addr):Prop where
 z_TI:z≠TI
 z_TO:z≠TO
 z_i1:z≠i1
 z_i2:z≠i2
 TI_z:TI≠z
 TI_TO:TI≠TO
 TI_i1:TI≠i1
 TI_i2:TI≠i2
 TO_z:TO≠z
 TO_TI:TO≠TI
 TO_i1:TO≠i1
 TO_i2:TO≠i2
 i1_z:i1≠z
 i1_TI:i1≠TI
 i1_TO:i1≠TO
 i1_i2:i1≠i2
 i2_z:i2≠z
 i2_TI:i2≠TI
 i2_TO:i2≠TO
 i2_i1:i2≠i1
def Q9q (b1 b2:Bool)(z TI TO i1 i2 l1 l2:Addr)(i:Nat)(h:Heap):Prop:=IsZip h z TI TO .none/\DK h TI #[.ref i1,.ref i2]/\(∃ a1 a2,DK h TO #[a1,a2])/\ItAt b1 h i1 l1 i/\ItAt b2 h i2 l2 i
theorem J0o {elts:List Expr}{c1}{tpos:Pos}{b1 b2:Bool}{z TI TO i1 i2 l1 l2:Addr}(Z:ZFp2 z TI TO i1 i2):Turn P w K (.Tuple elts c1 tpos) (Q5r K b1 b2 l1 l2) [z,TI,TO,i1,i2] z (Q9q b1 b2 z TI TO i1 i2 l1 l2) where
 mem:=by simp
 obj:=fun i h st b hb=>by
  obtain ⟨s1,s2,⟨a1,a2,s3⟩,d1,d2⟩:=st
  simp only [List.mem_cons,List.not_mem_nil,or_false] at hb
  rcases hb with rfl|rfl|rfl|rfl|rfl
  · exact ⟨_,s1,fun v q=>by cases q⟩
  · exact ⟨_,s2,fun v q=>by cases q⟩
  · exact ⟨_,s3,fun v q=>by cases q⟩
  · exact d1.obj
  · exact d2.obj
 keep:=fun i h h' st k=>by
  obtain ⟨s1,s2,⟨a1,a2,s3⟩,d1,d2⟩:=st
  exact ⟨k z (by simp) _ s1,k TI (by simp) _ s2,⟨a1,a2,k TO (by simp) _ s3⟩,d1.at fun o e=>k i1 (by simp) o e,d2.at fun o e=>k i2 (by simp) o e⟩
 item:=by
  intro X hP hw hK hc i pins s σ H E I hf st hg
  subst hP hw hK
  obtain ⟨ys1,ys2,y1,y2,h1,q1,h2,q2⟩:=hg
  obtain ⟨s1,s2,⟨a1,a2,s3⟩,d1,d2⟩:=st
  obtain ⟨v1,r1,p1,_⟩:=I.seqX h1
  obtain ⟨u1,m1,t1⟩:=r1.get q1
  obtain ⟨v2,r2,p2,_⟩:=I.seqX h2
  obtain ⟨u2,m2,t2⟩:=r2.get q2
  have D:ZAp2 z TI TO i1 i2 l1 l2:={ z_TI:=Z.z_TI,z_TO:=Z.z_TO,z_i1:=Z.z_i1,z_i2:=Z.z_i2,TI_z:=Z.TI_z,TI_TO:=Z.TI_TO,TI_i1:=Z.TI_i1,TI_i2:=Z.TI_i2,TO_z:=Z.TO_z,TO_TI:=Z.TO_TI,TO_i1:=Z.TO_i1,TO_i2:=Z.TO_i2,i1_z:=Z.i1_z,i1_TI:=Z.i1_TI,i1_TO:=Z.i1_TO,i1_i2:=Z.i1_i2,i2_z:=Z.i2_z,i2_TI:=Z.i2_TI,i2_TO:=Z.i2_TO,i2_i1:=Z.i2_i1,l1_z:=I.seqX_ne h1 (hf z (by simp)),l1_TI:=I.seqX_ne h1 (hf TI (by simp)),l1_TO:=I.seqX_ne h1 (hf TO (by simp)),l1_i1:=I.seqX_ne h1 (hf i1 (by simp)),l1_i2:=I.seqX_ne h1 (hf i2 (by simp)),l2_z:=I.seqX_ne h2 (hf z (by simp)),l2_TI:=I.seqX_ne h2 (hf TI (by simp)),l2_TO:=I.seqX_ne h2 (hf TO (by simp)),l2_i1:=I.seqX_ne h2 (hf i1 (by simp)),l2_i2:=I.seqX_ne h2 (hf i2 (by simp)) }
  have hT:s.TypeIs (.ref z) "zip":=⟨_,s1,rfl⟩
  have szn:∀ b∈[z,TI,TO,i1,i2],b≠s.heap.objs.size:=fun b hb e=>by
   simp only [List.mem_cons,List.not_mem_nil,or_false] at hb
   rcases hb with rfl|rfl|rfl|rfl|rfl
   · exact Nat.lt_irrefl _ (e▸B5 s1)
   · exact Nat.lt_irrefl _ (e▸B5 s2)
   · exact Nat.lt_irrefl _ (e▸B5 s3)
   · obtain ⟨_,w1,_⟩:=d1.obj;exact Nat.lt_irrefl _ (e▸B5 w1)
   · obtain ⟨_,w1,_⟩:=d2.obj;exact Nat.lt_irrefl _ (e▸B5 w1)
  unfold pyNext
  refine B1 (wpAny_attempt (wpAny_callSpecial?_slot (name:=Str.ofString "__next__") hT F.slot_zip_next (wpAny_call_entry F.slot_zip_next hT F.entry_zip_next (J0l D s1 s2 s3 d1 p1 d2 p2 (x1:=u1) (by simpa using m1) (x2:=u2) (by simpa using m2) fun h' e1 e2 f1 f2 e3 kp=>B2 ?_) (F.args_zip_next_1 _))))
  refine ⟨_,rfl,wpAny_letOwnedTupleGo_zip (s:={ s with heap:=h' }) e1 fun hq e4 sb=>?_⟩
  have up:∀ b o,b≠z->h'.get? b=some o->hq.get? b=some o:=fun b o hb e=>sb.extBut _ _ hb e
  have I2:Inv X pins σ (upd H s.heap.objs.size (.tup [y1,y2])) { s with heap:=hq }:=I.zipped (t':=s.toks) (fp:=[z,TI,TO,i1,i2]) hf (fun b o hb e=>up b o (fun x=>hb (by simp [x])) (kp b o (fun x=>hb (by simp [x])) (fun x=>hb (by simp [x])) (fun x=>hb (by simp [x])) (fun x=>hb (by simp [x])) e)) (Nat.le_refl _)
   ⟨Nat.le_trans (Nat.le_of_ble_eq_true rfl) BQ,[u1,u2],.cons t1 (.cons t2 (.nil)),⟨_,up _ _ (Ne.symm (szn z (by simp))) e3,rfl,_,rfl⟩⟩
  refine ⟨.ref s.heap.objs.size,_,I2,rfl,⟨_,y1,y2,rfl,I.hok.fresh (Nat.le_refl _),rfl,fun ys hy=>by rw [I.seqX_inj hy h1];exact q1,fun ys hy=>by rw [I.seqX_inj hy h2];exact q2⟩,⟨e4,up _ _ D.TI_z (kp _ _ D.TI_z D.TI_TO D.TI_i1 D.TI_i2 s2),⟨_,_,up _ _ D.TO_z e2⟩,f1.at fun o e=>up _ o D.i1_z e,f2.at fun o e=>up _ o D.i2_z e⟩,fun b hb=>?_⟩
  rw [V3 (szn b hb)]
  exact (hf b hb).1
 done:=by
  intro X hP hw hK hc i pins s σ H E I hf st hg
  subst hP hw hK
  obtain ⟨⟨ys1,h1,q1⟩,⟨ys2,h2⟩⟩:=hg
  obtain ⟨s1,s2,⟨a1,a2,s3⟩,d1,d2⟩:=st
  obtain ⟨v1,r1,p1,_⟩:=I.seqX h1
  obtain ⟨v2,r2,p2,_⟩:=I.seqX h2
  have D:ZAp2 z TI TO i1 i2 l1 l2:={ z_TI:=Z.z_TI,z_TO:=Z.z_TO,z_i1:=Z.z_i1,z_i2:=Z.z_i2,TI_z:=Z.TI_z,TI_TO:=Z.TI_TO,TI_i1:=Z.TI_i1,TI_i2:=Z.TI_i2,TO_z:=Z.TO_z,TO_TI:=Z.TO_TI,TO_i1:=Z.TO_i1,TO_i2:=Z.TO_i2,i1_z:=Z.i1_z,i1_TI:=Z.i1_TI,i1_TO:=Z.i1_TO,i1_i2:=Z.i1_i2,i2_z:=Z.i2_z,i2_TI:=Z.i2_TI,i2_TO:=Z.i2_TO,i2_i1:=Z.i2_i1,l1_z:=I.seqX_ne h1 (hf z (by simp)),l1_TI:=I.seqX_ne h1 (hf TI (by simp)),l1_TO:=I.seqX_ne h1 (hf TO (by simp)),l1_i1:=I.seqX_ne h1 (hf i1 (by simp)),l1_i2:=I.seqX_ne h1 (hf i2 (by simp)),l2_z:=I.seqX_ne h2 (hf z (by simp)),l2_TI:=I.seqX_ne h2 (hf TI (by simp)),l2_TO:=I.seqX_ne h2 (hf TO (by simp)),l2_i1:=I.seqX_ne h2 (hf i1 (by simp)),l2_i2:=I.seqX_ne h2 (hf i2 (by simp)) }
  have hT:s.TypeIs (.ref z) "zip":=⟨_,s1,rfl⟩
  have hl:=r1.length
  unfold pyNext
  refine B1 (wpAny_attempt (wpAny_callSpecial?_slot (name:=Str.ofString "__next__") hT F.slot_zip_next (wpAny_call_entry F.slot_zip_next hT F.entry_zip_next (J2o (I.ok.hd hc) D s1 s2 s3 d1 p1 d2 p2 (by simp;omega) fun h' e kp he=>?_) (F.args_zip_next_1 _))))
  obtain ⟨oe,f1,f2⟩:=he
  refine B1 (wpAny_isInstance (T:="StopIteration") (b:=true) ⟨oe,f1,f2⟩ isSubtype_stop (B2 ⟨rfl,?_⟩))
  exact I.turnedL (t':=s.toks) (fp:=[z,TI,TO,i1,i2]) hf fun b o hb e=>kp b o (fun x=>hb (by simp [x])) (fun x=>hb (by simp [x])) (fun x=>hb (by simp [x])) (fun x=>hb (by simp [x])) e
 self:=fun _ _ _ _ _ st h=>wpAny_pyIter_zip st.1 h
def J4t (K:Fg)(b1 b2:Bool)(ta:TA):TI:=fun σ H R=>ta σ H fun vs H1=>∃ l1 l2,vs=[.ref l1,.ref l2]/\(∃ ys,SqX K b1 H1 l1 ys)/\(∃ ys,SqX K b2 H1 l2 ys)/\R (Q5r K b1 b2 l1 l2) H1
theorem J7w {X:Cx}{elts:List Expr}{c1}{tpos:Pos}(K:Fg)(hK:X.K=K)(b1 b2:Bool){e1 e2:Expr}{ta:TA}{p pos:Pos}(hg:Gl X "zip") (hm:X.mg "zip" = none) (ha:PA X [e1,e2] ta)
 (hs:starEach [e1,e2] X.env=[(false,eval e1 X.env),(false,eval e2 X.env)]:=by rfl) (hs2:starEach [e2] X.env=[(false,eval e2 X.env)]:=by rfl) :
 PI X (.Tuple elts c1 tpos) (.Call (.Name "zip" p) [e1,e2] [] pos) (J4t K b1 b2 ta):=by
 subst hK
 intro pins s σ H R I h
 refine Call_ (GA I hg hm Q5f (PyProof.Rows.callWith_type1 (thn (ha pos pins s σ H _ I h) fun us s1 ⟨vs,H1,I1,r1,q1⟩=>?_) (by rw [hs,hs2]) (by rw [hs2];rfl)))
 obtain ⟨l1,l2,e,⟨ys1,h1⟩,⟨ys2,h2⟩,q⟩:=q1
 subst e
 obtain ⟨u1,u2,rfl,t1,t2⟩:=QI r1
 cases t1
 cases t2
 obtain ⟨v1,r1,p1,_⟩:=I1.seqX h1
 obtain ⟨v2,r2,p2,_⟩:=I1.seqX h2
 refine J2k p1 p2 fun h' f1 f2 f3 g1 g2 kp=>?_
 refine wpAny_pyIter_zip (s:={ s1 with heap:=h' }) f1 ?_
 refine ⟨s1.heap.objs.size+4,[s1.heap.objs.size+4,s1.heap.objs.size+2,s1.heap.objs.size+3,s1.heap.objs.size,s1.heap.objs.size+1],_,_,H1,rfl,I1.kept (t':=s1.toks) kp,J0o (b1:=b1) (TI:=s1.heap.objs.size+2) (TO:=s1.heap.objs.size+3) (i1:=s1.heap.objs.size) (i2:=s1.heap.objs.size+1) (l1:=l1) (l2:=l2) ⟨by show (_:Nat)≠_;omega,by show (_:Nat)≠_;omega,by show (_:Nat)≠_;omega,by show (_:Nat)≠_;omega,by show (_:Nat)≠_;omega,by show (_:Nat)≠_;omega,by show (_:Nat)≠_;omega,by show (_:Nat)≠_;omega,by show (_:Nat)≠_;omega,by show (_:Nat)≠_;omega,by show (_:Nat)≠_;omega,by show (_:Nat)≠_;omega,by show (_:Nat)≠_;omega,by show (_:Nat)≠_;omega,by show (_:Nat)≠_;omega,by show (_:Nat)≠_;omega,by show (_:Nat)≠_;omega,by show (_:Nat)≠_;omega,by show (_:Nat)≠_;omega,by show (_:Nat)≠_;omega⟩,⟨f1,f2,⟨_,_,f3⟩,g1,g2⟩,fun b hb=>?_,q⟩
 have hge:s1.heap.objs.size<=b:=by
  simp only [List.mem_cons,List.not_mem_nil,or_false] at hb
  rcases hb with rfl|rfl|rfl|rfl|rfl<;>first|exact Nat.le_refl _|exact Nat.le_add_right _ _
 exact I1.fpOk hge (I1.hok.fresh hge)
section
variable {X:Cx}
theorem J3p {x:Str}{n:Int}{pos:Pos}(hg:Gl X x)(hm:∃ t,X.mg x=some (.int n t))(hd:(x==("__debug__" : Str))=false:=by decide):PE X (.Name x pos) (tC (.int n)):=by
 obtain ⟨t,e⟩:=hm
 exact J7y hg e ⟨t,rfl⟩ hd
theorem ZD:∀ cs:List (Int×Nat×Pos),PA X (cs.map fun c=>.Constant (.int c.1) c.2.1 c.2.2) (fun σ H Q=>Q (cs.map fun c=>V.int c.1) H)
 | []=>JJ
 | c::cs=>by
   intro pos pins s σ H Q I h
   exact BS (e:=.Constant (.int c.1) c.2.1 c.2.2) AM (ZD cs) (by rfl) pos pins s σ H Q I h
theorem WT {es:List Expr}{x1}{pos:Pos}(cs:List (Int×Nat×Pos))(h:es=cs.map fun c=>.Constant (.int c.1) c.2.1 c.2.2):PE X (.Tuple es x1 pos) (Q5v fun σ H Q=>Q (cs.map fun c=>V.int c.1) H):=by
 subst h
 exact J3n (ZD cs)
theorem J3i {sts0:List Stmt}{t:TS}(h:PSs X sts0 t):∀ {sts:List Stmt},PSs X sts (fun D σ H=>sts=sts0/\t D σ H):=by
 intro sts pins s σ H D I q
 obtain ⟨e,q⟩:=q
 subst e
 exact h pins s σ H D I q
end
theorem J0u {X:Cx}(K:Fg)(h:X.K=K):SlR X (J3e K):=by subst h;exact J7g
section
variable {X:Cx}{x:Str}{C:Addr}{bm bmN:List Value}{newId Bn inN B nid initId:String}{e0:Expr}{rest:List Expr}{t:TA}{np cpos pos:Pos}
theorem J3k (O:OwnCls x C bm newId X.mg X.base)(Fn:ExcBaseFacts Bn newId inN bmN)(hBn:bm.contains (.type Bn)=true)(FB:ExcBaseFacts B nid initId bm)(hc:X.calm=true)(hg:Gl X x)(E:XK)
 (hx:∀ (pins:List (Addr×Obj)) (σ:St) (H:Hp) (s:Shared) (h':Heap) (e:Addr) (us:List Value),Inv X pins σ H s->Heap.MadeExcOf s.heap h' e (.ref C) us->E (.ref C) none H->X.xe (.ref e) { s with heap:=h' })
 (ha:PA X (e0::rest) t) (hz:∀ σ H Q,t σ H Q->t σ H fun vs H1=>vs.length<=sizeLine/\Q vs H1)
 (he:starEach (e0::rest) X.env=(false,eval e0 X.env)::starEach rest X.env:=by rfl) (hpl:(backTo cpos (starEach rest X.env)).any (·.1)=false:=by rfl) (hd:(x==("__debug__" : Str))=false:=by decide) :
 PS X (.Raise (some (.Call (.Name x np) (e0::rest) [] cpos)) none pos) (fun _ σ H=>t σ H fun _ H1=>E (.ref C) none H1):=by
 intro pins s σ H D I q
 obtain ⟨tl,N,nm,qn,bs,hdct,sn,sub,ab,col,dd,k0,k1,k2,k3,k5,mN,hC,hN,hni,T⟩:=O.obj
 refine wpAny_Raise_call_subU (C:=C) (nm:=nm) (q:=qn) (N:=N) (bs:=bs) (bm:=tl) (hdct:=hdct) (sn:=sn) (sub:=sub) (ab:=ab) (col:=col) (dd:=dd) (k0:=k0) (k1:=k1) (k2:=k2) (k3:=k3) (k5:=k5)
  Fn hBn FB (mN:=mN) (T.hasType FB.hasBase) (I.ok.hd hc) (by rw [he];show (false||(backTo cpos (starEach rest X.env)).any (·.1))=false;rw [hpl];rfl) hni (SI I hg O.bound ⟨rfl,?_⟩ hd)
 have h1:=ha cpos pins s σ H _ I (hz _ _ _ q)
 rw [he] at h1 ⊢
 refine Calls.evalArgs_plain (wpAny_mono h1 (fun us s2 ⟨vs,H1,I1,r,z,w⟩=>⟨rfl,by rw [<- r.length];exact z,I1.bk _ _ hC,hN.keeps I1.bk,T.keeps I1.bk,fun h' e hm=>hx pins σ H1 s2 h' e us I1 hm w⟩) fun _ _ y=>y)
end
section
variable {M:Model}{A:Around}{E:Value->Shared->Prop}{s:Shared}
structure Gone (fs:List Addr)(x:Addr)(ox:Obj)(old:List Addr)(h h':Heap)(T:Addr):Prop where
 keep:∀ b o,b∉fs->b≠x->b∉old->h.get? b=some o->h'.get? b=some o
 slot:∀ b o,b∈fs->h.get? b=some o->∃ sl,h'.get? b=some { o with slots:=sl }
 new:h.objs.size<=T
 exc:h'.get? x=some (ox.mapFields (·.setIfInBounds 1 (.ref T)))
 tr:∃ oT ts,h'.get? T=some oT/\oT.data=.fields ts/\ts[3]?=some .none
theorem PC {env:Env}{outer:List Env}{L x:Addr}{ox:Obj}{vs:Array Value}{hd:Value}{nx:Bool}{Q:Unit->Shared->Prop}(f1:A.frames=some (env::outer))(f2:s.heap.FunFrames base (env::outer))(f3:env.frame=some L)
 (x1:s.heap.get? x=some ox) (x2:ox.data=.fields vs) (x3:1<vs.size) (q:∀ h' T,Gone ((env::outer).filterMap (·.frame)) x ox [] s.heap h' T->Q () { s with heap:=h' }) :
 wpAny M A (do let a <- frameOf env;let pl <- entryPlaceOf L nx;let b <- EntryCells.newEntry hd a .none (rawInt L) .none pl;setField (.ref x) 1 b) (fun _ s'=>wpAny M A (setFlight (.ref x) none) Q E s') E s:=by
 have xf:x∉(env::outer).filterMap (·.frame):=fun hm=>by
  obtain ⟨_,o,e1,e2⟩:=f2.mem hm
  rw [x1] at e1
  cases e1
  exact e2 vs x2
 refine B1 (wpAny_frameOf_fun f1 f2 f3 fun g1 m1=>B1 (wpAny_entryPlaceOf fun pl hpl=>?_))
 unfold EntryCells.newEntry newFields
 refine B1 (wpAny_newObj_type ?_ (hpl.sizeOk5 _ _ _ _ _))
 generalize hob:({ cls:=.type "traceback",dict:=none,data:=.fields ([hd,.ref L,.none,rawInt L,.none]++(if pl.isEmpty then List.replicate 6 Value.none else pl)).toArray }:Obj)=ob
 have dob:ob.data=.fields ([hd,.ref L,.none,rawInt L,.none]++(if pl.isEmpty then List.replicate 6 Value.none else pl)).toArray:=by rw [<- hob]
 have lob:ob.isFreed=false:=Obj.isFreed_of_fields dob
 have xg1:g1.get? x=some ox:=(m1.2.1 x xf).trans x1
 have xg2:=B4 (h:=g1) ob xg1
 refine wpAny_setField xg2 x2 x3 ?_
 have nTx:g1.objs.size≠x:=Nat.ne_of_gt (B5 xg1)
 have dx:=Obj.data_mapFields x2 (·.setIfInBounds 1 (Value.ref g1.objs.size))
 have xg3:=Heap.get?_update_self (Obj.mapFields (·.setIfInBounds 1 (Value.ref g1.objs.size))) xg2 (Obj.isFreed_of_fields dx)
 have tg3:=(Heap.get?_update_other (g1.push ob) (Obj.mapFields (·.setIfInBounds 1 (Value.ref g1.objs.size))) (Ne.symm nTx)).trans (Heap.get?_push_size g1 lob)
 unfold setFlight
 refine B1 (wpAny_field xg3 dx (x:=.ref g1.objs.size) (by simp [x3]) ?_)
 rw [if_pos (show (Value.ref g1.objs.size != Value.none)=true from by simp)]
 refine wpAny_setField tg3 dob (by simp only [List.size_toArray,List.length_append,List.length_cons,List.length_nil]<;>omega) (q _ g1.objs.size ⟨?_,?_,?_,?_,?_⟩)
 · intro b o nf nx' _ e
   have e1:g1.get? b=some o:=(m1.2.1 b nf).trans e
   rw [Heap.get?_update_other _ _ (Nat.ne_of_gt (B5 e1)),Heap.get?_update_other _ _ (Ne.symm nx')]
   exact B4 _ e1
 · intro b o hb e
   obtain ⟨sl,e1⟩:=m1.2.2 b o e
   refine ⟨sl,?_⟩
   have nbx:b≠x:=fun z=>xf (z▸hb)
   rw [Heap.get?_update_other _ _ (Nat.ne_of_gt (B5 e1)),Heap.get?_update_other _ _ (Ne.symm nbx)]
   exact B4 _ e1
 · rw [m1.1]
   exact Nat.le_refl _
 · rw [Heap.get?_update_other _ _ nTx]
   exact xg3
 · refine ⟨_,_,Heap.get?_update_self _ tg3 (Obj.isFreed_of_fields (Obj.data_mapFields dob _)),Obj.data_mapFields dob _,?_⟩
   first|(simp;done)|(rcases hpl with rfl|⟨_,_,_,_,_,_,_,rfl⟩<;>simp)
theorem UX {env:Env}{outer:List Env}{L x:Addr}{ox:Obj}{vs:Array Value}{Q:Unit->Shared->Prop}(f1:A.frames=some (env::outer))(f2:s.heap.FunFrames base (env::outer))(f3:env.frame=some L)
 (x1:s.heap.get? x=some ox) (x2:ox.data=.fields vs) (x3:vs[1]?=some .none) (q:∀ h' T,Gone ((env::outer).filterMap (·.frame)) x ox [] s.heap h' T->Q () { s with heap:=h' }):wpAny M A (leaving env (.ref x)) Q E s:=by
 unfold leaving noteFrame;simp only [f3]
 refine B1 (B1 (wpAny_field x1 x2 x3 ?_));rw [if_neg (by decide)]
 exact PC f1 f2 f3 x1 x2 (Array.getElem?_eq_some_iff.mp x3).1 q
theorem XU {env:Env}{outer:List Env}{L x T0:Addr}{ox oT:Obj}{vs ts:Array Value}{Q:Unit->Shared->Prop}(f1:A.frames=some (env::outer))(f2:s.heap.FunFrames base (env::outer))(f3:env.frame=some L)
 (x1:s.heap.get? x=some ox) (x2:ox.data=.fields vs) (x3:vs[1]?=some (.ref T0)) (t1:s.heap.get? T0=some oT) (t2:oT.data=.fields ts) (t3:ts[3]?=some .none) (tx:T0≠x)
 (q:∀ h' T,Gone ((env::outer).filterMap (·.frame)) x ox [T0] s.heap h' T->Q () { s with heap:=h' }):wpAny M A (leaving env (.ref x)) Q E s:=by
 unfold leaving noteFrame;simp only [f3]
 refine B1 (B1 (wpAny_field x1 x2 x3 ?_));rw [if_pos (show (Value.ref T0 != Value.none)=true from by simp)]
 refine B1 (wpAny_field t1 t2 t3 ?_);rw [if_neg (show ¬ ((Value.none==rawInt L)=true) from by simp [rawInt])]
 refine B1 (wpAny_setField t1 t2 (Array.getElem?_eq_some_iff.mp t3).1 ?_)
 have oth:∀ b,b≠T0->(s.heap.update T0 (Obj.mapFields (·.setIfInBounds 3 Value.none))).get? b=s.heap.get? b:=fun b hb=>Heap.get?_update_other _ _ (Ne.symm hb)
 have nrec:∀ b o,s.heap.get? b=some o->(∀ vs,o.data≠.fields vs)->b≠T0:=fun b o e n z=>by
  rw [z,t1] at e
  cases e
  exact n ts t2
 have fT:∀ b∈(env::outer).filterMap (·.frame),b≠T0:=fun b hb=>by
  obtain ⟨_,o,e1,e2⟩:=f2.mem hb
  exact nrec b o e1 e2
 refine PC f1 (f2.of_keeps fun b o e n=>⟨o,(oth b (nrec b o e n)).trans e,rfl⟩) f3 ((oth x (Ne.symm tx)).trans x1) x2 (Array.getElem?_eq_some_iff.mp x3).1 fun h' T g=>q h' T ⟨?_,?_,?_,g.exc,g.tr⟩
 · intro b o nf nx no e
   exact g.keep b o nf nx (by simp) ((oth b (by simpa using no)).trans e)
 · intro b o hb e
   exact g.slot b o hb ((oth b (fT b hb)).trans e)
 · have:=g.new
   simpa using this
end
theorem ObjOk.ex {H:Hp}{h:Heap}{a:Addr}{o:HO}(x:ObjOk P w H h a o):∃ ob,h.get? a=some ob:=by
 cases o with
 | lst xs=>obtain ⟨_,_,_,_,e⟩:=x;exact ⟨_,e⟩
 | tup xs=>obtain ⟨_,_,_,ob,e,_⟩:=x;exact ⟨_,e⟩
 | dK kvs=>obtain ⟨_,_,_,_,o,_,_,e,_⟩:=x;exact ⟨_,e⟩
 | dT kvs=>obtain ⟨_,_,_,_,o,_,_,e,_⟩:=x;exact ⟨_,e⟩
 | set S n=>obtain ⟨o,_,_,_,e,_⟩:=x;exact ⟨_,e⟩
 | ins C dx fs=>obtain ⟨_,_,_,e,_⟩:=x;exact ⟨_,e⟩
 | own y=>exact x
 | xd fs=>obtain ⟨_,⟨_,_,_,e,_⟩,_⟩:=x;exact ⟨_,e⟩
 | rng lo hi=>obtain ⟨_,_,_,e⟩:=x;exact ⟨_,e⟩
 | frz ob u=>obtain ⟨e,_⟩:=x;exact ⟨_,e⟩
 | tbl ps=>exact ⟨_,(show h.get? a=some _ from x)⟩
 | met f y=>exact ⟨_,(show h.get? a=some _ from x)⟩
 | ext φ=>obtain ⟨_,e,_⟩:=x;exact e
theorem J2e (o:Obj)(f:Array Value->Array Value):(o.mapFields f).dict=o.dict:=by unfold Obj.mapFields;split<;>rfl
def Exd (H:Hp)(base g h:Heap)(x C:Addr):Prop:=H x=none/\base.get? x=none/\g.get? x=none/\∃ ox vs T oT ts,h.get? x=some ox/\ox.cls=.ref C/\ox.dict=none/\ox.data=.fields vs/\vs[1]?=some (.ref T)/\vs[2]?=some .none /\
 T≠x/\H T=none/\base.get? T=none/\g.get? T=none/\h.get? T=some oT/\oT.data=.fields ts/\ts[3]?=some .none
def CX1 (P:Program)(w:World)(base:Heap):CXT:=fun outer H s E e s'=>∃ (x C:Addr) (H':Hp),e=.ref x/\s'.os=s.os/\AllBare s'.gens/\Un (frs outer) [] H H' s.heap s'.heap/\HOk P w H' s'.heap/\Exd H' base s.heap s'.heap x C/\E (.ref C) none H'
theorem J2q {P:Program}{w:World}{K:Fg}{mg:Str->Option Value}{base:Heap}{N:List Str}{qual:Str}{scope:Scope}{f:Addr}{cd:Value}{A:Around}{outer:List Env}{s:Shared}{H:Hp}{E:XK}{C:Addr}
 (pins:List (Addr×Obj)) (σ:St) (H1:Hp) (s1:Shared) (h':Heap) (e:Addr) (us:List Value) (I:Inv (V1 (CX1 P w base) P w K mg base N qual scope f cd A outer s H E) pins σ H1 s1) (hm:Heap.MadeExcOf s1.heap h' e (.ref C) us) (q:E (.ref C) none H1) :
 (V1 (CX1 P w base) P w K mg base N qual scope f cd A outer s H E).xe (.ref e) { s1 with heap:=h' }:=by
 obtain ⟨t,e1,e2,e3⟩:=hm.there
 have nH:∀ b,s1.heap.get? b=none->H1 b=none:=fun b hb=>by
  cases z:H1 b with
  | none=>rfl
  | some o =>
    obtain ⟨ob,eo⟩:∃ ob,s1.heap.get? b=some ob:=(I.hok b o z).ex
    rw [hb] at eo
    cases eo
 have hst:s1.heap.FunFrames base (envOfC qual scope s.heap.objs.size f cd::outer):=I.stack
 have hfree:∀ b∈frs (envOfC qual scope s.heap.objs.size f cd::outer),H1 b=none:=I.stkFree
 show wpAny (model P w) (A.deeper (envOfC qual scope s.heap.objs.size f cd)) (leaving (envOfC qual scope s.heap.objs.size f cd) (.ref e)) _ _ { s1 with heap:=h' }
 refine UX (s:={ s1 with heap:=h' }) (base:=base) I.ok.frames (hst.of_keeps fun b o eb _=>⟨o,hm.keeps b o eb,rfl⟩) rfl e1 rfl rfl fun h2 T g=>?_
 have lt1:∀ b o,s1.heap.get? b=some o->b<h'.objs.size:=fun b o eb=>B5 (hm.keeps b o eb)
 have neE:∀ b o,s1.heap.get? b=some o->b≠e:=fun b o eb z=>by rw [z,hm.new] at eb;cases eb
 have kp:∀ b o,b∉frs (envOfC qual scope s.heap.objs.size f cd::outer)->s1.heap.get? b=some o->h2.get? b=some o:=fun b o nf eb=>g.keep b o nf (neE b o eb) (by simp) (hm.keeps b o eb)
 have sl:∀ b o,b∈frs (envOfC qual scope s.heap.objs.size f cd::outer)->s1.heap.get? b=some o->∃ z,h2.get? b=some { o with slots:=z }:=fun b o hb eb=>g.slot b o hb (hm.keeps b o eb)
 have nTo:∀ b o,s1.heap.get? b=some o->b≠T:=fun b o eb z=>by
  have h1:=lt1 b o eb
  rw [z] at h1
  exact absurd (Nat.lt_of_lt_of_le h1 g.new) (Nat.lt_irrefl _)
 have baseK:∀ b o,base.get? b=some o->s1.heap.get? b=some o:=I.bk
 have nf:∀ b o,s.heap.get? b=some o->b∉frs outer->b∉frs (envOfC qual scope s.heap.objs.size f cd::outer):=fun b o eb nb hb=>by
  rcases List.mem_cons.mp (show b∈s.heap.objs.size::frs outer from hb) with z|z
  · exact absurd (B5 eb) (by rw [z];exact Nat.lt_irrefl _)
  · exact nb z
 have tH:H1 T=none:=by
  cases z:H1 T with
  | none=>rfl
  | some o =>
    obtain ⟨ob,eo⟩:=(I.hok T o z).ex
    exact absurd rfl (nTo T ob eo)
 have U:Un (frs outer) [] H H1 s.heap s1.heap:=I.base
 refine ⟨e,C,H1,rfl,I.os,I.bare,⟨fun b o eb n hb hx=>kp b o (nf b o eb hb) (U.keep b o eb n hb hx),fun b o eb n hb hx=>?_,U.free,fun b o eb hx=>?_,U.tups,U.frzs,U.tbls⟩,fun b o eb=>?_,⟨nH e hm.new,?_,?_,?_⟩,q⟩
 · obtain ⟨z,e4⟩:=U.slot b o eb n hb hx
   obtain ⟨z',e5⟩:=sl b _ (List.mem_cons_of_mem _ hb) e4
   exact ⟨z',e5⟩
 · obtain ⟨o',e4⟩:=U.there b o eb hx
   by_cases hb:b∈frs (envOfC qual scope s.heap.objs.size f cd::outer)
   · obtain ⟨z,e5⟩:=sl b o' hb e4
     exact ⟨_,e5⟩
   · exact ⟨o',kp b o' hb e4⟩
 · refine (I.hok b o eb).stay (fun c v hc ev=>kp c v (fun hb=>?_) ev) (fun _ z=>z) fun _ _ z=>z
   have:=hfree c hb
   rcases hc with z|z
   · rw [z,eb] at this
     cases this
   · rw [z] at this
     cases this
 · cases z:base.get? e with
   | none=>rfl
   | some o=>exact absurd rfl (neE e o (baseK e o z))
 · cases z:s.heap.get? e with
   | none=>rfl
   | some o =>
     obtain ⟨o',e4⟩:=U.there e o z (by simp)
     exact absurd rfl (neE e o' e4)
 · obtain ⟨oT,ts,g1,g2,g3⟩:=g.tr
   refine ⟨_,_,T,oT,ts,g.exc,rfl,rfl,rfl,rfl,rfl,?_,tH,?_,?_,g1,g2,g3⟩
   · intro z
     have:=B5 e1
     rw [<- z] at this
     exact absurd (Nat.lt_of_lt_of_le this g.new) (Nat.lt_irrefl _)
   · cases z:base.get? T with
     | none=>rfl
     | some o=>exact absurd rfl (nTo T o (baseK T o z))
   · cases z:s.heap.get? T with
     | none=>rfl
     | some o =>
       obtain ⟨o',e4⟩:=U.there T o z (by simp)
       exact absurd rfl (nTo T o' e4)
theorem Inv.raised {X:Cx}{pins:List (Addr×Obj)}{σ:St}{H H2:Hp}{s s':Shared}(I:Inv X pins σ H s)(os:s'.os=s.os)(bare:AllBare s'.gens)(un:Un (frs X.stack) [] H H2 s.heap s'.heap)(hok:HOk X.prog X.w H2 s'.heap):Inv X pins σ H2 s':=by
 obtain ⟨hh,g,d,t,os'⟩:=s'
 obtain rfl:os'=s.os:=os
 exact I.call (h':=hh) (g':=g) (d':=d) (t':=t) (ch:=[]) un hok bare (fun b z=>absurd z (by simp))
theorem JU {P:Program}{w:World}{K:Fg}{mg:Str->Option Value}{base:Heap}{N:List Str}{qual:Str}{scope:Scope}{f:Addr}{cd:Value}{A:Around}{outer:List Env}{s:Shared}{H:Hp}{E:XK} :
 FF (CX1 P w base) (V1 (CX1 P w base) P w K mg base N qual scope f cd A outer s H E) E:=by
 intro pins σ H1 s1 e s' I h
 obtain ⟨x,C,H2,rfl,os,bare,U2,hok2,⟨hx0,hb0,hg0,ox,vs,T0,oT,ts,x1,xc,xn,xd,v1,v2,tx,hT0,bT0,gT0,t1,t2,t3⟩,q⟩:=h
 have I2:Inv (V1 (CX1 P w base) P w K mg base N qual scope f cd A outer s H E) pins σ H2 s':=I.raised os bare U2 hok2
 have hst:s'.heap.FunFrames base (envOfC qual scope s.heap.objs.size f cd::outer):=I2.stack
 have hfree:∀ b∈frs (envOfC qual scope s.heap.objs.size f cd::outer),H2 b=none:=I2.stkFree
 have U1:Un (frs outer) [] H H1 s.heap s1.heap:=I.base
 have U:Un (frs outer) [] H H2 s.heap s'.heap:=I2.base
 show wpAny (model P w) (A.deeper (envOfC qual scope s.heap.objs.size f cd)) (leaving (envOfC qual scope s.heap.objs.size f cd) (.ref x)) _ _ s'
 refine XU (s:=s') (base:=base) I2.ok.frames hst rfl x1 xd v1 t1 t2 t3 tx fun h2 T g=>?_
 have ne1:∀ b o,s.heap.get? b=some o->b≠x/\b≠T0:=fun b o eb=>by
  obtain ⟨o',e4⟩:=U1.there b o eb (by simp)
  refine ⟨fun z=>?_,fun z=>?_⟩
  · rw [z,hg0] at e4
    cases e4
  · rw [z,gT0] at e4
    cases e4
 have nf:∀ b o,s.heap.get? b=some o->b∉frs outer->b∉frs (envOfC qual scope s.heap.objs.size f cd::outer):=fun b o eb nb hb=>by
  rcases List.mem_cons.mp (show b∈s.heap.objs.size::frs outer from hb) with z|z
  · exact absurd (B5 eb) (by rw [z];exact Nat.lt_irrefl _)
  · exact nb z
 have nTo:∀ b o,s'.heap.get? b=some o->b≠T:=fun b o eb z=>by
  have h1:=B5 eb
  rw [z] at h1
  exact absurd (Nat.lt_of_lt_of_le h1 g.new) (Nat.lt_irrefl _)
 have tH:H2 T=none:=by
  cases z:H2 T with
  | none=>rfl
  | some o =>
    obtain ⟨ob,eo⟩:=(hok2 T o z).ex
    exact absurd rfl (nTo T ob eo)
 have dx:=Obj.data_mapFields xd (·.setIfInBounds 1 (Value.ref T))
 refine ⟨x,C,H2,rfl,I2.os,bare,⟨fun b o eb n hb hx=>g.keep b o (nf b o eb hb) (ne1 b o eb).1 (by simpa using (ne1 b o eb).2) (U.keep b o eb n hb hx),fun b o eb n hb hx=>?_,U.free,fun b o eb hx=>?_,U.tups,U.frzs,U.tbls⟩,fun b o eb=>?_,⟨hx0,hb0,?_,?_⟩,q⟩
 · obtain ⟨z,e4⟩:=U.slot b o eb n hb hx
   obtain ⟨z',e5⟩:=g.slot b _ (List.mem_cons_of_mem _ hb) e4
   exact ⟨z',e5⟩
 · obtain ⟨o',e4⟩:=U.there b o eb hx
   by_cases hb:b∈frs (envOfC qual scope s.heap.objs.size f cd::outer)
   · obtain ⟨z,e5⟩:=g.slot b o' hb e4
     exact ⟨_,e5⟩
   · exact ⟨o',g.keep b o' hb (ne1 b o eb).1 (by simpa using (ne1 b o eb).2) e4⟩
 · have nx:b≠x:=fun z=>by rw [z,hx0] at eb;cases eb
   refine (hok2 b o eb).stay (fun c v hc ev=>g.keep c v (fun hb=>?_) (fun z=>?_) (fun z=>?_) ev) (fun _ z=>z) fun _ _ z=>z
   · have:=hfree c hb
     rcases hc with y|y
     · rw [y,eb] at this;cases this
     · rw [y] at this;cases this
   · rcases hc with y|y
     · rw [<- y,z,hx0] at eb;cases eb
     · rw [z,hx0] at y;cases y
   · have z:c=T0:=by simpa using z
     rcases hc with y|y
     · rw [<- y,z,hT0] at eb;cases eb
     · rw [z,hT0] at y;cases y
 · cases z:s.heap.get? x with
   | none=>rfl
   | some o=>exact absurd rfl (ne1 x o z).1
 · obtain ⟨oT',ts',g1,g2,g3⟩:=g.tr
   refine ⟨_,_,T,oT',ts',g.exc,(Obj.cls_mapFields ..).trans xc,(J2e ..).trans xn,dx,?_,?_,?_,tH,?_,?_,g1,g2,g3⟩
   · have:=(Array.getElem?_eq_some_iff.mp v1).1
     simp [this]
   · rw [Array.getElem?_setIfInBounds_ne (by decide)]
     exact v2
   · intro z
     exact nTo x _ x1 z.symm
   · cases z:base.get? T with
     | none=>rfl
     | some o=>exact absurd rfl (nTo T o (I2.bk T o z))
   · cases z:s.heap.get? T with
     | none=>rfl
     | some o =>
       obtain ⟨o',e4⟩:=U.there T o z (by simp)
       exact absurd rfl (nTo T o' e4)
theorem Fun.okX {P:Program}{w:World} {mg:Str->Option Value}{base:Heap}{CX:CXT}{x qual:Str}{st:Stmt}{f:Addr} {N ps:List Str}{k:Nat}{sp:Sp}(F:Fun K x qual st f fd)(S:FnScope N ps (J3 st))(len:∀ vs H Q E,sp vs H Q E->vs.length=ps.length)
 (hbody:∀ (cdv:Value) (A:Around) (outer:List Env) (s:Shared) (H:Hp) (vs:List V) (Q:VK) (E:XK),Room k (A.deeper (envOfC qual (J3 st) s.heap.objs.size f cdv))->sp vs H Q E ->
  ∃ t,PSs (V1 CX P w K mg base N qual (J3 st) f cdv A outer s H E) (BV st) t/\t { nx:=fun _ H'=>Q .non H',rt:=Q } (DM N vs) H):FnOk P w K mg base CX (k+1) f fd ps sp:=by
 obtain ⟨oc,od,kV,doc,pm,an,cdv,ct,osl,rfl,lk,hcd⟩:=F.ex
 exact Q0x lk hcd S len fun A outer s H vs Q E hr hsp=>hbody cdv A outer s H vs Q E hr hsp
theorem ND {X:Cx}{CX:CXT}{k:Nat}{ps:List Str}{sp:Sp}{E:XK}{x:Str}{p pos:Pos}{e:Expr}{es:List Expr}{t:TA}(hp:FF CX X E)(G:Callee X.prog X.w X.K X.mg X.base CX x k ps sp)(hr:Room k X.A)(hg:Gl X x)(ha:PA X (e::es) t)
 (hdb:(x==("__debug__" : Str))=false:=by decide) (he:starEach (e::es) X.env=(false,eval e X.env)::starEach es X.env:=by rfl) (hpl:(backTo pos (starEach es X.env)).any (·.1)=false:=by rfl):PE X (.Call (.Name x p) (e::es) [] pos) (QK sp [] E t):=by
 obtain ⟨f,fd,F,hm,hk,hb⟩:=G.ex
 exact ZC F hr hg hm hk hb .nil hp ha hdb he hpl
def ExcO (x C:Addr):HO:=.ext fun h=>∃ (ox:Obj) (vs:Array Value),h.get? x=some ox/\ox.cls=.ref C/\ox.dict=none/\ox.data=.fields vs/\vs[2]?=some .none
theorem ExcO.ok {H:Hp}{h:Heap}{x C:Addr}{ox:Obj}{vs:Array Value}(e:h.get? x=some ox)(c:ox.cls=.ref C)(d:ox.dict=none)(f:ox.data=.fields vs)(v:vs[2]?=some .none):ObjOk P w H h x (ExcO x C) :=
 ⟨⟨ox,vs,e,c,d,f,v⟩,⟨ox,e⟩,fun h1 h2 ⟨ox',vs',e',c',d',f',v'⟩ k=>⟨ox',vs',k _ e',c',d',f',v'⟩⟩
structure RoomM (k:Nat)(A:Around):Prop where
 dp:A.depth+3*k+5<recursionLimit
 un:A.units+16*k+200<cLine
theorem RoomM.units {k:Nat}{A:Around}(r:RoomM k A):A.units+64<cLine:=by have:=r.un;omega
structure XCls (K:Fg)(D:Addr):Prop where
 get:PySem.W.findIn K (.ref D) "__getattribute__" = some (some (.builtin "BaseException.__getattribute__"))
 hook:PySem.W.findIn K (.ref D) "__getattr__" = some none
 fnd:PySem.W.findObj K D none "__class__" = some (.bind (.builtin "getset_descriptor.__get__") (.builtin "object.__class__"))
 mro:PySem.W.mroIn K D (.type "object")=some true
 cls:(PySem.W.clsIn K D).isSome=true
 exc:PySem.W.subIn K (.ref D) (.type "BaseException")=some true
structure XBase (K:Fg)(B:Addr):Prop where
 cls:(PySem.W.clsIn K B).isSome=true
 typ:PySem.W.typeIn K (.ref B)=some (.type "type")
 exc:PySem.W.subIn K (.ref B) (.type "BaseException")=some true
abbrev bmV:List Value:=[.type "ValueError",.type "Exception",.type "BaseException",.type "object"]
theorem Q0p {x:Str}{C:Addr}{bmB:List Value}{newId:String}(X:K.In base)(G:base.Ns mainGlobals mg)(e:PySem.W.nsIn K mainGlobals x=some (some (.ref C)))(q:PySem.W.excIn K C bmB newId=true):OwnCls x C bmB newId mg base:=by
 refine ⟨B3 X G e,?_⟩
 unfold PySem.W.excIn at q
 split at q
 · rename_i dd cd sl ho
   split at q
   · rename_i C' bm k0 k1 k2 k3 n k5 hm hs
     simp only [Bool.and_eq_true,beq_iff_eq,Bool.not_eq_true'] at q;obtain ⟨⟨⟨⟨⟨rfl,rfl⟩,hdel⟩,ht⟩,hok⟩,hni⟩:=q
     obtain ⟨nm,bs,mro,ns,qn,hd,sn,sub,ab,col,del⟩:=cd
     dsimp only at hm hdel hok hni;subst hm hdel
     have hsl:sl=#[k0,k1,k2,k3,some (.builtin n),k5]:=by
      obtain ⟨l⟩:=sl
      simp only at hs;rw [hs]
     subst hsl
     refine ⟨bm,ns,nm,qn,bs,hd,sn,sub,ab,col,dd,k0,k1,k2,k3,k5,_,X _ _ ho,.of_isNs (PySem.W.isNs_of_in X hok),PySem.W.nsMap_none_of_in X hok hni,PySem.W.tail_of_in X ht⟩
   · cases q
 · cases q
theorem EG {X:Cx}:FF (CX1 P w base) X E0:=fun _ _ _ _ _ _ _ h=>by
 obtain ⟨_,_,_,_,_,_,_,_,_,q⟩:=h
 exact q.elim
theorem LL {P:Program}{w:World}{K:Fg} {N:List Str}{qual:Str}{scope:Scope}{f:Addr}{cd:Value}{A:Around}{outer:List Env}{s:Shared}{H:Hp}{E:XK}{x m:Str}{C:Addr}{j}{mp np cpos pos:Pos}(O:OwnCls x C bmV "ValueError.__new__" mg base)
 (hg:Gl (V1 (CX1 P w base) P w K mg base N qual scope f cd A outer s H E) x) (hd:(x==("__debug__" : Str))=false:=by decide) :
 PS (V1 (CX1 P w base) P w K mg base N qual scope f cd A outer s H E) (.Raise (some (.Call (.Name x np) [.Constant (.str m) j mp] [] cpos)) none pos) (fun _ _ H1=>E (.ref C) none H1) :=
 J3k (X:=V1 (CX1 P w base) P w K mg base N qual scope f cd A outer s H E) O PySem.F.excBase_ValueError (by decide) PySem.F.excBase_ValueError rfl hg E (fun pins σ H1 s1 h' e us I hm q=>J2q pins σ H1 s1 h' e us I hm q) (BS Q2q JJ) (fun σ H Q q=>⟨Nat.le_trans (Nat.le_of_ble_eq_true rfl) BQ,q⟩) rfl rfl hd
section
variable {prog:Program}{w:World}{A:Around}{E:Value->Shared->Prop}{s:Shared}
theorem VN {it l:Addr}{items:Array Value}(hne:l≠it):∀ (n i:Nat) (s:Shared) (Q:List Value->Shared->Prop),s.heap.IsListIter it l i->s.heap.IsList l items->i+n<=items.size ->
 (∀ h',h'.IsListIter it l (i+n)->Heap.SameBut it s.heap h'->Q ((items.toList.drop i).take n) { s with heap:=h' })->wpAny (model prog w) A (draw (.ref it) n) Q E s
 | 0,i,s,Q,hit,_,_,hQ=>by
   show wpAny _ _ (pure []) Q E s;exact B2 (by simpa using hQ s.heap hit (Heap.SameBut.refl ..))
 | n+1,i,s,Q,hit,ht,hle,hQ=>by
   have hlt:i<items.size:=by omega
   show wpAny _ _ (pyNext (.ref it) >>= _) Q E s;refine B1 (wpAny_pyNext_list_item hit ht (x:=items[i]) (by simp [hlt]) fun h₁ hit₁ hs₁=>?_)
   have ht1:h₁.IsList l items:=by
    obtain ⟨o,e,r⟩:=ht
    exact ⟨o,(hs₁.2 l hne).trans e,r⟩
   refine B1 (wpAny_holding (VN hne n (i+1) _ _ hit₁ ht1 (by omega) fun h₂ hit₂ hs₂=>B2 ?_))
   have hd:items.toList.drop i=items[i]::items.toList.drop (i+1):=by simp [List.drop_eq_getElem_cons,hlt]
   have:=hQ h₂ (by rw [show i+(n+1)=i+1+n by omega];exact hit₂) (hs₁.trans hs₂)
   rw [hd,List.take_succ_cons] at this
   exact this
theorem MS {l:Addr}{items:Array Value}{Q:List Value->Shared->Prop}(hh:A.handled=none)(ht:s.heap.IsList l items)
 (hQ:∀ h',Heap.ExtBut s.heap.objs.size s.heap h'->Q items.toList { s with heap:=h' }):wpAny (model prog w) A (unpackItems (.ref l) items.size none) Q E s:=by
 have hlt:l≠s.heap.objs.size:=by obtain ⟨o,ho,_⟩:=ht;exact Nat.ne_of_lt (B5 ho)
 have ty:s.TypeIs (.ref l) "list":=by obtain ⟨o,ho,hc,_⟩:=ht;exact ⟨o,ho,hc⟩
 unfold unpackItems;refine B1 ?_
 unfold notIterableAtAll;refine B1 (wpAny_specialOf ty slot_list_iter.lookup ?_)
 refine B2 ?_;simp only [Bool.false_eq_true,if_false]
 refine B1 (wpAny_holding (wpAny_pyIter_list ht ?_))
 have hp:∀ ob:Obj,(s.heap.push ob).IsList l items:=fun ob=>by
  obtain ⟨o,e,r⟩:=ht
  exact ⟨o,B4 _ e,r⟩
 refine B1 (wpAny_holding (VN hlt items.size 0 _ _ ⟨_,Heap.get?_push_size _ rfl,rfl,rfl⟩ (hp _) (by omega) fun h₁ hit₁ hs₁=>?_))
 have hall:List.take items.size (List.drop 0 items.toList)=items.toList:=by rw [List.drop_zero];exact List.take_of_length_le (by simp)
 rw [hall,if_neg (by simp)]
 have ht₁:h₁.IsList l items:=by
  obtain ⟨o,e,r⟩:=ht
  exact ⟨o,(hs₁.2 l hlt).trans (B4 _ e),r⟩
 refine B1 (wpAny_holding (wpAny_pyNext_list_end hh hit₁ ht₁ (by simp) fun h₂ he₂=>?_))
 simp only [Option.isSome_none,Bool.false_eq_true,if_false]
 refine B2 (hQ h₂ fun b o hb e=>he₂ b o hb (hs₁.extBut b o hb (B4 _ e)))
end
section
variable {X:Cx}
def Q7p (K:Fg)(n:Nat)(t:TGs):TG:=fun v σ H Q=>∃ a xs,v=.ref a/\SqL K H a xs/\xs.length=n/\t xs σ H Q
theorem AW {es:List Expr}{k:Nat}{t:TGs}{n:Nat}{pos:Pos}(K:Fg)(hK:X.K=K)(hc:X.calm=true)(h:PGs X es t)(hn:(assignEach es X.env).length=n:=by rfl)(hst:(assignEach es X.env).findIdx? (·.1)=none:=by rfl):PG X (.Tuple es k pos) (Q7p K n t):=by
 subst hK
 intro pins s σ H v u Q I r hw
 obtain ⟨a,xs,e1,hq,hl,hw⟩:=hw
 subst e1
 cases r
 obtain ⟨its,rv,p,hz⟩:=I.list hq
 have hl':its.toArray.size=n:=by simp [<- hl,rv.length]
 rw [assign_Tuple];refine B1 (wpAny_standAt ?_)
 unfold unpack;rw [hn,hst,<- hl']
 refine B1 (wpAny_holding (MS (I.ok.hd hc) p.isList fun h' hx=>?_))
 have I1:Inv X pins σ H { s with heap:=h' }:=I.kept (t':=s.toks) fun b o e=>hx b o (Nat.ne_of_lt (B5 e)) e
 exact h pins _ σ H xs _ Q I1 (by simpa using rv) hw
end
structure Frg where
 ads:List Addr
 R:(Addr->Prop)->Hp->V->Prop
 keep:∀ M H H' v,(∀ c o,(¬ M c\/c∈ads)->H c=some o->H' c=some o)->R M H v->R M H' v
 avoid:∀ M M' H v,(∀ c,M' c->M c\/H c=none)->R M H v->R M' H v
 ref:∀ M H v,R M H v->∃ a,v=.ref a
 nt:∀ M H v,R M H v->∀ c∈ads,∃ o,H c=some o/\∀ vs,o≠.tup vs
abbrev Tg:=List (List Int×Addr×Value)×Nat
inductive D where
 | non|bl (b:Bool)|int (i:Int)|str (x:Str)|ty (n:String)|adr (a:Addr)
 | tup (xs:List D)|lst (xs:List D)|own (xs:List D)|bag|scr (ns:List Int)|dct (t:Tg) (ks:List (List Int)) (xs:List D)|frg (f:Frg) (d:D)
structure BagT where
 ok:Addr->Hp->Prop
 st:∀ p H H',ok p H->(∀ o,H p=some o->H' p=some o)->ok p H'
 dm:∀ p H,ok p H->∃ o,H p=some o
def KTp (K:Fg)(a:Addr)(xs:List V):Prop:=∃ (o:Obj) (its:Array Value) (n:Nat),K.lookup a=some o/\o.cls=.type "tuple"/\o.data=.seq its n/\its.size<=sizeLine/\Vals xs its.toList
def TpA (K:Fg)(M:Addr->Prop)(H:Hp)(a:Addr)(vs:List V):Prop:=(¬ M a/\H a=some (.tup vs))\/KTp K a vs
theorem TpA.sq {H:Hp}{a:Addr}{vs:List V}(h:TpA K M H a vs):SqT K H a vs:=h.elim (fun z=>.inl (.inl z.2)) .inr
theorem TpA.keep {H H':Hp}{a:Addr}{vs:List V}(k:∀ b o,¬ M b->H b=some o->H' b=some o)(h:TpA K M H a vs):TpA K M H' a vs:=h.imp (fun z=>⟨z.1,k _ _ z.1 z.2⟩) id
theorem TpA.avoid {M M':Addr->Prop}{H:Hp}{a:Addr}{vs:List V}(k:∀ b,M' b->M b\/H b=none)(h:TpA K M H a vs):TpA K M' H a vs:=by
 refine h.imp (fun z=>⟨fun m=>?_,z.2⟩) id
 rcases k a m with n|n
 · exact z.1 n
 · rw [n] at z;cases z.2
def KL (K:Fg)(a:Addr)(xs:List V):Prop:=∃ (o:Obj) (its:Array Value) (n:Nat),K.lookup a=some o/\o.cls=.type "list"/\o.dict=none/\o.data=.seq its n/\its.size<=sizeLine/\Vals xs its.toList
def tkH (ns:List Int):Int:=reduceHash (Builtin.Tuple.tupleHashOf (ns.map hashInt))
def Q4x (x:List Int×Addr×Value):DictEntry:=⟨tkH x.1,.ref x.2.1,x.2.2⟩
def DOb (a:Addr)(es:List (List Int×Addr×Value))(ep:Nat):HO:=.ext fun h=>((a==sysModules)=false/\es.length<=sizeLine/\(es.map (·.1)).Nodup)/\∃ (o:Obj) (ds:Array DictEntry),h.get? a=some o/\o.ExactDict/\o.data=.dict ds ep/\ds.toList=es.map Q4x
def DctE (K:Fg)(M:Addr->Prop)(H:Hp)(es:List (List Int×Addr×Value))(ks:List (List Int))(vs:List V):Prop:=es.map (·.1)=ks/\(∀ e∈es,TpA K M H e.2.1 (e.1.map V.int))/\Vals vs (es.map (·.2.2))
theorem DctE.keep {H H':Hp}{es:List (List Int×Addr×Value)}{ks:List (List Int)}{vs:List V}(k:∀ b o,¬ M b->H b=some o->H' b=some o)(h:DctE K M H es ks vs):DctE K M H' es ks vs:=⟨h.1,fun e m=>(h.2.1 e m).keep k,h.2.2⟩
theorem DctE.avoid {M M':Addr->Prop}{H:Hp}{es:List (List Int×Addr×Value)}{ks:List (List Int)}{vs:List V}(k:∀ b,M' b->M b\/H b=none)(h:DctE K M H es ks vs):DctE K M' H es ks vs:=⟨h.1,fun e m=>(h.2.1 e m).avoid k,h.2.2⟩
mutual
def Rep (K:Fg)(M:Addr->Prop)(H:Hp):D->V->Prop
 | .non,v=>v=.non
 | .bl b,v=>v=.bl b
 | .int i,v=>v=.int i
 | .str x,v=>v=.str x
 | .ty n,v=>v=.ty n
 | .adr a,v=>v=.ref a
 | .tup xs,v=>∃ a vs,v=.ref a/\TpA K M H a vs/\Reps K M H xs vs
 | .lst xs,v=>∃ a vs,v=.ref a/\(¬ M a/\H a=some (.lst vs))/\Reps K M H xs vs
 | .own _,_=>False
 | .bag,_=>False
 | .frg _ _,_=>False
 | .scr ns,v=>∃ a,v=.ref a/\((¬ M a/\Rd H a (.lst (ns.map V.int)))\/KL K a (ns.map V.int))
 | .dct t ks xs,v=>∃ (a:Addr) (vs:List V),v=.ref a/\(¬ M a/\H a=some (DOb a t.1 t.2)/\DctE K M H t.1 ks vs)/\Reps K M H xs vs
def Reps (K:Fg)(M:Addr->Prop)(H:Hp):List D->List V->Prop
 | [],vs=>vs=[]
 | d::ds,vs=>∃ v r,vs=v::r/\Rep K M H d v/\Reps K M H ds r
end
theorem Rd.keep {H H':Hp}{a:Addr}{u:HO}(k:∀ o,H a=some o->H' a=some o)(h:Rd H a u):Rd H' a u:=by
 rcases h with h|⟨o,h⟩
 · exact .inl (k _ h)
 · exact .inr ⟨o,k _ h⟩
theorem Rd.some {H:Hp}{a:Addr}{u:HO}(h:Rd H a u):H a≠none:=by
 rcases h with h|⟨o,h⟩<;>rw [h]<;>simp
section
variable {K:Fg}{M M':Addr->Prop}{H H':Hp}
mutual
theorem Rep.keep (k:∀ b o,¬ M b->H b=some o->H' b=some o):∀ (d:D) (v:V),Rep K M H d v->Rep K M H' d v
 | .non,_,h=>h
 | .bl _,_,h=>h
 | .int _,_,h=>h
 | .str _,_,h=>h
 | .ty _,_,h=>h
 | .adr _,_,h=>h
 | .tup xs,v,h=>by
   obtain ⟨a,vs,e,z,r⟩:=h
   exact ⟨a,vs,e,z.keep k,Reps.keep k xs vs r⟩
 | .lst xs,v,h=>by
   obtain ⟨a,vs,e,z,r⟩:=h
   exact ⟨a,vs,e,⟨z.1,k _ _ z.1 z.2⟩,Reps.keep k xs vs r⟩
 | .own _,_,h=>h
 | .bag,_,h=>h
 | .frg _ _,_,h=>h
 | .scr ns,v,h=>by
   obtain ⟨a,e,z⟩:=h
   exact ⟨a,e,z.imp (fun q=>⟨q.1,q.2.keep fun o=>k a o q.1⟩) id⟩
 | .dct t ks xs,v,h=>by
   obtain ⟨a,vs,e,z,r⟩:=h
   exact ⟨a,vs,e,⟨z.1,k _ _ z.1 z.2.1,z.2.2.keep k⟩,Reps.keep k xs _ r⟩
theorem Reps.keep (k:∀ b o,¬ M b->H b=some o->H' b=some o):∀ (ds:List D) (vs:List V),Reps K M H ds vs->Reps K M H' ds vs
 | [],_,h=>h
 | d::ds,vs,h=>by
   obtain ⟨v,r,e,h1,h2⟩:=h
   exact ⟨v,r,e,Rep.keep k d v h1,Reps.keep k ds r h2⟩
end
mutual
theorem Rep.avoid (k:∀ b,M' b->M b\/H b=none):∀ (d:D) (v:V),Rep K M H d v->Rep K M' H d v
 | .non,_,h=>h
 | .bl _,_,h=>h
 | .int _,_,h=>h
 | .str _,_,h=>h
 | .ty _,_,h=>h
 | .adr _,_,h=>h
 | .tup xs,v,h=>by
   obtain ⟨a,vs,e,z,r⟩:=h
   exact ⟨a,vs,e,z.avoid k,Reps.avoid k xs vs r⟩
 | .lst xs,v,h=>by
   obtain ⟨a,vs,e,z,r⟩:=h
   refine ⟨a,vs,e,⟨fun m=>?_,z.2⟩,Reps.avoid k xs vs r⟩
   rcases k a m with n|n
   · exact z.1 n
   · rw [n] at z;cases z.2
 | .own _,_,h=>h
 | .bag,_,h=>h
 | .frg _ _,_,h=>h
 | .scr ns,v,h=>by
   obtain ⟨a,e,z⟩:=h
   refine ⟨a,e,z.imp (fun q=>⟨fun m=>?_,q.2⟩) id⟩
   rcases k a m with n|n
   · exact q.1 n
   · exact q.2.some n
 | .dct t ks xs,v,h=>by
   obtain ⟨a,vs,e,z,r⟩:=h
   refine ⟨a,vs,e,⟨fun m=>?_,z.2.1,z.2.2.avoid k⟩,Reps.avoid k xs _ r⟩
   rcases k a m with n|n
   · exact z.1 n
   · rw [n] at z;cases z.2.1
theorem Reps.avoid (k:∀ b,M' b->M b\/H b=none):∀ (ds:List D) (vs:List V),Reps K M H ds vs->Reps K M' H ds vs
 | [],_,h=>h
 | d::ds,vs,h=>by
   obtain ⟨v,r,e,h1,h2⟩:=h
   exact ⟨v,r,e,Rep.avoid k d v h1,Reps.avoid k ds r h2⟩
end
end
abbrev Ev:=List (Option D)
structure Wd where
 K:Fg
 B:BagT
 H0:Hp
 M0:Addr->Prop
 b0:Option Addr
def okB (B:BagT)(b:Option Addr)(H:Hp):Prop:=∀ p,b=some p->B.ok p H
def Kp (b:Option Addr)(H H':Hp):Prop:=∀ c o,b≠some c->H c=some o->H' c=some o
theorem Kp.refl (b:Option Addr)(H:Hp):Kp b H H:=fun _ _ _ h=>h
theorem Kp.trans {H H1 H2:Hp}(x:Kp b H H1)(y:Kp b H1 H2):Kp b H H2:=fun c o n h=>y c o n (x c o n h)
theorem Kp.upd {H:Hp}{p:Addr}{o:HO}(h:H p=none):Kp b H (upd H p o):=fun c u _ e=>Same.upd h c u e
theorem Kp.same {H H':Hp}(h:Same H H'):Kp b H H':=fun c o _ e=>h c o e
def RepX (W:Wd)(M:Addr->Prop)(b:Option Addr)(H:Hp):D->V->Prop
 | .own xs,v=>∃ a vs,v=.ref a/\M a/\b≠some a/\W.H0 a=none/\¬ W.M0 a/\H a=some (.lst vs)/\Reps W.K M H xs vs
 | .bag,v=>∃ p,b=some p/\v=.ref p
 | .frg f d,v=>(∀ c∈f.ads,M c/\b≠some c/\W.H0 c=none/\¬ W.M0 c)/\f.R M H v/\Rep W.K (fun c=>M c/\c∉f.ads) H d v
 | d,v=>Rep W.K M H d v
def plain:D->Bool
 | .own _=>false
 | .bag=>false
 | .frg _ _=>false
 | _=>true
def AJ:D->Bool
 | .own _=>false
 | .frg _ _=>false
 | _=>true
theorem RepX.rep {W:Wd} {H:Hp}{d:D}{v:V}(h:RepX W M b H d v)(p:plain d=true):Rep W.K M H d v:=by
 cases d<;>first|exact h|cases p
theorem Rep.x {W:Wd} {H:Hp}{d:D}{v:V}(h:Rep W.K M H d v):RepX W M b H d v:=by
 cases d<;>first|exact h|exact h.elim
def RepXs (W:Wd)(M:Addr->Prop)(b:Option Addr)(H:Hp):List D->List V->Prop
 | [],vs=>vs=[]
 | d::ds,vs=>∃ v r,vs=v::r/\RepX W M b H d v/\RepXs W M b H ds r
structure Hs (W:Wd)(M:Addr->Prop)(b:Option Addr)(H:Hp):Prop where
 ok:okB W.B b H
 bagM:∀ p,b=some p->M p
 dom:∀ c,M c->∃ o,H c=some o
 m0:∀ c,W.M0 c->M c
theorem RepX.move {W:Wd}{M M':Addr->Prop}{b b':Option Addr}{H H':Hp}{f:Frg}{d:D}{v:V}(h:RepX W M b H (.frg f d) v)(ow:∀ c∈f.ads,M c->b≠some c->M' c/\b'≠some c)(k:∀ c o,(¬ M' c\/c∈f.ads)->H c=some o->H' c=some o)(a:∀ c,M' c->M c\/H c=none):RepX W M' b' H' (.frg f d) v:=by
 refine ⟨fun c m=>?_,f.keep M' H H' v k (f.avoid M M' H v a h.2.1),Rep.keep (fun c o n e=>k c o ?_ e) _ _ (Rep.avoid (fun c m=>(a c m.1).imp (fun z=>⟨z,m.2⟩) id) _ _ h.2.2)⟩
 · obtain ⟨q1,q2,q3,q4⟩:=h.1 c m
   obtain ⟨z1,z2⟩:=ow c m q1 q2
   exact ⟨z1,z2,q3,q4⟩
 · by_cases z:c∈f.ads
   · exact .inr z
   · exact .inl fun m=>n ⟨m,z⟩
theorem RepX.step {W:Wd} {H H':Hp}{d:D}{v:V}(hb:∀ p,b=some p->M p)(k:Kp b H H')(h:RepX W M b H d v):RepX W M b H' d v:=by
 have k':∀ c o,¬ M c->H c=some o->H' c=some o:=fun c o n e=>k c o (fun z=>n (hb c z)) e
 cases d
 case own xs =>
  obtain ⟨a,vs,e,m,n,n0,m0,h1,h2⟩:=h
  exact ⟨a,vs,e,m,n,n0,m0,k _ _ n h1,Reps.keep k' _ _ h2⟩
 case bag=>exact h
 case frg f d=>exact RepX.move h (fun c m m1 n=>⟨m1,n⟩) (fun c o q e=>q.elim (fun n=>k' c o n e) fun m=>k c o (h.1 c m).2.1 e) fun c m=>.inl m
 all_goals exact Rep.keep k' _ _ h
theorem RepXs.reps {W:Wd} {H:Hp}:∀ (ds:List D) (vs:List V),RepXs W M b H ds vs->ds.all plain=true->Reps W.K M H ds vs
 | [],_,h,_=>h
 | d::ds,vs,h,p=>by
   obtain ⟨v,r,e,h1,h2⟩:=h
   simp only [List.all_cons,Bool.and_eq_true] at p
   exact ⟨v,r,e,h1.rep p.1,RepXs.reps ds r h2 p.2⟩
theorem Reps.length {H:Hp}:∀ (ds:List D) (vs:List V),Reps K M H ds vs->vs.length=ds.length
 | [],_,h=>by cases (show _=_ from h);rfl
 | d::ds,vs,h=>by
   obtain ⟨v,r,rfl,h1,h2⟩:=h
   simp [Reps.length ds r h2]
theorem Reps.get {H:Hp}:∀ {ds:List D} {vs:List V} {i:Nat} {d:D},Reps K M H ds vs->ds[i]?=some d->∃ v,vs[i]?=some v/\Rep K M H d v
 | [],_,_,_,h,e=>by simp at e
 | d::ds,vs,0,_,h,e=>by
   obtain ⟨v,r,rfl,h1,h2⟩:=h
   simp at e;subst e
   exact ⟨v,rfl,h1⟩
 | d::ds,vs,i+1,d',h,e=>by
   obtain ⟨v,r,rfl,h1,h2⟩:=h
   obtain ⟨u,e1,e2⟩:=Reps.get (i:=i) h2 (by simpa using e)
   exact ⟨u,by simpa using e1,e2⟩
theorem Reps.at {H:Hp}{ds:List D}{vs:List V}{i:Int}{d:D}(h:Reps K M H ds vs)(e:atI ds i=some d):∃ v,atI vs i=some v/\Rep K M H d v:=by
 unfold atI at *
 rw [h.length]
 cases q:ixN ds.length i with
 | none=>rw [q] at e;cases e
 | some j =>
   rw [q] at e
   exact Reps.get h e
theorem Reps.append {H:Hp}:∀ {ds es:List D} {vs us:List V},Reps K M H ds vs->Reps K M H es us->Reps K M H (ds++es) (vs++us)
 | [],_,_,_,h,h'=>by cases (show _=_ from h);exact h'
 | d::ds,_,_,_,h,h'=>by
   obtain ⟨v,r,rfl,h1,h2⟩:=h
   exact ⟨v,_,rfl,h1,Reps.append h2 h'⟩
theorem Reps.set {H:Hp}{d:D}{v:V}(h0:Rep K M H d v):∀ {ds:List D} {vs:List V} (j:Nat),Reps K M H ds vs->Reps K M H (ds.set j d) (vs.set j v)
 | [],_,_,h=>by cases (show _=_ from h);exact rfl
 | e::ds,_,0,h=>by
   obtain ⟨v',r,rfl,h1,h2⟩:=h
   exact ⟨v,r,rfl,h0,h2⟩
 | e::ds,_,j+1,h=>by
   obtain ⟨v',r,rfl,h1,h2⟩:=h
   exact ⟨v',_,rfl,h1,Reps.set h0 j h2⟩
theorem Reps.drop {H:Hp}:∀ {ds:List D} {vs:List V} (j:Nat),Reps K M H ds vs->Reps K M H (ds.drop j) (vs.drop j)
 | _,_,0,h=>h
 | [],_,_+1,h=>by cases (show _=_ from h);exact rfl
 | e::ds,_,j+1,h=>by
   obtain ⟨v',r,rfl,h1,h2⟩:=h
   exact Reps.drop j h2
theorem Reps.take {H:Hp}:∀ {ds:List D} {vs:List V} (j:Nat),Reps K M H ds vs->Reps K M H (ds.take j) (vs.take j)
 | _,_,0,h=>rfl
 | [],_,_+1,h=>by cases (show _=_ from h);exact rfl
 | e::ds,_,j+1,h=>by
   obtain ⟨v',r,rfl,h1,h2⟩:=h
   exact ⟨v',_,rfl,h1,Reps.take j h2⟩
def PinR (W:Wd)(M:Addr->Prop)(b:Option Addr)(H:Hp):D->V->Prop
 | .own xs,v=>RepX W M b H (.own xs) v
 | d,v=>Rep W.K M H d v
theorem PinR.x {W:Wd} {H:Hp}{d:D}{v:V}(h:PinR W M b H d v):RepX W M b H d v:=by
 cases d<;>first|exact h|exact h.elim
theorem RepX.pin {W:Wd} {H:Hp}{d:D}{v:V}(h:RepX W M b H d v)(p:plain d=true):PinR W M b H d v:=by
 cases d<;>first|exact h|cases p
theorem PinR.to {W:Wd}{M M':Addr->Prop}{b b':Option Addr}{H H':Hp}{d:D}{v:V}(h:PinR W M b H d v)(rep:∀ d v,Rep W.K M H d v->Rep W.K M' H' d v)(reps:∀ ds vs,Reps W.K M H ds vs->Reps W.K M' H' ds vs)(own:∀ xs a vs,d=.own xs->v=.ref a->M a->b≠some a->H a=some (.lst vs)->M' a/\b'≠some a/\H' a=some (.lst vs)):PinR W M' b' H' d v:=by
 cases d
 case own xs =>
  obtain ⟨a,vs,rfl,m1,m2,m3,m4,hh,r⟩:=h
  obtain ⟨q1,q2,q3⟩:=own xs a vs rfl rfl m1 m2 hh
  exact ⟨a,vs,rfl,q1,q2,m3,m4,q3,reps _ _ r⟩
 case bag=>exact h.elim
 all_goals exact rep _ _ h
def GF:D->V->Addr->Prop
 | .own _,v,c=>v=.ref c
 | .frg f _,_,c=>c∈f.ads
 | _,_,_=>False
def mine:D->Bool
 | .own _=>true
 | .frg _ _=>true
 | _=>false
theorem GF.m {d:D}{v:V}{c:Addr}(h:GF d v c):mine d=true:=by cases d<;>first|rfl|exact h.elim
theorem RepX.mine {W:Wd} {H:Hp}{d:D}{v:V}{c:Addr}(h:RepX W M b H d v)(m:GF d v c):M c/\b≠some c/\W.H0 c=none/\¬ W.M0 c:=by
 cases d
 case own xs =>
  obtain ⟨a,vs,e,m1,n,n0,m0,h1,h2⟩:=h
  cases (e.symm.trans (show v=.ref c from m))
  exact ⟨m1,n,n0,m0⟩
 case frg f d=>exact h.1 c m
 all_goals exact m.elim
structure Sta (W:Wd)(pn:List (D×V))(M:Addr->Prop)(b:Option Addr)(H:Hp)(σ:St)(ρ:Ev):Prop extends Hs W M b H where
 kp:Kp W.b0 W.H0 H
 new:b=W.b0\/(W.b0=none/\∀ p,b=some p->W.H0 p=none)
 env:∀ (i:Nat) d,ρ[i]?=some (some d)->∃ v,σ[i]?=some (some v)/\RepX W M b H d v
 len:ρ.length=σ.length
 pin:∀ q∈pn,PinR W M b H q.1 q.2
theorem Sta.step {W:Wd}{pn:List (D×V)} {H H':Hp}{σ:St}{ρ:Ev}(s:Sta W pn M b H σ ρ)(k:Kp b H H')(o:okB W.B b H'):Sta W pn M b H' σ ρ where
 ok:=o
 bagM:=s.bagM
 dom:=fun c m=>by
  by_cases z:b=some c
  · exact W.B.dm c H' (o c z)
  · obtain ⟨u,e⟩:=s.dom c m
    exact ⟨u,k c u z e⟩
 m0:=s.m0
 kp:=fun c u n e=>by
  refine k c u (fun z=>?_) (s.kp c u n e)
  rcases s.new with q|⟨_,q⟩
  · exact n (q▸z)
  · rw [q c z] at e;cases e
 new:=s.new
 env:=fun i d e=>by
  obtain ⟨v,e1,r⟩:=s.env i d e
  exact ⟨v,e1,r.step s.bagM k⟩
 len:=s.len
 pin:=fun q hq=>(s.pin q hq).to (fun _ _ r=>Rep.keep (fun c o n e=>k c o (fun z=>n (s.bagM c z)) e) _ _ r) (fun _ _ r=>Reps.keep (fun c o n e=>k c o (fun z=>n (s.bagM c z)) e) _ _ r) fun xs a vs _ _ m n hh=>⟨m,n,k _ _ n hh⟩
theorem Hs.new {W:Wd} {H:Hp}(s:Hs W M b H){p:Addr}(h:H p=none):¬ M p:=fun m=>by
 obtain ⟨o,e⟩:=s.dom p m
 rw [h] at e;cases e
theorem Hs.okU {W:Wd} {H:Hp}(s:Hs W M b H){p:Addr}{o:HO}(h:H p=none):okB W.B b (upd H p o):=fun q e=>W.B.st q H _ (s.ok q e) fun u e'=>Same.upd h q u e'
abbrev DE:=Ev->(D->Prop)->Prop
abbrev DT:=Ev->(Bool->Prop)->Prop
abbrev DA:=Ev->(List D->Prop)->Prop
def dn (W:Wd)(d:DE):TE:=fun σ H Q=>∃ pn M b ρ P,Sta W pn M b H σ ρ/\d ρ P/\∀ x v H',P x->RepX W M b H' x v->Kp b H H'->okB W.B b H'->Q v H'
def dnT (W:Wd)(d:DT):TT:=fun σ H Q=>∃ pn M b ρ P,Sta W pn M b H σ ρ/\d ρ P/\∀ x H',P x->Kp b H H'->okB W.B b H'->Q x H'
def dnA (W:Wd)(d:DA):TA:=fun σ H Q=>∃ pn M b ρ P,Sta W pn M b H σ ρ/\d ρ P/\∀ xs vs H',P xs->RepXs W M b H' xs vs->Kp b H H'->okB W.B b H'->Q vs H'
theorem dn.elim {W:Wd}{d:DE}{σ:St}{H:Hp}{Q:VK}{R:Prop}(h:dn W d σ H Q)(f:∀ pn M b ρ P,Sta W pn M b H σ ρ->d ρ P->(∀ x v H',P x->RepX W M b H' x v->Kp b H H'->okB W.B b H'->Q v H')->R):R:=by
 obtain ⟨pn,M,b,ρ,P,st,h,k⟩:=h
 exact f pn M b ρ P st h k
theorem dnT.elim {W:Wd}{d:DT}{σ:St}{H:Hp}{Q:Bool->Hp->Prop}{R:Prop}(h:dnT W d σ H Q)(f:∀ pn M b ρ P,Sta W pn M b H σ ρ->d ρ P->(∀ x H',P x->Kp b H H'->okB W.B b H'->Q x H')->R):R:=by
 obtain ⟨pn,M,b,ρ,P,st,h,k⟩:=h
 exact f pn M b ρ P st h k
theorem dnA.elim {W:Wd}{d:DA}{σ:St}{H:Hp}{Q:List V->Hp->Prop}{R:Prop}(h:dnA W d σ H Q)(f:∀ pn M b ρ P,Sta W pn M b H σ ρ->d ρ P->(∀ xs vs H',P xs->RepXs W M b H' xs vs->Kp b H H'->okB W.B b H'->Q vs H')->R):R:=by
 obtain ⟨pn,M,b,ρ,P,st,h,k⟩:=h
 exact f pn M b ρ P st h k
section
variable {X:Cx}{W:Wd}{e a b c:Expr}{es:List Expr}{pos:Pos}{d da db dc:DE}{dA:DA}{t:TE}
theorem PE.mono {t':TE}(h:PE X e t)(m:∀ σ H Q,t' σ H Q->t σ H Q):PE X e t':=fun pins s σ H Q I q=>h pins s σ H Q I (m σ H Q q)
theorem PT.mono {t t':TT}(h:PT X e t)(m:∀ σ H Q,t' σ H Q->t σ H Q):PT X e t':=fun pins s σ H Q I q=>h pins s σ H Q I (m σ H Q q)
theorem PA.mono {t t':TA}(h:PA X es t)(m:∀ σ H Q,t' σ H Q->t σ H Q):PA X es t':=fun pos pins s σ H Q I q=>h pos pins s σ H Q I (m σ H Q q)
def QD (i:Nat):DE:=fun ρ P=>match ρ[i]? with|some (some d)=>P d|_=>False
theorem dv (i:Nat) {x:Str} {pos:Pos} (hN:X.N[i]?=some x:=by rfl) (hv:Vis X.env.scope x:=by first|exact Or.inl rfl|exact Or.inr (Or.inl rfl)|exact Or.inr (Or.inr rfl)) (hd:(x==("__debug__" : Str))=false:=by decide)
 (hcd:(x==("__classdict__" : Str))=false:=by decide):PE X (.Name x pos) (dn W (QD i)):=(J3m hN hv hd hcd).mono fun σ H Q hh=>hh.elim fun pn M b ρ P st h k=>by
 unfold QD at h
 split at h
 case h_1 d e =>
  obtain ⟨v,e1,r⟩:=st.env i d e
  exact ⟨v,e1,k d v H h r (Kp.refl _ _) st.ok⟩
 case h_2=>exact h.elim
def dC (d:D):DE:=fun _ P=>P d
theorem J5o {d:D}{v:V}(h:PE X e (tC v))(hr:∀ M H,Rep W.K M H d v):PE X e (dn W (dC d)):=h.mono fun σ H Q hh=>hh.elim fun pn M b ρ P st h k=>k d v H h (Rep.x (hr M H)) (Kp.refl _ _) st.ok
theorem Q4l {i j pos}:PE X (.Constant (.int i) j pos) (dn W (dC (.int i))):=J5o AM fun _ _=>rfl
theorem Q7x {i j pos}:PE X (.Constant (.bool i) j pos) (dn W (dC (.bl i))):=J5o Q6q fun _ _=>rfl
theorem Q4i {j pos}:PE X (.Constant .none j pos) (dn W (dC .non)):=J5o Q2t fun _ _=>rfl
theorem J5l {x:Str}{n:Int}{pos:Pos}(hg:Gl X x)(hm:∃ t,X.mg x=some (.int n t))(hd:(x==("__debug__" : Str))=false:=by decide):PE X (.Name x pos) (dn W (dC (.int n))):=J5o (J3p hg hm hd) fun _ _=>rfl
theorem J9q {x:Str}{T:String}{pos:Pos}(hg:Gl X x)(hm:X.mg x=none)(hv:bootBuiltins x=some (.type T))(hn:x≠"__name__":=by decide) (hd:(x==("__debug__" : Str))=false:=by decide):PE X (.Name x pos) (dn W (dC (.ty T))):=J5o (J8b (v:=.ty T) hg hm hv rfl hn hd) fun _ _=>rfl
def OpD (W:Wd)(r:R2)(o:D->D->(D->Prop)->Prop):Prop:=∀ M b H x y v u P Q,Hs W M b H->RepX W M b H x v->RepX W M b H y u->o x y P->(∀ z w H',P z->RepX W M b H' z w->Kp b H H'->okB W.B b H'->Q w H')->r v u H Q
def dOp (o:D->D->(D->Prop)->Prop)(da db:DE):DE:=fun ρ P=>da ρ fun x=>db ρ fun y=>o x y P
theorem YS {r:R2}{o:D->D->(D->Prop)->Prop}(hd:OpD W r o):∀ σ H Q,dn W (dOp o da db) σ H Q->tOp r (dn W da) (dn W db) σ H Q:=by
 intro σ H Q hh
 refine hh.elim fun pn M b ρ P st h k=>?_
 refine ⟨pn,M,b,ρ,_,st,h,fun x v H1 hx rx k1 o1=>?_⟩
 refine ⟨pn,M,b,ρ,_,st.step k1 o1,hx,fun y u H2 hy ry k2 o2=>?_⟩
 exact hd M b H2 x y v u P Q ((st.step k1 o1).step k2 o2).toHs (rx.step st.bagM k2) ry hy fun z w H' hz rz k3 o3=>k z w H' hz rz ((k1.trans k2).trans k3) o3
theorem Q7v {op:Operator}{r:R2}{o:D->D->(D->Prop)->Prop}(ho:OpR X (binaryOp op) r)(hd:OpD W r o)(ha:PE X a (dn W da))(hb:PE X b (dn W db)):PE X (.BinOp a op b pos) (dn W (dOp o da db)):=(DZ ho ha hb).mono (YS hd)
theorem Q4m {op:CmpOp}{r:R2}{o:D->D->(D->Prop)->Prop}(ho:OpR X (compareOp op) r)(hd:OpD W r o)(ha:PE X a (dn W da))(hb:PE X b (dn W db))(hm:behindInMarks op b=false):PE X (.Compare a [op] [b] pos) (dn W (dOp o da db)):=(J8a ho ha hb hm).mono (YS hd)
theorem Q7w {r:R2}{o:D->D->(D->Prop)->Prop}(hr:IxR X r)(hd:OpD W r o)(ha:PE X a (dn W da))(hb:PE X b (dn W db))(hs:TQ b):PE X (.Subscript a b pos) (dn W (dOp o da db)):=(FI hr ha hb hs).mono (YS hd)
def oI (C:Int->Int->Prop)(g:Int->Int->Int):D->D->(D->Prop)->Prop
 | .int i,.int j,P=>C i j/\P (.int (g i j))
 | _,_,_=>False
def oI0 (g:Int->Int->Int):D->D->(D->Prop)->Prop
 | .int i,.int j,P=>P (.int (g i j))
 | _,_,_=>False
def oB0 (g:Int->Int->Bool):D->D->(D->Prop)->Prop
 | .int i,.int j,P=>P (.bl (g i j))
 | _,_,_=>False
theorem CH {C:Int->Int->Prop}{g:Int->Int->Int}:OpD W (rI C fun i j=>.int (g i j)) (oI C g):=by
 intro M b H x y v u P Q hs rx ry ho k
 cases x<;>first|exact ho.elim|skip
 cases y<;>first|exact ho.elim|skip
 cases (show _=_ from rx)
 cases (show _=_ from ry)
 exact ⟨_,_,rfl,rfl,ho.1,k _ _ H ho.2 (show _=_ from rfl) (Kp.refl _ _) hs.ok⟩
theorem Y8 {g:Int->Int->Int}:OpD W (rI0 fun i j=>.int (g i j)) (oI0 g):=by
 intro M b H x y v u P Q hs rx ry ho k
 cases x<;>first|exact ho.elim|skip
 cases y<;>first|exact ho.elim|skip
 cases (show _=_ from rx)
 cases (show _=_ from ry)
 exact ⟨_,_,rfl,rfl,k _ _ H ho (show _=_ from rfl) (Kp.refl _ _) hs.ok⟩
theorem CT {g:Int->Int->Bool}:OpD W (rI0 fun i j=>.bl (g i j)) (oB0 g):=by
 intro M b H x y v u P Q hs rx ry ho k
 cases x<;>first|exact ho.elim|skip
 cases y<;>first|exact ho.elim|skip
 cases (show _=_ from rx)
 cases (show _=_ from ry)
 exact ⟨_,_,rfl,rfl,k _ _ H ho (show _=_ from rfl) (Kp.refl _ _) hs.ok⟩
def Q7b (neg:Bool):D->D->(D->Prop)->Prop
 | .int i,.int j,P=>P (.bl (decide (i=j)!=neg))
 | .bl i,.bl j,P=>P (.bl (decide (i=j)!=neg))
 | .str i,.str j,P=>P (.bl (decide (i=j)!=neg))
 | .non,.non,P=>P (.bl (true != neg))
 | .non,.int _,P=>P (.bl (false != neg))
 | .int _,.non,P=>P (.bl (false != neg))
 | .str _,.int _,P=>P (.bl (false != neg))
 | .int _,.str _,P=>P (.bl (false != neg))
 | _,_,_=>False
theorem DC:OpD W rEq (Q7b false):=by
 intro M b H x y v u P Q hs rx ry ho k
 cases x<;>cases y<;>first|exact ho.elim|skip
 all_goals (cases (show _=_ from rx);cases (show _=_ from ry);refine ⟨rfl,?_⟩;refine k _ _ H ho ?_ (Kp.refl _ _) hs.ok)
 all_goals (show V.bl _=V.bl _;simp)
theorem J3w:OpD W rNe (Q7b true):=by
 intro M b H x y v u P Q hs rx ry ho k
 cases x<;>cases y<;>first|exact ho.elim|skip
 all_goals (cases (show _=_ from rx);cases (show _=_ from ry);refine ⟨rfl,?_⟩;refine k _ _ H ho ?_ (Kp.refl _ _) hs.ok)
 all_goals (show V.bl _=V.bl _;simp)
def Q0s:D->Bool
 | .non=>true
 | _=>false
def Q9d (neg:Bool):D->D->(D->Prop)->Prop
 | x,.non,P=>P (.bl (Q0s x != neg))
 | _,_,_=>False
theorem J8w {b:Option Addr}{H:Hp}{x:D}{v:V}(rx:RepX W M b H x v):decide (v=.non)=Q0s x:=by
 cases x
 case non=>cases (show _=_ from rx);rfl
 case own=>obtain ⟨a,vs,rfl,_⟩:=rx;rfl
 case frg f d=>obtain ⟨a,rfl⟩:=f.ref _ _ _ rx.2.1;rfl
 case bag=>obtain ⟨a,_,rfl⟩:=rx;rfl
 case tup=>obtain ⟨a,vs,rfl,_⟩:=rx;rfl
 case lst=>obtain ⟨a,vs,rfl,_⟩:=rx;rfl
 case scr=>obtain ⟨a,rfl,_⟩:=rx;rfl
 case dct=>obtain ⟨a,vs,rfl,_⟩:=rx;rfl
 all_goals (cases (show _=_ from rx);rfl)
theorem Q2y:OpD W (fun x y H Q=>y=.non/\Q (.bl (decide (x=.non))) H) (Q9d false):=by
 intro M b H x y v u P Q hs rx ry ho k
 cases y<;>first|exact ho.elim|skip
 cases (show _=_ from ry)
 refine ⟨rfl,k _ _ H ho ?_ (Kp.refl _ _) hs.ok⟩
 show V.bl _=V.bl _
 rw [J8w rx];simp
def oIx:D->D->(D->Prop)->Prop
 | .tup xs,.int i,P=>(atI xs i).elim False P
 | .lst xs,.int i,P=>(atI xs i).elim False P
 | .own xs,.int i,P=>(atI xs i).elim False P
 | _,_,_=>False
theorem Q9 (K:Fg)(h:X.K=K):IxR X (fun x y H Q=>J7o K x y H Q\/J1a K x y H Q):=(ZM K h).or (EB K h)
theorem V9:OpD W (fun x y H Q=>J7o W.K x y H Q\/J1a W.K x y H Q) oIx:=by
 intro M b H x y v u P Q hs rx ry ho k
 cases x<;>first|exact ho.elim|skip
 all_goals (cases y<;>first|exact ho.elim|skip)
 all_goals cases (show _=_ from ry)
 case tup.int xs i =>
  obtain ⟨a,vs,rfl,hh,r⟩:=rx
  simp only [oIx] at ho
  cases e:atI xs i with
  | none=>rw [e] at ho;exact ho.elim
  | some d =>
    rw [e] at ho
    obtain ⟨w,e1,r1⟩:=r.at e
    exact .inl ⟨a,vs,i,w,rfl,rfl,hh.sq,e1,k d w H ho r1.x (Kp.refl _ _) hs.ok⟩
 case lst.int xs i =>
  obtain ⟨a,vs,rfl,hh,r⟩:=rx
  simp only [oIx] at ho
  cases e:atI xs i with
  | none=>rw [e] at ho;exact ho.elim
  | some d =>
    rw [e] at ho
    obtain ⟨w,e1,r1⟩:=r.at e
    exact .inr ⟨a,vs,i,w,rfl,rfl,SqL.of hh.2,e1,k d w H ho r1.x (Kp.refl _ _) hs.ok⟩
 case own.int xs i =>
  obtain ⟨a,vs,rfl,_,_,_,_,hh,r⟩:=rx
  simp only [oIx] at ho
  cases e:atI xs i with
  | none=>rw [e] at ho;exact ho.elim
  | some d =>
    rw [e] at ho
    obtain ⟨w,e1,r1⟩:=r.at e
    exact .inr ⟨a,vs,i,w,rfl,rfl,SqL.of hh,e1,k d w H ho r1.x (Kp.refl _ _) hs.ok⟩
def dUn (o:D->(D->Prop)->Prop)(da:DE):DE:=fun ρ P=>da ρ fun x=>o x P
def Q6v:D->(D->Prop)->Prop
 | .int i,P=>P (.int (-i))
 | _,_=>False
theorem Q4j (ha:PE X a (dn W da)):PE X (.UnaryOp .USub a pos) (dn W (dUn Q6v da)):=(Q6o Q1v ha).mono fun σ H Q hh=>hh.elim fun pn M b ρ P st h k=>by
 refine ⟨pn,M,b,ρ,_,st,h,fun x v H1 hx rx k1 o1=>?_⟩
 cases x<;>first|exact hx.elim|skip
 cases (show _=_ from rx)
 exact ⟨_,rfl,k _ _ H1 hx (show _=_ from rfl) k1 o1⟩
inductive IfP (c:Bool)(A B:Prop):Prop
 | t (e:c=true) (h:A):IfP c A B
 | f (e:c=false) (h:B):IfP c A B
theorem IfP.of {c:Bool}{A B:Prop}(h1:c=true->A)(h2:c=false->B):IfP c A B:=by
 cases c
 · exact .f rfl (h2 rfl)
 · exact .t rfl (h1 rfl)
theorem IfP.true_of {A B:Prop}(h:IfP true A B):A:=by
 cases h with
 | t _ h=>exact h
 | f e _=>cases e
theorem PN {A B:Prop}:IfP true A B=A:=propext ⟨IfP.true_of,fun h=>.t rfl h⟩
def Q8l (da db:DE):DE:=fun ρ P=>da ρ fun x=>match x with|.bl k=>IfP k (db ρ P) (P (.bl false))|_=>False
def dOr (da db:DE):DE:=fun ρ P=>da ρ fun x=>match x with|.bl k=>IfP k (P (.bl true)) (db ρ P)|_=>False
def Q8e (da:DE):DE:=fun ρ P=>da ρ fun x=>match x with|.bl k=>P (.bl (!k))|_=>False
variable {rest:List Expr}
theorem Q4g {op}(h:PE X a (dn W da)):PE X (.BoolOp op [a] pos) (dn W da):=Q2r h
theorem Q4n (ha:PE X a (dn W da))(hb:PE X (.BoolOp .And (b::rest) pos) (dn W db)):PE X (.BoolOp .And (a::b::rest) pos) (dn W (Q8l da db)):=(Q2u ha hb).mono fun σ H Q hh=>hh.elim fun pn M b ρ P st h k=>by
 refine ⟨pn,M,b,ρ,_,st,h,fun x v H1 hx rx k1 o1=>?_⟩
 cases x<;>first|exact hx.elim|skip
 case bl c =>
  cases (show _=_ from rx)
  refine ⟨c,rfl,?_⟩
  cases hx with
  | f e hx=>subst e;rw [if_neg Bool.false_ne_true];exact k _ _ H1 hx (show _=_ from rfl) k1 o1
  | t e hx=>subst e;rw [if_pos rfl];exact ⟨pn,M,b,ρ,P,st.step k1 o1,hx,fun x v H' hp r k2 o2=>k x v H' hp r (k1.trans k2) o2⟩
theorem Q7u (ha:PE X a (dn W da))(hb:PE X (.BoolOp .Or (b::rest) pos) (dn W db)):PE X (.BoolOp .Or (a::b::rest) pos) (dn W (dOr da db)):=(Q6p ha hb).mono fun σ H Q hh=>hh.elim fun pn M b ρ P st h k=>by
 refine ⟨pn,M,b,ρ,_,st,h,fun x v H1 hx rx k1 o1=>?_⟩
 cases x<;>first|exact hx.elim|skip
 case bl c =>
  cases (show _=_ from rx)
  refine ⟨c,rfl,?_⟩
  cases hx with
  | f e hx=>subst e;rw [if_neg Bool.false_ne_true];exact ⟨pn,M,b,ρ,P,st.step k1 o1,hx,fun x v H' hp r k2 o2=>k x v H' hp r (k1.trans k2) o2⟩
  | t e hx=>subst e;rw [if_pos rfl];exact k _ _ H1 hx (show _=_ from rfl) k1 o1
theorem Q4h (ha:PE X a (dn W da)):PE X (.UnaryOp .Not a pos) (dn W (Q8e da)):=(Q2s ha).mono fun σ H Q hh=>hh.elim fun pn M b ρ P st h k=>by
 refine ⟨pn,M,b,ρ,_,st,h,fun x v H1 hx rx k1 o1=>?_⟩
 cases x<;>first|exact hx.elim|skip
 case bl c =>
  cases (show _=_ from rx)
  exact ⟨c,rfl,k _ _ H1 hx (show _=_ from rfl) k1 o1⟩
def Q1b (da:DE):DT:=fun ρ P=>da ρ fun x=>match x with|.bl k=>P k|_=>False
theorem Q3u {op:CmpOp}{r:R2}{o:D->D->(D->Prop)->Prop}(ho:OpR X (compareOp op) r)(hd:OpD W r o)(ha:PE X a (dn W da))(hb:PE X b (dn W db))(hm:behindInMarks op b=false):PT X (.Compare a [op] [b] pos) (dnT W (Q1b (dOp o da db))):=(KD ho ha hb hm).mono fun σ H Q hh=>hh.elim fun pn M b ρ P st h k=>by
 refine YS hd σ H _ ⟨pn,M,b,ρ,_,st,h,fun x v H1 hx rx k1 o1=>?_⟩
 cases x<;>first|exact hx.elim|skip
 case bl c =>
  cases (show _=_ from rx)
  exact ⟨c,rfl,k _ H1 hx k1 o1⟩
def Q7z (da:DE):DT:=fun ρ P=>da ρ fun x=>match x with
 | .bl k=>P k
 | .int i=>P (i != 0)
 | .non=>P false
 | .tup xs=>P (!xs.isEmpty)
 | .lst xs=>P (!xs.isEmpty)
 | .own xs=>P (!xs.isEmpty)
 | _=>False
theorem Reps.empty {H:Hp}{ds:List D}{vs:List V}(h:Reps K M H ds vs):(!ds.isEmpty) = !vs.isEmpty:=by
 cases ds with
 | nil=>cases (show _=_ from h);rfl
 | cons d ds=>obtain ⟨v,r,rfl,_⟩:=h;rfl
theorem J5d (hK:X.K=W.K)(ha:PE X a (dn W da))(he:∀ whole,isTrue a X.env whole=(do let v <- whole;standAt a.pos;holding [v] (truthy v))):PT X a (dnT W (Q7z da)):=(J1c W.K hK ha he).mono fun σ H Q hh=>hh.elim fun pn M b ρ P st h k=>by
 refine ⟨pn,M,b,ρ,_,st,h,fun x v H1 hx rx k1 o1=>?_⟩
 cases x<;>first|exact hx.elim|skip
 case bl c=>cases (show _=_ from rx);exact ⟨_,rfl,k _ H1 hx k1 o1⟩
 case int c=>cases (show _=_ from rx);exact ⟨_,rfl,k _ H1 hx k1 o1⟩
 case non=>cases (show _=_ from rx);exact ⟨_,rfl,k _ H1 hx k1 o1⟩
 case tup xs=>obtain ⟨a,vs,rfl,hh,r⟩:=rx;exact ⟨_,.inr (.inl ⟨vs,hh.sq,r.empty⟩),k _ H1 hx k1 o1⟩
 case lst xs=>obtain ⟨a,vs,rfl,hh,r⟩:=rx;exact ⟨_,.inl ⟨vs,SqL.of hh.2,r.empty⟩,k _ H1 hx k1 o1⟩
 case own xs=>obtain ⟨a,vs,rfl,_,_,_,_,hh,r⟩:=rx;exact ⟨_,.inl ⟨vs,SqL.of hh,r.empty⟩,k _ H1 hx k1 o1⟩
def ZV (t u:DT):DT:=fun ρ P=>t ρ fun c=>IfP c (u ρ P) (P false)
def J9t (t u:DT):DT:=fun ρ P=>t ρ fun c=>IfP c (P true) (u ρ P)
def Q1c (t:DT):DT:=fun ρ P=>t ρ fun c=>P (!c)
variable {ta tb:DT}
theorem Q1u:∀ σ H Q,dnT W (ZV ta tb) σ H Q->Q6g (dnT W ta) (dnT W tb) σ H Q:=by
 intro σ H Q hh
 refine hh.elim fun pn M b ρ P st h k=>?_
 refine ⟨pn,M,b,ρ,_,st,h,fun x H1 hx k1 o1=>?_⟩
 cases hx with
 | t e hx=>rw [if_pos e];exact ⟨pn,M,b,ρ,P,st.step k1 o1,hx,fun x H' hp k2 o2=>k x H' hp (k1.trans k2) o2⟩
 | f e hx=>rw [if_neg (by rw [e];exact Bool.false_ne_true)];exact k _ H1 hx k1 o1
theorem Q5u:∀ σ H Q,dnT W (J9t ta tb) σ H Q->tOr (dnT W ta) (dnT W tb) σ H Q:=by
 intro σ H Q hh
 refine hh.elim fun pn M b ρ P st h k=>?_
 refine ⟨pn,M,b,ρ,_,st,h,fun x H1 hx k1 o1=>?_⟩
 cases hx with
 | t e hx=>rw [if_pos e];exact k _ H1 hx k1 o1
 | f e hx=>rw [if_neg (by rw [e];exact Bool.false_ne_true)];exact ⟨pn,M,b,ρ,P,st.step k1 o1,hx,fun x H' hp k2 o2=>k x H' hp (k1.trans k2) o2⟩
theorem PW.mono {t t':TT}(h:PW X e t)(m:∀ σ H Q,t' σ H Q->t σ H Q):PW X e t':=fun wh pins s σ H Q I q=>h wh pins s σ H Q I (m σ H Q q)
theorem J9a (ha:PT X a (dnT W ta)):PW X (.BoolOp .And [a] pos) (dnT W ta):=J7p ha
theorem Q3s (ha:PT X a (dnT W ta)):PW X (.BoolOp .Or [a] pos) (dnT W ta):=Q2h ha
theorem J5c (ha:PT X a (dnT W ta))(hb:PW X (.BoolOp .And (b::rest) pos) (dnT W tb)):PW X (.BoolOp .And (a::b::rest) pos) (dnT W (ZV ta tb)):=(Q2i ha hb).mono Q1u
theorem Q1a (ha:PT X a (dnT W ta))(hb:PW X (.BoolOp .Or (b::rest) pos) (dnT W tb)):PW X (.BoolOp .Or (a::b::rest) pos) (dnT W (J9t ta tb)):=(Q6m ha hb).mono Q5u
theorem Q3t (ha:PT X a (dnT W ta)):PT X (.UnaryOp .Not a pos) (dnT W (Q1c ta)):=(Q2j ha).mono fun σ H Q hh=>hh.elim fun pn M b ρ P st h k=>⟨pn,M,b,ρ,_,st,h,fun x H1 hx k1 o1=>k _ H1 hx k1 o1⟩
def J5s (o o':D->D->(D->Prop)->Prop)(da db dc:DE):DE:=fun ρ P=>da ρ fun x=>db ρ fun y=>o x y fun z=>match z with|.bl k=>IfP k (dc ρ fun w=>o' y w P) (P (.bl false))|_=>False
theorem J5m {op op':CmpOp}{r r':R2}{o o':D->D->(D->Prop)->Prop}(ho:OpR X (compareOp op) r)(ho':OpR X (compareOp op') r')(hd:OpD W r o)(hd':OpD W r' o')(ha:PE X a (dn W da))(hb:PE X b (dn W db))(hc:PE X c (dn W dc))
 (hm:lastMarks [op,op'] [b,c]=false:=by with_unfolding_all rfl):PE X (.Compare a [op,op'] [b,c] pos) (dn W (J5s o o' da db dc)):=(J3q ho ho' ha hb hc hm).mono fun σ H Q hh=>hh.elim fun pn M b ρ P st h k=>by
 refine ⟨pn,M,b,ρ,_,st,h,fun x v H1 hx rx k1 o1=>?_⟩
 refine ⟨pn,M,b,ρ,_,st.step k1 o1,hx,fun y u H2 hy ry k2 o2=>?_⟩
 refine hd M b H2 x y v u _ _ ((st.step k1 o1).step k2 o2).toHs (rx.step st.bagM k2) ry hy fun z w H' hz rz k3 o3=>?_
 cases z<;>first|exact hz.elim|skip
 case bl q =>
  cases (show _=_ from rz)
  refine ⟨q,rfl,?_⟩
  cases hz with
  | f e hz=>subst e;rw [if_neg Bool.false_ne_true];exact k _ _ H' hz (show _=_ from rfl) ((k1.trans k2).trans k3) o3
  | t e hz =>
    subst e
    rw [if_pos rfl]
    refine ⟨pn,M,b,ρ,_,((st.step k1 o1).step k2 o2).step k3 o3,hz,fun w u' H4 hw rw' k4 o4=>?_⟩
    exact hd' M b H4 y w u u' P Q ((((st.step k1 o1).step k2 o2).step k3 o3).step k4 o4).toHs ((ry.step st.bagM k3).step st.bagM k4) rw' hw fun z w H' hz rz k5 o5=>k z w H' hz rz ((((k1.trans k2).trans k3).trans k4).trans k5) o5
def Q5k:DA:=fun _ P=>P []
def J0g (da:DE)(dr:DA):DA:=fun ρ P=>da ρ fun x=>dr ρ fun xs=>P (x::xs)
theorem Q4p:PA X [] (dnA W Q5k):=JJ.mono fun σ H Q hh=>hh.elim fun pn M b ρ P st h k=>k [] [] H h rfl (Kp.refl _ _) st.ok
theorem J9r {dr:DA}(ha:PE X e (dn W da))(hr:PA X es (dnA W dr))(hs:starEach (e::es) X.env=(false,eval e X.env)::starEach es X.env:=by rfl):PA X (e::es) (dnA W (J0g da dr)):=(BS ha hr hs).mono fun σ H Q hh=>hh.elim fun pn M b ρ P st h k=>by
 refine ⟨pn,M,b,ρ,_,st,h,fun x v H1 hx rx k1 o1=>?_⟩
 refine ⟨pn,M,b,ρ,_,st.step k1 o1,hx,fun xs vs H2 hy ry k2 o2=>?_⟩
 exact k _ _ H2 hy ⟨v,vs,rfl,rx.step st.bagM k2,ry⟩ (k1.trans k2) o2
def JP (xs:List D):Bool:=xs.all plain&&decide (xs.length<=1000)
def Q7y (dA:DA):DE:=fun ρ P=>dA ρ fun xs=>JP xs=true/\P (.tup xs)
def Q8f (dA:DA):DE:=fun ρ P=>dA ρ fun xs=>JP xs=true/\P (.lst xs)
theorem JP.len {xs:List D}(h:JP xs=true):xs.length<=sizeLine:=by
 unfold JP at h
 simp only [Bool.and_eq_true,decide_eq_true_eq] at h
 exact Nat.le_trans h.2 BQ
theorem JP.pl {xs:List D}(h:JP xs=true):xs.all plain=true:=by
 unfold JP at h
 simp only [Bool.and_eq_true,decide_eq_true_eq] at h
 exact h.1
theorem II {bg:Option Addr}{H:Hp}{xs:List D}{vs:List V}{p:Addr}(hs:Hs W M bg H)(r:Reps W.K M H xs vs)(h:H p=none):RepX W M bg (upd H p (.tup vs)) (.tup xs) (.ref p) :=
 ⟨p,vs,rfl,.inl ⟨hs.new h,V8⟩,Reps.keep (fun c o _ e=>Same.upd h c o e) _ _ r⟩
theorem DD {bg:Option Addr}{H:Hp}{xs:List D}{vs:List V}{p:Addr}(hs:Hs W M bg H)(r:Reps W.K M H xs vs)(h:H p=none):RepX W M bg (upd H p (.lst vs)) (.lst xs) (.ref p) :=
 ⟨p,vs,rfl,⟨hs.new h,V8⟩,Reps.keep (fun c o _ e=>Same.upd h c o e) _ _ r⟩
theorem Q4e {x1}(h:PA X es (dnA W dA)):PE X (.Tuple es x1 pos) (dn W (Q7y dA)):=(J3n h).mono fun σ H Q hh=>hh.elim fun pn M b ρ P st h k=>by
 refine ⟨pn,M,b,ρ,_,st,h,fun xs vs H1 hx rx k1 o1=>?_⟩
 have rr:=rx.reps _ _ (JP.pl hx.1)
 refine ⟨by rw [rr.length];exact JP.len hx.1,fun p hp=>k _ _ _ hx.2 (II (st.step k1 o1).toHs rr hp) (k1.trans (Kp.upd hp)) ((st.step k1 o1).okU hp)⟩
theorem Q4k (h:PA X es (dnA W dA)):PE X (.List es pos) (dn W (Q8f dA)):=(WV h).mono fun σ H Q hh=>hh.elim fun pn M b ρ P st h k=>by
 refine ⟨pn,M,b,ρ,_,st,h,fun xs vs H1 hx rx k1 o1=>?_⟩
 have rr:=rx.reps _ _ (JP.pl hx.1)
 refine ⟨by rw [rr.length];exact JP.len hx.1,fun p hp=>k _ _ _ hx.2 (DD (st.step k1 o1).toHs rr hp) (k1.trans (Kp.upd hp)) ((st.step k1 o1).okU hp)⟩
end
abbrev DSp:=List D->(D->Prop)->(Addr->Prop)->Prop
def J6v (K:Fg)(M:Addr->Prop)(b:Option Addr)(H:Hp):D->V->Prop
 | .own _,_=>False
 | .bag,v=>∃ p,b=some p/\v=.ref p
 | d,v=>Rep K M H d v
def RepAs (K:Fg)(M:Addr->Prop)(b:Option Addr)(H:Hp):List D->List V->Prop
 | [],vs=>vs=[]
 | d::ds,vs=>∃ v r,vs=v::r/\J6v K M b H d v/\RepAs K M b H ds r
def J8 (K:Fg)(B:BagT)(S:DSp):Sp:=fun vs H Q E=>∃ (M:Addr->Prop) (b:Option Addr) (ds:List D) (P:D->Prop) (Ed:Addr->Prop),S ds P Ed/\RepAs K M b H ds vs/\okB B b H/\(∀ p,b=some p->M p)/\(∀ c,M c->∃ o,H c=some o) /\
 (∀ d v H',P d->Rep K M H' d v->Kp b H H'->okB B b H'->Q v H')/\∀ C H',Ed C->Kp b H H'->okB B b H'->E (.ref C) none H'
theorem RepXs.args {W:Wd} {H:Hp}:∀ (ds:List D) (vs:List V),RepXs W M b H ds vs->ds.all AJ=true->RepAs W.K M b H ds vs
 | [],_,h,_=>h
 | d::ds,vs,h,p=>by
   obtain ⟨v,r,e,h1,h2⟩:=h
   simp only [List.all_cons,Bool.and_eq_true] at p
   refine ⟨v,r,e,?_,RepXs.args ds r h2 p.2⟩
   cases d<;>first|exact h1|cases p.1
theorem RepAs.length {H:Hp}:∀ {ds:List D} {vs:List V},RepAs K M b H ds vs->vs.length=ds.length
 | [],_,h=>by cases (show _=_ from h);rfl
 | d::ds,vs,h=>by
   obtain ⟨v,r,rfl,h1,h2⟩:=h
   simp [RepAs.length h2]
def FM (W:Wd)(E:XK)(Ed:Addr->Prop):Prop:=∀ C H',Ed C->Kp W.b0 W.H0 H'->okB W.B W.b0 H'->E (.ref C) none H'
theorem Sta.ok0 {W:Wd}{pn:List (D×V)} {H:Hp}{σ:St}{ρ:Ev}(s:Sta W pn M b H σ ρ):okB W.B W.b0 H:=by
 rcases s.new with q|⟨q,_⟩
 · rw [<- q];exact s.ok
 · intro p e;rw [q] at e;cases e
section
variable {X:Cx}{W:Wd}{e a b c:Expr}{es:List Expr}{pos p:Pos}{d:DE}{dA:DA}{x:Str}{k:Nat}{ps:List Str}{S:DSp}
def RF (S:DSp)(Ed:Addr->Prop)(dA:DA):DE:=fun ρ P=>dA ρ fun ds=>ds.all AJ=true/\S ds P Ed
theorem YT {E:XK}{Ed:Addr->Prop}(hE:FM W E Ed):∀ σ H Q,dn W (RF S Ed dA) σ H Q->QK (J8 W.K W.B S) [] E (dnA W dA) σ H Q:=by
 intro σ H Q hh
 refine hh.elim fun pn M b ρ P st h k=>?_
 refine ⟨pn,M,b,ρ,_,st,h,fun xs vs H1 hx rx k1 o1=>?_⟩
 have st1:=st.step k1 o1
 refine ⟨M,b,xs,P,Ed,hx.2,?_,o1,st.bagM,st1.dom,fun d v H' hd rd k2 o2=>k d v H' hd rd.x (k1.trans k2) o2,fun C H' hC k2 o2=>?_⟩
 · rw [List.append_nil];exact rx.args _ _ hx.1
 · have st2:=st1.step k2 o2
   exact hE C H' hC st2.kp st2.ok0
theorem DW:FM W E0 (fun _=>False):=fun _ _ h=>h.elim
theorem Q4f (G:Callee X.prog X.w X.K X.mg X.base CX0 x k ps (J8 W.K W.B S))(hr:Room k X.A)(hg:Gl X x)(ha:PA X (e::es) (dnA W dA))(hdb:(x==("__debug__" : Str))=false:=by decide) (he:starEach (e::es) X.env=(false,eval e X.env)::starEach es X.env:=by rfl) (hpl:(backTo pos (starEach es X.env)).any (·.1)=false:=by rfl) :
 PE X (.Call (.Name x p) (e::es) [] pos) (dn W (RF S (fun _=>False) dA)):=(LN G hr hg ha hdb he hpl).mono (YT DW)
theorem J9o {CX:CXT}{E:XK}{Ed:Addr->Prop}(hE:FM W E Ed)(hp:FF CX X E)(G:Callee X.prog X.w X.K X.mg X.base CX x k ps (J8 W.K W.B S))(hr:Room k X.A)(hg:Gl X x)(ha:PA X (e::es) (dnA W dA))(hdb:(x==("__debug__" : Str))=false:=by decide) (he:starEach (e::es) X.env=(false,eval e X.env)::starEach es X.env:=by rfl) (hpl:(backTo pos (starEach es X.env)).any (·.1)=false:=by rfl) :
 PE X (.Call (.Name x p) (e::es) [] pos) (dn W (RF S Ed dA)):=(ND hp G hr hg ha hdb he hpl).mono (YT hE)
def EH (W:Wd)(r:List V->Hp->VK->Prop)(o:List D->(D->Prop)->Prop):Prop:=∀ M b H xs vs P Q,Hs W M b H->RepXs W M b H xs vs->o xs P->(∀ z w H',P z->RepX W M b H' z w->Kp b H H'->okB W.B b H'->Q w H')->r vs H Q
def dCB (o:List D->(D->Prop)->Prop)(dA:DA):DE:=fun ρ P=>dA ρ fun xs=>o xs P
variable {r:List V->Hp->VK->Prop}{o:List D->(D->Prop)->Prop}{id T:String}
theorem Q0k (hd:EH W r o):∀ σ H Q,dn W (dCB o dA) σ H Q->tCB r (dnA W dA) σ H Q:=by
 intro σ H Q hh
 refine hh.elim fun pn M b ρ P st h k=>?_
 refine ⟨pn,M,b,ρ,_,st,h,fun xs vs H1 hx rx k1 o1=>?_⟩
 exact hd M b H1 xs vs P Q (st.step k1 o1).toHs rx hx fun z w H' hz rz k2 o2=>k z w H' hz rz (k1.trans k2) o2
theorem J5n (hc:CD X (.builtin id) r)(hd:EH W r o)(hg:Gl X x)(hm:X.mg x=none)(hv:bootBuiltins x=some (.builtin id))(ha:PA X (e::es) (dnA W dA))(hn:x≠"__name__":=by decide) (hdb:(x==("__debug__" : Str))=false:=by decide)
 (he:starEach (e::es) X.env=(false,eval e X.env)::starEach es X.env:=by rfl) (hpl:(backTo pos (starEach es X.env)).any (·.1)=false:=by rfl):PE X (.Call (.Name x p) (e::es) [] pos) (dn W (dCB o dA)):=(NU hc hg hm hv ha hn hdb he hpl).mono (Q0k hd)
theorem J2h (hc:CD X (.type T) r)(hd:EH W r o)(hg:Gl X x)(hm:X.mg x=none)(hv:bootBuiltins x=some (.type T))(ha:PA X (e::es) (dnA W dA))(hn:x≠"__name__":=by decide) (hdb:(x==("__debug__" : Str))=false:=by decide)
 (he:starEach (e::es) X.env=(false,eval e X.env)::starEach es X.env:=by rfl) (hpl:(backTo pos (starEach es X.env)).any (·.1)=false:=by rfl):PE X (.Call (.Name x p) (e::es) [] pos) (dn W (dCB o dA)):=(EO hc hg hm hv ha hn hdb he hpl).mono (Q0k hd)
theorem rx1 {b:Option Addr}{H:Hp}{x:D}{vs:List V}(h:RepXs W M b H [x] vs):∃ v,vs=[v]/\RepX W M b H x v:=by
 obtain ⟨v,r,rfl,h1,h2⟩:=h
 cases (show _=_ from h2)
 exact ⟨v,rfl,h1⟩
theorem rx2 {b:Option Addr}{H:Hp}{x y:D}{vs:List V}(h:RepXs W M b H [x,y] vs):∃ v u,vs=[v,u]/\RepX W M b H x v/\RepX W M b H y u:=by
 obtain ⟨v,r,rfl,h1,h2⟩:=h
 obtain ⟨u,rfl,h3⟩:=rx1 h2
 exact ⟨v,u,rfl,h1,h3⟩
def HX:List D->Option (List Int)
 | []=>some []
 | .int i::r=>(HX r).map (i::·)
 | _=>none
def IC:List D->Option (List Bool)
 | []=>some []
 | .bl i::r=>(IC r).map (i::·)
 | _=>none
theorem HX.eq:∀ {ds:List D} {ns:List Int},HX ds=some ns->ds=ns.map D.int
 | [],ns,h=>by cases h;rfl
 | d::r,ns,h=>by
   cases d<;>first|cases h|skip
   case int i =>
    simp only [HX,Option.map_eq_some_iff] at h
    obtain ⟨m,e,rfl⟩:=h
    rw [HX.eq e];rfl
theorem IC.eq:∀ {ds:List D} {ns:List Bool},IC ds=some ns->ds=ns.map D.bl
 | [],ns,h=>by cases h;rfl
 | d::r,ns,h=>by
   cases d<;>first|cases h|skip
   case bl i =>
    simp only [IC,Option.map_eq_some_iff] at h
    obtain ⟨m,e,rfl⟩:=h
    rw [IC.eq e];rfl
theorem MF (ns:List Bool):IC (ns.map D.bl)=some ns:=by
 induction ns with
 | nil=>rfl
 | cons n ns ih=>simp [IC,ih]
theorem Reps.ints {H:Hp}:∀ {ns:List Int} {vs:List V},Reps K M H (ns.map D.int) vs->vs=ns.map V.int
 | [],_,h=>by cases (show _=_ from h);rfl
 | n::ns,_,h=>by
   obtain ⟨v,r,rfl,h1,h2⟩:=h
   cases (show _=_ from h1)
   rw [Reps.ints h2];rfl
theorem Reps.bls {H:Hp}:∀ {ns:List Bool} {vs:List V},Reps K M H (ns.map D.bl) vs->vs=ns.map V.bl
 | [],_,h=>by cases (show _=_ from h);rfl
 | n::ns,_,h=>by
   obtain ⟨v,r,rfl,h1,h2⟩:=h
   cases (show _=_ from h1)
   rw [Reps.bls h2];rfl
def asL:D->Option (List D)
 | .lst xs=>some xs
 | .own xs=>some xs
 | _=>none
def asS:D->Option (List D)
 | .lst xs=>some xs
 | .own xs=>some xs
 | .tup xs=>some xs
 | _=>none
theorem asL.rep {b:Option Addr}{H:Hp}{x:D}{v:V}{xs:List D}(h:RepX W M b H x v)(e:asL x=some xs):∃ a vs,v=.ref a/\H a=some (.lst vs)/\Reps W.K M H xs vs:=by
 cases x<;>first|cases e|skip
 case lst=>obtain ⟨a,vs,rfl,hh,r⟩:=h;exact ⟨a,vs,rfl,hh.2,r⟩
 case own=>obtain ⟨a,vs,rfl,_,_,_,_,hh,r⟩:=h;exact ⟨a,vs,rfl,hh,r⟩
theorem asS.rep {b:Option Addr}{H:Hp}{x:D}{v:V}{xs:List D}(h:RepX W M b H x v)(e:asS x=some xs):∃ a vs,v=.ref a/\(SqL W.K H a vs\/SqT W.K H a vs)/\Reps W.K M H xs vs:=by
 cases x<;>first|cases e|skip
 case lst=>obtain ⟨a,vs,rfl,hh,r⟩:=h;exact ⟨a,vs,rfl,.inl (SqL.of hh.2),r⟩
 case own=>obtain ⟨a,vs,rfl,_,_,_,_,hh,r⟩:=h;exact ⟨a,vs,rfl,.inl (SqL.of hh),r⟩
 case tup=>obtain ⟨a,vs,rfl,hh,r⟩:=h;exact ⟨a,vs,rfl,.inr (hh.sq),r⟩
def Q9b:List D->(D->Prop)->Prop
 | [.lst xs],P=>P (.int xs.length)
 | [.own xs],P=>P (.int xs.length)
 | [.tup xs],P=>P (.int xs.length)
 | [.scr ns],P=>P (.int ns.length)
 | _,_=>False
theorem BJ:EH W (fun xs H Q=>∃ p ys,xs=[.ref p]/\(SqL W.K H p ys\/SqT W.K H p ys)/\Q (.int ys.length) H) Q9b:=by
 intro M b H xs vs P Q hs rx ho k
 match xs,ho with
 | [.lst xs],ho =>
   obtain ⟨v,rfl,r⟩:=rx1 rx
   obtain ⟨a,us,rfl,hh,r'⟩:=r
   exact ⟨a,us,rfl,.inl (SqL.of hh.2),k _ _ H ho (by show _=_;rw [r'.length]) (Kp.refl _ _) hs.ok⟩
 | [.own xs],ho =>
   obtain ⟨v,rfl,r⟩:=rx1 rx
   obtain ⟨a,us,rfl,_,_,_,_,hh,r'⟩:=r
   exact ⟨a,us,rfl,.inl (SqL.of hh),k _ _ H ho (by show _=_;rw [r'.length]) (Kp.refl _ _) hs.ok⟩
 | [.tup xs],ho =>
   obtain ⟨v,rfl,r⟩:=rx1 rx
   obtain ⟨a,us,rfl,hh,r'⟩:=r
   exact ⟨a,us,rfl,.inr (hh.sq),k _ _ H ho (by show _=_;rw [r'.length]) (Kp.refl _ _) hs.ok⟩
 | [.scr ns],ho =>
   obtain ⟨v,rfl,r⟩:=rx1 rx
   obtain ⟨a,rfl,hh⟩:=r
   refine ⟨a,ns.map V.int,rfl,.inl (hh.imp (·.2) id),k _ _ H ho (by show _=_;rw [List.length_map]) (Kp.refl _ _) hs.ok⟩
def Q3a:List D->(D->Prop)->Prop
 | [.lst xs],P=>P (.tup xs)
 | [.own xs],P=>P (.tup xs)
 | [.tup xs],P=>P (.tup xs)
 | _,_=>False
theorem J5y:EH W (fun xs H Q=>∃ p ys,xs=[.ref p]/\((SqL W.K H p ys/\∀ l,H l=none->Q (.ref l) (upd H l (.tup ys)))\/(SqT W.K H p ys/\Q (.ref p) H))) Q3a:=by
 intro M b H xs vs P Q hs rx ho k
 match xs,ho with
 | [.lst xs],ho =>
   obtain ⟨v,rfl,r⟩:=rx1 rx
   obtain ⟨a,us,rfl,hh,r'⟩:=r
   exact ⟨a,us,rfl,.inl ⟨SqL.of hh.2,fun l hl=>k _ _ _ ho (II hs r' hl) (Kp.upd hl) (hs.okU hl)⟩⟩
 | [.own xs],ho =>
   obtain ⟨v,rfl,r⟩:=rx1 rx
   obtain ⟨a,us,rfl,_,_,_,_,hh,r'⟩:=r
   exact ⟨a,us,rfl,.inl ⟨SqL.of hh,fun l hl=>k _ _ _ ho (II hs r' hl) (Kp.upd hl) (hs.okU hl)⟩⟩
 | [.tup xs],ho =>
   obtain ⟨v,rfl,r⟩:=rx1 rx
   obtain ⟨a,us,rfl,hh,r'⟩:=r
   exact ⟨a,us,rfl,.inr ⟨hh.sq,k _ _ H ho ⟨a,us,rfl,hh,r'⟩ (Kp.refl _ _) hs.ok⟩⟩
def Q6w:List D->(D->Prop)->Prop
 | [.lst xs],P=>P (.lst xs)
 | [.own xs],P=>P (.lst xs)
 | [.tup xs],P=>P (.lst xs)
 | _,_=>False
theorem J0c:EH W (fun xs H Q=>∃ p ys,xs=[.ref p]/\(SqL W.K H p ys\/SqT W.K H p ys)/\∀ l,H l=none->Q (.ref l) (upd H l (.lst ys))) Q6w:=by
 intro M b H xs vs P Q hs rx ho k
 match xs,ho with
 | [.lst xs],ho =>
   obtain ⟨v,rfl,r⟩:=rx1 rx
   obtain ⟨a,us,rfl,hh,r'⟩:=r
   exact ⟨a,us,rfl,.inl (SqL.of hh.2),fun l hl=>k _ _ _ ho (DD hs r' hl) (Kp.upd hl) (hs.okU hl)⟩
 | [.own xs],ho =>
   obtain ⟨v,rfl,r⟩:=rx1 rx
   obtain ⟨a,us,rfl,_,_,_,_,hh,r'⟩:=r
   exact ⟨a,us,rfl,.inl (SqL.of hh),fun l hl=>k _ _ _ ho (DD hs r' hl) (Kp.upd hl) (hs.okU hl)⟩
 | [.tup xs],ho =>
   obtain ⟨v,rfl,r⟩:=rx1 rx
   obtain ⟨a,us,rfl,hh,r'⟩:=r
   exact ⟨a,us,rfl,.inr (hh.sq),fun l hl=>k _ _ _ ho (DD hs r' hl) (Kp.upd hl) (hs.okU hl)⟩
def Q9g:List D->(D->Prop)->Prop
 | [.int i],P=>P (.int (if i<0 then -i else i))
 | _,_=>False
theorem Q5e:EH W (fun xs H Q=>∃ i,xs=[.int i]/\Q (.int (if i<0 then -i else i)) H) Q9g:=by
 intro M b H xs vs P Q hs rx ho k
 match xs,ho with
 | [.int i],ho =>
   obtain ⟨v,rfl,r⟩:=rx1 rx
   cases (show _=_ from r)
   exact ⟨i,rfl,k _ _ H ho (show _=_ from rfl) (Kp.refl _ _) hs.ok⟩
def Q7a:List D->(D->Prop)->Prop
 | [.int i],P=>P (.int i)
 | [.bl c],P=>P (.int (if c then 1 else 0))
 | _,_=>False
theorem SY:EH W (fun xs H Q=>(∃ i,xs=[.int i]/\Q (.int i) H)\/∃ k,xs=[.bl k]/\Q (.int (if k then 1 else 0)) H) Q7a:=by
 intro M b H xs vs P Q hs rx ho k
 match xs,ho with
 | [.int i],ho =>
   obtain ⟨v,rfl,r⟩:=rx1 rx
   cases (show _=_ from r)
   exact .inl ⟨i,rfl,k _ _ H ho (show _=_ from rfl) (Kp.refl _ _) hs.ok⟩
 | [.bl i],ho =>
   obtain ⟨v,rfl,r⟩:=rx1 rx
   cases (show _=_ from r)
   exact .inr ⟨i,rfl,k _ _ H ho (show _=_ from rfl) (Kp.refl _ _) hs.ok⟩
def o2I (g:Int->Int->Int):List D->(D->Prop)->Prop
 | [.int i,.int j],P=>P (.int (g i j))
 | _,_=>False
theorem HG {g:Int->Int->Int}:EH W (fun xs H Q=>∃ i j,xs=[.int i,.int j]/\Q (.int (g i j)) H) (o2I g):=by
 intro M b H xs vs P Q hs rx ho k
 match xs,ho with
 | [.int i,.int j],ho =>
   obtain ⟨v,u,rfl,r,r'⟩:=rx2 rx
   cases (show _=_ from r)
   cases (show _=_ from r')
   exact ⟨i,j,rfl,k _ _ H ho (show _=_ from rfl) (Kp.refl _ _) hs.ok⟩
def Q6t:List D->(D->Prop)->Prop
 | [x],P=>(asL x).elim False fun xs=>(HX xs).elim False fun ns=>P (.int ns.sum)
 | _,_=>False
theorem Q5d:EH W (fun xs H Q=>∃ (p:Addr) (ns:List Int),xs=[.ref p]/\SqL W.K H p (ns.map V.int)/\Q (.int ns.sum) H) Q6t:=by
 intro M b H xs vs P Q hs rx ho k
 match xs,ho with
 | [x],ho =>
   obtain ⟨v,rfl,r⟩:=rx1 rx
   simp only [Q6t] at ho
   cases ex:asL x with
   | none=>rw [ex] at ho;exact ho.elim
   | some xs =>
     rw [ex] at ho
     simp only [Option.elim] at ho
     cases en:HX xs with
     | none=>rw [en] at ho;exact ho.elim
     | some ns =>
       rw [en] at ho
       cases HX.eq en
       obtain ⟨a,us,rfl,hh,r'⟩:=asL.rep r ex
       cases r'.ints
       exact ⟨a,ns,rfl,SqL.of hh,k _ _ H ho (show _=_ from rfl) (Kp.refl _ _) hs.ok⟩
def Q7d (g:List Bool->Bool):List D->(D->Prop)->Prop
 | [x],P=>(asL x).elim False fun xs=>(IC xs).elim False fun ns=>P (.bl (g ns))
 | _,_=>False
theorem SZ {g:List Bool->Bool}:EH W (fun xs H Q=>∃ (p:Addr) (bs:List Bool),xs=[.ref p]/\SqL W.K H p (bs.map V.bl)/\Q (.bl (g bs)) H) (Q7d g):=by
 intro M b H xs vs P Q hs rx ho k
 match xs,ho with
 | [x],ho =>
   obtain ⟨v,rfl,r⟩:=rx1 rx
   simp only [Q7d] at ho
   cases ex:asL x with
   | none=>rw [ex] at ho;exact ho.elim
   | some xs =>
     rw [ex] at ho
     simp only [Option.elim] at ho
     cases en:IC xs with
     | none=>rw [en] at ho;exact ho.elim
     | some ns =>
       rw [en] at ho
       cases IC.eq en
       obtain ⟨a,us,rfl,hh,r'⟩:=asL.rep r ex
       cases r'.bls
       exact ⟨a,ns,rfl,SqL.of hh,k _ _ H ho (show _=_ from rfl) (Kp.refl _ _) hs.ok⟩
theorem EL (K:Fg)(h:X.K=K):CD X (.builtin "isinstance") (fun xs H Q=>∃ y c t b,xs=[y,.ty c]/\(TyOf K H y t\/∃ a vs,y=.ref a/\KTp K a vs/\t=.type "tuple")/\PySem.W.kitOne K t (.type c)=some b/\Q (.bl b) H):=by
 subst h
 intro pins s σ H xs us Q I rs q
 obtain ⟨y,c,t,b,rfl,ty,e,q⟩:=q
 rcases ty with ty|⟨a,vs,rfl,⟨o,its,n,hk,hc,hs,hz,r⟩,rfl⟩
 · exact VW pins s σ H _ us Q I rs ⟨y,c,t,b,rfl,ty,e,q⟩
 · obtain ⟨u1,u2,rfl,r1,r2⟩:=QI rs
   cases (show u2=Value.type c from r2)
   cases (show u1=Value.ref a from r1)
   refine PySem.W.kia_one PySem.W.kitx_tuple I.kIn ⟨o,I.kIn a o hk,hc⟩ e (fun z=>nomatch z) fun tk=>?_
   exact ⟨.bl b,H,I.tok _,rfl,q⟩
def FN:D->Option String
 | .non=>some "NoneType"
 | .bl _=>some "bool"
 | .int _=>some "int"
 | .str _=>some "str"
 | .lst _=>some "list"
 | .own _=>some "list"
 | .tup _=>some "tuple"
 | .frg _ (.lst _)=>some "list"
 | _=>none
def Q9l (K:Fg)(t c:String)(b:Bool):Prop:=PySem.W.kitOne K (.type t) (.type c)=some b
def Q6z (K:Fg):List D->(D->Prop)->Prop
 | [x,.ty c],P=>match FN x with|some t=>∃ b,Q9l K t c b/\P (.bl b)|none=>False
 | _,_=>False
theorem IR:EH W (fun xs H Q=>∃ y c t b,xs=[y,.ty c]/\(TyOf W.K H y t\/∃ a vs,y=.ref a/\KTp W.K a vs/\t=.type "tuple")/\PySem.W.kitOne W.K t (.type c)=some b/\Q (.bl b) H) (Q6z W.K):=by
 intro M b H xs vs P Q hs rx ho k
 match xs,ho with
 | [x,.ty c],ho =>
   obtain ⟨v,u,rfl,r,r'⟩:=rx2 rx
   cases (show _=_ from r')
   simp only [Q6z] at ho
   split at ho
   case h_2=>exact ho.elim
   case h_1 t et =>
    obtain ⟨q,hq,hp⟩:=ho
    refine ⟨v,c,.type t,q,rfl,?_,hq,k _ _ H hp (show _=_ from rfl) (Kp.refl _ _) hs.ok⟩
    cases x<;>first|cases et|skip
    case non=>cases (show _=_ from r);exact .inl (.non)
    case bl=>cases (show _=_ from r);exact .inl (.bl _)
    case int=>cases (show _=_ from r);exact .inl (.int _)
    case str=>cases (show _=_ from r);exact .inl (.str _)
    case lst=>obtain ⟨a,us,rfl,hh,r'⟩:=r;exact .inl (.lst hh.2)
    case own=>obtain ⟨a,us,rfl,_,_,_,_,hh,r'⟩:=r;exact .inl (.lst hh)
    case frg f d =>
     cases d<;>first|cases et|skip
     case lst=>obtain ⟨a,us,rfl,hh,r'⟩:=r.2.2;exact .inl (.lst hh.2)
    case tup =>
     obtain ⟨a,us,rfl,hh,r'⟩:=r
     exact hh.elim (fun z=>.inl (.tup z.2)) fun z=>.inr ⟨a,us,rfl,z,rfl⟩
end
theorem Reps.plain {H:Hp}:∀ {ds:List D} {vs:List V},Reps K M H ds vs->ds.all plain=true
 | [],_,_=>rfl
 | d::ds,_,h=>by
   obtain ⟨v,r,rfl,h1,h2⟩:=h
   rw [List.all_cons,Reps.plain h2,Bool.and_true]
   cases d<;>first|rfl|exact h1.elim
theorem Reps.xs {W:Wd} {H:Hp}:∀ {ds:List D} {vs:List V},Reps W.K M H ds vs->RepXs W M b H ds vs
 | [],_,h=>h
 | d::ds,_,h=>by
   obtain ⟨v,r,rfl,h1,h2⟩:=h
   exact ⟨v,r,rfl,h1.x,Reps.xs h2⟩
def MI (W:Wd)(J:It)(need:List (D×V))(items:List D):Prop:=∀ M b H,Hs W M b H->(∀ q∈need,RepX W M b H q.1 q.2) ->
 (∀ (i:Nat) d,items[i]?=some d->J.go i H/\∀ x H3,J.yld i H x H3->Same H H3/\RepX W M b H3 d x)/\∀ i,items.length<=i->J.stop i H
def dnI (W:Wd)(fz:Bool)(di:DA):TI:=fun σ H R=>∃ pn M b ρ P,Sta W pn M b H σ ρ/\di ρ P/\∀ items J need H',P items->items.all plain=true->MI W J need items->(∀ q∈need,RepX W M b H' q.1 q.2/\(fz=true->plain q.1=true))->Kp b H H'->okB W.B b H'->R J H'
theorem dnI.elim {W:Wd}{fz:Bool}{d:DA}{σ:St}{H:Hp}{R:It->Hp->Prop}{Z:Prop}(h:dnI W fz d σ H R)(f:∀ pn M b ρ P,Sta W pn M b H σ ρ->d ρ P->(∀ items J need H',P items->items.all plain=true->MI W J need items->(∀ q∈need,RepX W M b H' q.1 q.2/\(fz=true->plain q.1=true))->Kp b H H'->okB W.B b H'->R J H')->Z):Z:=by
 obtain ⟨pn,M,b,ρ,P,st,h,k⟩:=h
 exact f pn M b ρ P st h k
section
variable {X:Cx}{W:Wd}{tg l e a b:Expr}{pos p:Pos}{d dl:DE}{dA:DA}{fz:Bool}
theorem PI.mono {t t':TI}(h:PI X tg l t)(m:∀ σ H R,t' σ H R->t σ H R):PI X tg l t':=fun pins s σ H R I q=>h pins s σ H R I (m σ H R q)
theorem Q2o {tl:TE}(K:Fg)(h:X.K=K)(hl:PE X l tl):PI X tg l (fun σ H R=>tl σ H fun x H1=>(∃ a,x=.ref a/\(∃ xs,SqL K H1 a xs)/\R (Itl K a) H1)\/(∃ a,x=.ref a/\(∃ xs,SqT K H1 a xs)/\R (Itt K a) H1)):=by
 subst h
 intro pins s σ H R I h
 refine thn (hl pins s σ H _ I h) fun v s1 ⟨x,H1,I1,r1,q1⟩=>?_
 rcases q1 with ⟨a,e,⟨xs,hq⟩,q⟩|⟨a,e,⟨xs,hq⟩,q⟩
 · subst e
   cases r1
   obtain ⟨its,rv,p,hz⟩:=I1.list hq
   refine wpAny_pyIter_list p.isList ?_
   refine ⟨s1.heap.objs.size,[s1.heap.objs.size],_,_,H1,rfl,I1.kept (t':=s1.toks) fun b o e=>B4 _ e,J0p a _,⟨_,Heap.get?_push_size _ rfl,rfl,rfl⟩,fun b hb=>?_,q⟩
   have e:b=s1.heap.objs.size:=by simpa using hb
   subst e
   exact I1.fpOk (Nat.le_refl _) (I1.hok.fresh (Nat.le_refl _))
 · subst e
   cases r1
   obtain ⟨its,rv,p,hz⟩:=I1.tuple hq
   refine wpAny_pyIter_tuple (show s1.heap.IsTuple a its.toArray from p) ?_
   refine ⟨s1.heap.objs.size,[s1.heap.objs.size],_,_,H1,rfl,I1.kept (t':=s1.toks) fun b o e=>B4 _ e,WF a _,⟨_,Heap.get?_push_size _ rfl,rfl,rfl⟩,fun b hb=>?_,q⟩
   have e:b=s1.heap.objs.size:=by simpa using hb
   subst e
   exact I1.fpOk (Nat.le_refl _) (I1.hok.fresh (Nat.le_refl _))
def Q7g (fz:Bool)(dl:DE):DA:=fun ρ P=>dl ρ fun x=>match x with
 | .lst xs=>P xs
 | .tup xs=>P xs
 | .own xs=>fz=false/\P xs
 | _=>False
theorem J4s {x:D}{xs:List D}{a:Addr}(hx:asL x=some xs):MI W (Itl W.K a) [(x,.ref a)] xs:=by
 intro M b H hs hn
 obtain ⟨a',vs,e,hh,r⟩:=asL.rep (hn _ (List.mem_singleton.mpr rfl)) hx
 cases e
 refine ⟨fun i d e=>?_,fun i hi=>⟨vs,SqL.of hh,by rw [r.length];exact hi⟩⟩
 obtain ⟨v,e1,r1⟩:=r.get e
 refine ⟨⟨vs,v,SqL.of hh,e1⟩,fun y H3 ⟨eH,hy⟩=>?_⟩
 subst eH
 have:=hy vs (SqL.of hh)
 rw [e1] at this;cases this
 exact ⟨Same.refl _,r1.x⟩
theorem Q3l {xs:List D}{a:Addr}:MI W (Itt W.K a) [(.tup xs,.ref a)] xs:=by
 intro M b H hs hn
 obtain ⟨a',vs,e,hh,r⟩:=hn _ (List.mem_singleton.mpr rfl)
 cases e
 refine ⟨fun i d e=>?_,fun i hi=>⟨vs,hh.sq,by rw [r.length];exact hi⟩⟩
 obtain ⟨v,e1,r1⟩:=r.get e
 refine ⟨⟨vs,v,hh.sq,e1⟩,fun y H3 ⟨eH,hy⟩=>?_⟩
 subst eH
 have:=hy vs (hh.sq)
 rw [e1] at this;cases this
 exact ⟨Same.refl _,r1.x⟩
theorem J3z {b:Option Addr}{H:Hp}{x:D}{v:V}(r:RepX W M b H x v)(h:fz=true->plain x=true):∀ q∈[(x,v)],RepX W M b H q.1 q.2/\(fz=true->plain q.1=true):=fun q hq=>by
 have e:=List.mem_singleton.mp hq
 subst e
 exact ⟨r,h⟩
theorem Q4c (hK:X.K=W.K)(hl:PE X l (dn W dl)):PI X tg l (dnI W fz (Q7g fz dl)):=(Q2o W.K hK hl).mono fun σ H R hh=>hh.elim fun pn M b ρ P st h k=>by
 refine ⟨pn,M,b,ρ,_,st,h,fun x v H1 hx rx k1 o1=>?_⟩
 cases x<;>first|exact hx.elim|skip
 case lst xs =>
  obtain ⟨a,vs,rfl,hh,r⟩:=(show RepX W M b H1 (.lst xs) v from rx)
  exact .inl ⟨a,rfl,⟨vs,SqL.of hh.2⟩,k xs _ _ H1 hx r.plain (J4s (x:=.lst xs) rfl) (J3z rx fun _=>rfl) k1 o1⟩
 case tup xs =>
  obtain ⟨a,vs,rfl,hh,r⟩:=(show RepX W M b H1 (.tup xs) v from rx)
  exact .inr ⟨a,rfl,⟨vs,hh.sq⟩,k xs _ _ H1 hx r.plain Q3l (J3z rx fun _=>rfl) k1 o1⟩
 case own xs =>
  obtain ⟨a,vs,rfl,m1,m2,m3,m4,hh,r⟩:=(show RepX W M b H1 (.own xs) v from rx)
  exact .inl ⟨a,rfl,⟨vs,SqL.of hh⟩,k xs _ _ H1 hx.2 r.plain (J4s (x:=.own xs) rfl) (J3z rx fun z=>by rw [hx.1] at z;cases z) k1 o1⟩
def V6 (lo:Int)(n:Nat):List D:=(List.range n).map fun (i:Nat)=>.int (lo+i)
theorem KC (lo:Int)(n:Nat):(V6 lo n).all plain=true:=by
 simp [V6,plain]
theorem VE {lo:Int}{n:Nat}:MI W (Itr lo n) [] (V6 lo n):=by
 intro M b H hs _
 refine ⟨fun i d e=>?_,fun i hi=>by show n<=i;simpa [V6] using hi⟩
 have hi:i<n:=by
  have:=(List.getElem?_eq_some_iff.mp e).1
  simpa [V6] using this
 refine ⟨hi,fun x H3 ⟨eH,ex⟩=>?_⟩
 subst eH ex
 refine ⟨Same.refl _,?_⟩
 simp [V6,hi] at e
 subst e
 exact (show _=_ from rfl)
def ZP (dA:DA):DA:=fun ρ P=>dA ρ fun xs=>match xs with
 | [.int j]=>(-(2 ^ 62)<=j/\j<2 ^ 62)/\P (V6 0 j.toNat)
 | _=>False
def ZO (dA:DA):DA:=fun ρ P=>dA ρ fun xs=>match xs with
 | [.int i,.int j]=>(-(2 ^ 62)<=i/\i<2 ^ 62/\-(2 ^ 62)<=j/\j<2 ^ 62)/\P (V6 i (j - i).toNat)
 | _=>False
theorem J2g (hg:Gl X "range") (hm:X.mg "range" = none) (ha:PA X [a] (dnA W dA)) (hs:starEach [a] X.env=[(false,eval a X.env)]:=by rfl):PI X tg (.Call (.Name "range" p) [a] [] pos) (dnI W fz (ZP dA)):=(J1g hg hm ha hs).mono fun σ H R hh=>hh.elim fun pn M b ρ P st h k=>by
 refine ⟨pn,M,b,ρ,_,st,h,fun xs vs H1 hx rx k1 o1=>?_⟩
 match xs,hx with
 | [.int j],hx =>
   obtain ⟨v,rfl,r⟩:=rx1 rx
   cases (show _=_ from r)
   exact ⟨j,rfl,hx.1.1,hx.1.2,k _ _ _ H1 hx.2 (KC _ _) VE (fun q hq=>by cases hq) k1 o1⟩
theorem J2f (hg:Gl X "range") (hm:X.mg "range" = none) (ha:PA X [a,b] (dnA W dA)) (hs:starEach [a,b] X.env=[(false,eval a X.env),(false,eval b X.env)]:=by rfl) (hs2:starEach [b] X.env=[(false,eval b X.env)]:=by rfl):PI X tg (.Call (.Name "range" p) [a,b] [] pos) (dnI W fz (ZO dA)):=(J1f hg hm ha hs hs2).mono fun σ H R hh=>hh.elim fun pn M b ρ P st h k=>by
 refine ⟨pn,M,b,ρ,_,st,h,fun xs vs H1 hx rx k1 o1=>?_⟩
 match xs,hx with
 | [.int i,.int j],hx =>
   obtain ⟨v,u,rfl,r,r'⟩:=rx2 rx
   cases (show _=_ from r)
   cases (show _=_ from r')
   exact ⟨i,j,rfl,hx.1,k _ _ _ H1 hx.2 (KC _ _) VE (fun q hq=>by cases hq) k1 o1⟩
def asK (fz t:Bool):D->Option (List D)
 | .tup xs=>if t then some xs else none
 | .lst xs=>if t then none else some xs
 | .own xs=>if t||fz then none else some xs
 | _=>none
theorem asK.rep {b:Option Addr}{H:Hp}{t:Bool}{x:D}{v:V}{xs:List D}(h:RepX W M b H x v)(e:asK fz t x=some xs):(∃ a vs,v=.ref a/\SqX W.K t H a vs/\Reps W.K M H xs vs)/\(fz=true->plain x=true):=by
 cases x<;>first|cases e|skip
 case lst =>
  obtain ⟨a,vs,rfl,hh,r⟩:=h
  cases t<;>cases e
  exact ⟨⟨a,vs,rfl,SqL.of hh.2,r⟩,fun _=>rfl⟩
 case own =>
  obtain ⟨a,vs,rfl,_,_,_,_,hh,r⟩:=h
  cases t<;>cases fz<;>cases e
  exact ⟨⟨a,vs,rfl,SqL.of hh,r⟩,fun z=>by cases z⟩
 case tup =>
  obtain ⟨a,vs,rfl,hh,r⟩:=h
  cases t<;>cases e
  exact ⟨⟨a,vs,rfl,hh.sq,r⟩,fun _=>rfl⟩
def TR (xs ys:List D):List D:=List.zipWith (fun x y=>.tup [x,y]) xs ys
def Q0t (fz t1 t2:Bool)(dA:DA):DA:=fun ρ P=>dA ρ fun zs=>match zs with
 | [x,y]=>(match asK fz t1 x,asK fz t2 y with|some xs,some ys=>xs.length<=ys.length/\P (TR xs ys)|_,_=>False)
 | _=>False
theorem NJ:∀ (xs ys:List D),(TR xs ys).all plain=true
 | [],_=>rfl
 | _::_,[]=>rfl
 | x::xs,y::ys=>by
   show (plain (.tup [x,y])&&(TR xs ys).all plain)=true
   rw [NJ xs ys];rfl
theorem Q3k {t1 t2:Bool}{x y:D}{xs ys:List D}{l1 l2:Addr}(h1:asK fz t1 x=some xs)(h2:asK fz t2 y=some ys)(hl:xs.length<=ys.length):MI W (Q5r W.K t1 t2 l1 l2) [(x,.ref l1),(y,.ref l2)] (TR xs ys):=by
 intro M b H hs hn
 obtain ⟨⟨a1,us,e1,q1,r1⟩,_⟩:=asK.rep (hn _ (.head _)) h1
 obtain ⟨⟨a2,ws,e2,q2,r2⟩,_⟩:=asK.rep (hn _ (.tail _ (.head _))) h2
 cases e1
 cases e2
 have hlen:(TR xs ys).length=xs.length:=by simp [TR];omega
 refine ⟨fun i d e=>?_,fun i hi=>⟨⟨us,q1,by rw [r1.length,<- hlen];exact hi⟩,⟨ws,q2⟩⟩⟩
 have hi:i<xs.length:=by rw [<- hlen];exact (List.getElem?_eq_some_iff.mp e).1
 obtain ⟨u,eu,ru⟩:=r1.get (List.getElem?_eq_getElem hi)
 obtain ⟨w,ew,rw'⟩:=r2.get (List.getElem?_eq_getElem (Nat.lt_of_lt_of_le hi hl))
 refine ⟨⟨us,ws,u,w,q1,eu,q2,ew⟩,fun v H3 ⟨t,y1,y2,ev,ht,eH,k1,k2⟩=>?_⟩
 subst ev eH
 have z1:=k1 us q1
 have z2:=k2 ws q2
 rw [eu] at z1;cases z1
 rw [ew] at z2;cases z2
 refine ⟨Same.upd ht,?_⟩
 have ed:d=.tup [xs[i],ys[i]'(Nat.lt_of_lt_of_le hi hl)]:=by
  have:(TR xs ys)[i]?=some (.tup [xs[i],ys[i]'(Nat.lt_of_lt_of_le hi hl)]):=by
   simp [TR,List.getElem?_zipWith,hi,Nat.lt_of_lt_of_le hi hl]
  rw [this] at e;exact (Option.some.inj e).symm
 subst ed
 exact II hs ⟨u,[w],rfl,ru,w,[],rfl,rw',rfl⟩ ht
theorem Q4b {elts:List Expr}{c1}{tpos:Pos}(hK:X.K=W.K)(t1 t2:Bool)(hg:Gl X "zip") (hm:X.mg "zip" = none) (ha:PA X [a,b] (dnA W dA))
 (h:PI X (.Tuple elts c1 tpos) (.Call (.Name "zip" p) [a,b] [] pos) (J4t W.K t1 t2 (dnA W dA))):PI X (.Tuple elts c1 tpos) (.Call (.Name "zip" p) [a,b] [] pos) (dnI W fz (Q0t fz t1 t2 dA)):=h.mono fun σ H R hh=>hh.elim fun pn M b ρ P st h k=>by
 refine ⟨pn,M,b,ρ,_,st,h,fun zs vs H1 hx rx k1 o1=>?_⟩
 match zs,hx with
 | [x,y],hx =>
   obtain ⟨v,u,rfl,r,r'⟩:=rx2 rx
   dsimp only at hx
   split at hx
   case h_2=>exact hx.elim
   case h_1 xs ys e1 e2 =>
    obtain ⟨⟨a1,us,z1,q1,r1⟩,f1⟩:=asK.rep r e1
    obtain ⟨⟨a2,ws,z2,q2,r2⟩,f2⟩:=asK.rep r' e2
    subst z1 z2
    refine ⟨a1,a2,rfl,⟨us,q1⟩,⟨ws,q2⟩,k _ _ _ H1 hx.2 (NJ _ _) (Q3k e1 e2 hx.1) (fun q hq=>?_) k1 o1⟩
    rcases List.mem_cons.mp hq with z|z
    · subst z;exact ⟨r,f1⟩
    · have z:=List.mem_singleton.mp z
      subst z;exact ⟨r',f2⟩
end
def GD (W:Wd)(g:TG)(gd:D->Ev->(Ev->Prop)->Prop):Prop:=∀ pn M b H σ ρ x v Q P,Sta W pn M b H σ ρ->RepX W M b H x v->plain x=true->gd x ρ P->(∀ ρ' σ',P ρ'->Sta W pn M b H σ' ρ'->(∀ (i:Nat) d,mine d=true->ρ'[i]?=some (some d)->ρ[i]?=some (some d)/\σ'[i]?=σ[i]?)->Q σ' H)->g v σ H Q
theorem Sta.set {W:Wd}{pn:List (D×V)} {H:Hp}{σ:St}{ρ:Ev}{x:D}{v:V}(s:Sta W pn M b H σ ρ)(j:Nat)(r:RepX W M b H x v):Sta W pn M b H (σ.set j (some v)) (ρ.set j (some x)) where
 toHs:=s.toHs
 kp:=s.kp
 new:=s.new
 len:=by simp [s.len]
 pin:=s.pin
 env:=fun i d e=>by
  by_cases z:j=i
  · subst z
    rw [List.getElem?_set] at e
    simp at e
    obtain ⟨hl,rfl⟩:=e
    exact ⟨v,by rw [List.getElem?_set];simp [<- s.len,hl],r⟩
  · rw [List.getElem?_set_ne z] at e
    obtain ⟨w,e1,r1⟩:=s.env i d e
    exact ⟨w,by rw [List.getElem?_set_ne z];exact e1,r1⟩
theorem NF {ρ:Ev}{σ:St}{j:Nat}{x:D}{v:V}(p:plain x=true):∀ (i:Nat) d,mine d=true->(ρ.set j (some x))[i]?=some (some d)->ρ[i]?=some (some d)/\(σ.set j (some v))[i]?=σ[i]?:=fun i d hm e=>by
 by_cases z:j=i
 · subst z
   rw [List.getElem?_set] at e
   simp at e
   obtain ⟨hl,rfl⟩:=e
   cases x<;>first|(cases hm;done)|(cases p;done)
 · rw [List.getElem?_set_ne z] at e
   exact ⟨e,by rw [List.getElem?_set_ne z]⟩
def gdN (j:Nat):D->Ev->(Ev->Prop)->Prop:=fun x ρ P=>P (ρ.set j (some x))
theorem V4 {W:Wd}(j:Nat):GD W (VH j) (gdN j):=fun pn M b H σ ρ x v Q P st r p h k=>k _ _ h (st.set j r) (NF p)
def FQ:List Nat->List D->Ev->Ev
 | j::js,x::xs,ρ=>FQ js xs (ρ.set j (some x))
 | _,_,ρ=>ρ
def HY:List Nat->TGs
 | []=>Q7o
 | j::js=>Q0w (VH j) (HY js)
def Q7n (K:Fg)(n:Nat)(t:TGs):TG:=fun v σ H Q=>Q3p K n t v σ H Q\/Q7p K n t v σ H Q
def gdU (js:List Nat):D->Ev->(Ev->Prop)->Prop:=fun x ρ P=>match x with
 | .tup xs=>xs.length=js.length/\P (FQ js xs ρ)
 | .lst xs=>xs.length=js.length/\P (FQ js xs ρ)
 | _=>False
theorem OV {W:Wd}{pn:List (D×V)} {H:Hp}{Q:St->Hp->Prop}{P:Ev->Prop}:∀ (js:List Nat) (xs:List D) (vs:List V) (σ:St) (ρ:Ev),Sta W pn M b H σ ρ->Reps W.K M H xs vs->xs.length=js.length->P (FQ js xs ρ)->(∀ ρ' σ',P ρ'->Sta W pn M b H σ' ρ'->(∀ (i:Nat) d,mine d=true->ρ'[i]?=some (some d)->ρ[i]?=some (some d)/\σ'[i]?=σ[i]?)->Q σ' H)->HY js vs σ H Q
 | [],[],vs,σ,ρ,st,r,hl,h,k=>⟨r,k _ _ h st fun _ _ _ e=>⟨e,rfl⟩⟩
 | j::js,x::xs,vs,σ,ρ,st,r,hl,h,k=>by
   obtain ⟨v,us,rfl,r1,r2⟩:=r
   refine ⟨v,us,rfl,?_⟩
   have p:plain x=true:=by cases x<;>first|rfl|exact r1.elim
   refine OV js xs us _ (ρ.set j (some x)) (st.set j r1.x) r2 (by simpa using hl) h fun ρ' σ' hp st' ho=>k ρ' σ' hp st' fun i xs hm e=>?_
   obtain ⟨z1,z2⟩:=ho i xs hm e
   obtain ⟨z3,z4⟩:=NF (v:=v) (σ:=σ) p i xs hm z1
   exact ⟨z3,z2.trans z4⟩
theorem BR {W:Wd}(js:List Nat):GD W (Q7n W.K js.length (HY js)) (gdU js):=fun pn M b H σ ρ x v Q P st r p h k=>by
 cases x<;>first|exact h.elim|skip
 case tup xs =>
  obtain ⟨a,vs,rfl,hh,r⟩:=r
  exact .inl ⟨a,vs,rfl,hh.sq,by rw [r.length];exact h.1,OV js xs vs σ ρ st r h.1 h.2 k⟩
 case lst xs =>
  obtain ⟨a,vs,rfl,hh,r⟩:=r
  exact .inr ⟨a,vs,rfl,SqL.of hh.2,by rw [r.length];exact h.1,OV js xs vs σ ρ st r h.1 h.2 k⟩
theorem PG.or {X:Cx}{tg:Expr}{t u:TG}(h:PG X tg t)(h':PG X tg u):PG X tg (fun v σ H Q=>t v σ H Q\/u v σ H Q):=by
 intro pins s σ H v u' Q I r q
 rcases q with q|q
 · exact h pins s σ H v u' Q I r q
 · exact h' pins s σ H v u' Q I r q
theorem gkeep_seq {js:List Nat}{n:Nat}{map:List (Option Nat)}(hj:∀ j∈js,map[j]?=some none):IE (Q7n K n (HY js)) map:=by
 have key:∀ (js:List Nat),(∀ j∈js,map[j]?=some none)->∀ vs σ H Q,HY js vs σ H Q->HY js vs σ H fun σ' H'=>(σ'.length=σ.length/\∀ j i:Nat,map[j]?=some (some i)->σ'[j]?=σ[j]?)/\Q σ' H':=by
  intro js
  induction js with
  | nil=>intro _ vs σ H Q h;exact ⟨h.1,⟨rfl,fun _ _ _=>rfl⟩,h.2⟩
  | cons j js ih =>
    intro hj vs σ H Q h
    obtain ⟨v,r,e,h⟩:=h
    refine ⟨v,r,e,?_⟩
    have q:=ih (fun j' m=>hj j' (.tail _ m)) r _ H _ h
    have mono:∀ (js:List Nat) vs σ H (Q Q':St->Hp->Prop),(∀ s h,Q s h->Q' s h)->HY js vs σ H Q->HY js vs σ H Q':=by
     intro js
     induction js with
     | nil=>intro vs σ H Q Q' m h;exact ⟨h.1,m _ _ h.2⟩
     | cons j js ih=>intro vs σ H Q Q' m ⟨v,r,e,h⟩;exact ⟨v,r,e,ih _ _ _ _ _ m h⟩
    refine mono js r _ H _ _ (fun s h ⟨⟨l,z⟩,w⟩=>⟨⟨by rw [l];simp,fun j' i hm=>?_⟩,w⟩) q
    rw [z j' i hm]
    have n1:j≠j':=fun z=>by
     have:=hj j (.head _)
     rw [z,hm] at this;cases this
    rw [List.getElem?_set_ne n1]
 intro v σ H Q h
 rcases h with ⟨a,xs,e,s,l,h⟩|⟨a,xs,e,s,l,h⟩
 · exact .inl ⟨a,xs,e,s,l,key js hj _ _ _ _ h⟩
 · exact .inr ⟨a,xs,e,s,l,key js hj _ _ _ _ h⟩
def FL (ρ:Ev)(map:List (Option Nat)):Ev:=map.map fun o=>o.bind fun i=>(ρ[i]?).join
def SO (gd:D->Ev->(Ev->Prop)->Prop)(dt:DT)(de:DE)(ρc:Ev):List D->List D->(List D->Prop)->Prop
 | [],acc,P=>P acc
 | x::xs,acc,P=>gd x ρc fun ρ1=>dt ρ1 fun c=>IfP c (de ρ1 fun y=>plain y=true/\SO gd dt de ρc xs (acc++[y]) P) (SO gd dt de ρc xs acc P)
inductive compI (gd:D->Ev->(Ev->Prop)->Prop)(dt:DT)(de:DE)(ρc:Ev)(items:List D)(P:List D->Prop):Prop
 | mk (I:Nat->List D->Prop) (h0:I 0 []) (hs:∀ (i:Nat) x acc,items[i]?=some x->I i acc->gd x ρc fun ρ1=>dt ρ1 fun c=>IfP c (de ρ1 fun y=>plain y=true/\I (i+1) (acc++[y])) (I (i+1) acc)) (hd:∀ acc,I items.length acc->P acc):compI gd dt de ρc items P
theorem J5v {gd:D->Ev->(Ev->Prop)->Prop}{dt:DT}{de:DE}{ρc:Ev}{items:List D}{P:List D->Prop}(h:SO gd dt de ρc items [] P):compI gd dt de ρc items P:=by
 refine ⟨fun i acc=>SO gd dt de ρc (items.drop i) acc P,h,fun i x acc e q=>?_,fun acc q=>?_⟩
 · obtain ⟨hlt,rfl⟩:=List.getElem?_eq_some_iff.mp e
   try dsimp only at q
   rw [List.drop_eq_getElem_cons hlt] at q
   exact q
 · (try dsimp only at q);rw [List.drop_length] at q;exact q
def Q1j (map:List (Option Nat))(gd:D->Ev->(Ev->Prop)->Prop)(di:DA)(dt:DT)(de:DE):DE:=fun ρ P=>di ρ fun items=>items.length<=1000/\compI gd dt de (FL ρ map) items fun acc=>P (.lst acc)
theorem Sta.capt {W:Wd}{pn:List (D×V)} {H:Hp}{σ:St}{ρ:Ev}(s:Sta W pn M b H σ ρ)(map:List (Option Nat)):Sta W pn M b H (capt σ map) (FL ρ map) where
 toHs:=s.toHs
 kp:=s.kp
 new:=s.new
 len:=by simp [L2.capt,FL]
 pin:=s.pin
 env:=fun j d e=>by
  unfold FL at e
  rw [List.getElem?_map] at e
  simp only [Option.map_eq_some_iff] at e
  obtain ⟨o,e1,e2⟩:=e
  simp only [Option.bind_eq_some_iff] at e2
  obtain ⟨i,rfl,e3⟩:=e2
  have e4:ρ[i]?=some (some d):=by
   cases q:ρ[i]? with
   | none=>rw [q] at e3;cases e3
   | some z=>rw [q] at e3;exact congrArg some e3
  obtain ⟨v,e5,r⟩:=s.env i d e4
  exact ⟨v,by unfold L2.capt;rw [List.getElem?_map,e1];simp [e5],r⟩
theorem HE {W:Wd}{pn:List (D×V)}{M:Addr->Prop}{b:Option Addr}{H:Hp}{σ:St}{ρ:Ev}{J:It}{need:List (D×V)}{items:List D}{g:TG}{gd:D->Ev->(Ev->Prop)->Prop}{dt:DT}{de:DE}{P:List D->Prop}{Fin:List V->Hp->Prop}
 (hG:GD W g gd) (st:Sta W pn M b H σ ρ) (hp:items.all plain=true) (hI:MI W J need items) (hn:∀ q∈need,RepX W M b H q.1 q.2) (hl:items.length<=1000) (h:compI gd dt de ρ items P)
 (fin:∀ ds acc H',P ds->Reps W.K M H' ds acc->acc.length<=sizeLine->Kp b H H'->okB W.B b H'->Fin acc H'):∃ Wf:Nat->Nat->List V->Hp->Prop,(∃ m,Wf 0 m [] H)/\MR J g (dnT W dt) (dn W de) σ Fin Wf:=by
 obtain ⟨I,i0,istep,idone⟩:=h
 refine ⟨fun i m acc H2=>m=items.length - i/\i<=items.length/\acc.length<=i/\Kp b H H2/\okB W.B b H2/\∃ ds,Reps W.K M H2 ds acc/\I i ds,⟨items.length,by simp,Nat.zero_le _,Nat.le_refl _,Kp.refl _ _,st.ok,[],rfl,i0⟩,?_⟩
 rintro i m acc H2 ⟨rfl,hi,ha,k2,o2,ds,r,q⟩
 have st2:=st.step k2 o2
 obtain ⟨hgo,hstop⟩:=hI M b H2 st2.toHs fun q hq=>(hn q hq).step st.bagM k2
 by_cases hlt:i<items.length
 · have ei:items[i]?=some items[i]:=List.getElem?_eq_getElem hlt
   replace q:=istep i _ ds ei q
   refine .inr ⟨(hgo i _ ei).1,by have:=BQ;omega,fun acc' H'=>acc'.length<=i+1/\Kp b H H'/\okB W.B b H'/\∃ ds,Reps W.K M H' ds acc'/\I (i+1) ds,fun acc' H' n=>⟨items.length - (i+1),by omega,rfl,hlt,n⟩,fun x H3 y=>?_⟩
   obtain ⟨S3,rx⟩:=(hgo i _ ei).2 x H3 y
   have o3:okB W.B b H3:=fun p e=>W.B.st p H2 H3 (o2 p e) fun o e'=>S3 p o e'
   have k3:Kp b H2 H3:=Kp.same S3
   have st3:=st2.step k3 o3
   refine hG pn M b H3 σ ρ items[i] x _ _ st3 rx (List.all_eq_true.mp hp _ (List.getElem_mem hlt)) q fun ρ1 σ1 h1 st4 _=>?_
   refine ⟨pn,M,b,ρ1,_,st4,h1,fun c H5 h5 k5 o5=>?_⟩
   cases h5 with
   | t e h5 =>
     rw [if_pos e]
     refine ⟨pn,M,b,ρ1,_,st4.step k5 o5,h5,fun y v H6 h6 ry k6 o6=>?_⟩
     have kk:=((k3.trans k5).trans k6)
     refine ⟨by simp;omega,k2.trans kk,o6,ds++[y],Reps.append (Reps.keep (fun c o n e=>kk c o (fun z=>n (st.bagM c z)) e) _ _ r) ⟨v,[],rfl,ry.rep h6.1,rfl⟩,h6.2⟩
   | f e h5 =>
     rw [if_neg (by rw [e];exact Bool.false_ne_true)]
     have kk:=k3.trans k5
     exact ⟨by omega,k2.trans kk,o5,ds,Reps.keep (fun c o n e=>kk c o (fun z=>n (st.bagM c z)) e) _ _ r,h5⟩
 · have e:i=items.length:=by omega
   subst e
   exact .inl ⟨hstop _ (Nat.le_refl _),by have:=BQ;omega,fin ds acc H2 (idone _ q) r (by have:=BQ;omega) k2 o2⟩
section
variable {X:Cx}{W:Wd}{elt iter tg:Expr}{ifs:List Expr}{scope:Scope}{pos:Pos}{N':List Str}{map:List (Option Nat)}{g:TG}{gd:D->Ev->(Ev->Prop)->Prop}{di:DA}{dt:DT}{de:DE}
theorem J9p (hG:GD W g gd)(B:Blk X N' scope map tg elt ifs g (dnT W dt) (dn W de))(hi:PI X tg iter (dnI W false di))(hs:∀ x,foldedSetIterable iter X.env x=pure x:=by intro _;rfl):PE X (.ListComp elt [⟨tg,iter,ifs,0⟩] scope pos) (dn W (Q1j map gd di dt de)):=(NE B hi hs).mono fun σ H Q hh=>hh.elim fun pn M b ρ P st h k=>by
 refine ⟨pn,M,b,ρ,_,st,h,fun items J need H1 hx hp hI hn k1 o1=>?_⟩
 have st1:=st.step k1 o1
 refine HE hG (st1.capt map) hp hI (fun q hq=>(hn q hq).1) hx.1 hx.2 fun ds acc H' hP r hl k2 o2 D hD=>?_
 exact k _ _ _ hP (DD (st1.step k2 o2).toHs r hD) ((k1.trans k2).trans (Kp.upd hD)) ((st1.step k2 o2).okU hD)
def MN:DT:=fun _ P=>P true
theorem J9n:PIf X [] (dnT W MN):=fun pins s σ H Q I hh=>hh.elim fun pn M b ρ P st h k=>J7v pins s σ H Q I (k true H h (Kp.refl _ _) st.ok)
theorem J9m {c:Expr}(hc:PT X c (dnT W dt)):PIf X [c] (dnT W dt):=J7u hc
end
structure StS (W:Wd)(pn:List (D×V))(M:Addr->Prop)(b:Option Addr)(H:Hp)(σ:St)(ρ:Ev):Prop extends Sta W pn M b H σ ρ where
 dj:∀ (i j:Nat) d e v u c,ρ[i]?=some (some d)->ρ[j]?=some (some e)->σ[i]?=some (some v)->σ[j]?=some (some u)->GF d v c->GF e u c->i=j
 lj:∀ ys a,(D.own ys,V.ref a)∈pn->∀ (i:Nat) d v,ρ[i]?=some (some d)->σ[i]?=some (some v)->¬ GF d v a
theorem StS.own {W:Wd}{pn:List (D×V)} {H:Hp}{σ:St}{ρ:Ev}(s:StS W pn M b H σ ρ):∀ (i j:Nat) xs ys a,ρ[i]?=some (some (.own xs))->ρ[j]?=some (some (.own ys))->σ[i]?=some (some (.ref a))->σ[j]?=some (some (.ref a))->i=j:=fun i j xs ys a e1 e2 e3 e4=>s.dj i j _ _ _ _ a e1 e2 e3 e4 rfl rfl
theorem StS.lk {W:Wd}{pn:List (D×V)} {H:Hp}{σ:St}{ρ:Ev}(s:StS W pn M b H σ ρ):∀ ys a,(D.own ys,V.ref a)∈pn->∀ (i:Nat) xs,ρ[i]?=some (some (.own xs))->σ[i]?≠some (some (.ref a)):=fun ys a hq i xs e y=>s.lj ys a hq i _ _ e y rfl
theorem StS.step {W:Wd}{pn:List (D×V)} {H H':Hp}{σ:St}{ρ:Ev}(s:StS W pn M b H σ ρ)(k:Kp b H H')(o:okB W.B b H'):StS W pn M b H' σ ρ:=⟨s.toSta.step k o,s.dj,s.lj⟩
theorem StS.of2 {W:Wd}{pn pn':List (D×V)}{M M':Addr->Prop}{b b':Option Addr}{H H':Hp}{σ σ':St}{ρ ρ':Ev}(s:StS W pn M b H σ ρ)(t:Sta W pn' M' b' H' σ' ρ')(hp:∀ ys a,(D.own ys,V.ref a)∈pn'->(D.own ys,V.ref a)∈pn)(h:∀ (i:Nat) d v c,ρ'[i]?=some (some d)->σ'[i]?=some (some v)->GF d v c->∃ d0,ρ[i]?=some (some d0)/\σ[i]?=some (some v)/\GF d0 v c):StS W pn' M' b' H' σ' ρ' :=
 ⟨t,fun i j d e v u c e1 e2 e3 e4 m1 m2=>by
  obtain ⟨d0,z1,z2,z3⟩:=h i d v c e1 e3 m1
  obtain ⟨d1,y1,y2,y3⟩:=h j e u c e2 e4 m2
  exact s.dj i j d0 d1 v u c z1 y1 z2 y2 z3 y3,fun ys a hq i d v e1 e2 m=>by
  obtain ⟨d0,z1,z2,z3⟩:=h i d v a e1 e2 m
  exact s.lj ys a (hp ys a hq) i d0 v z1 z2 z3⟩
theorem StS.of {W:Wd}{pn:List (D×V)}{M M':Addr->Prop}{b b':Option Addr}{H H':Hp}{σ σ':St}{ρ ρ':Ev}(s:StS W pn M b H σ ρ)(t:Sta W pn M' b' H' σ' ρ')(h:∀ (i:Nat) d,mine d=true->ρ'[i]?=some (some d)->ρ[i]?=some (some d)/\σ'[i]?=σ[i]?):StS W pn M' b' H' σ' ρ' :=
 s.of2 t (fun _ _ q=>q) fun i d v c e1 e2 m=>by
  obtain ⟨z1,z2⟩:=h i d m.m e1
  exact ⟨d,z1,z2▸e2,m⟩
theorem StS.add {W:Wd}{pn:List (D×V)}{M M':Addr->Prop}{b b':Option Addr}{H H':Hp}{σ:St}{ρ:Ev}(s:StS W pn M b H σ ρ)(i:Nat){d:D}{v:V}(t:Sta W pn M' b' H' (σ.set i (some v)) (ρ.set i (some d)))(h:∀ c,GF d v c->¬ M c):StS W pn M' b' H' (σ.set i (some v)) (ρ.set i (some d)):=by
 have slot:∀ (j:Nat) e u,(ρ.set i (some d))[j]?=some (some e)->(σ.set i (some v))[j]?=some (some u)->(j=i/\e=d/\u=v)\/(j≠i/\ρ[j]?=some (some e)/\σ[j]?=some (some u)):=fun j e u e1 e2=>by
  by_cases z:i=j
  · subst z
    rw [List.getElem?_set] at e1 e2
    simp at e1 e2
    exact .inl ⟨rfl,e1.2.symm,e2.2.symm⟩
  · rw [List.getElem?_set_ne z] at e1 e2
    exact .inr ⟨fun y=>z y.symm,e1,e2⟩
 have old:∀ (j:Nat) e u c,ρ[j]?=some (some e)->σ[j]?=some (some u)->GF e u c->M c:=fun j e u c e1 e2 m=>by
  obtain ⟨w,e3,r⟩:=s.env j e e1
  rw [e2] at e3;cases e3
  exact (r.mine m).1
 refine ⟨t,fun j k e f u w c e1 e2 e3 e4 m1 m2=>?_,fun ys a hq j e u e1 e2 m=>?_⟩
 · rcases slot j e u e1 e3 with ⟨z1,z2,z3⟩|⟨z1,z2,z3⟩<;>rcases slot k f w e2 e4 with ⟨y1,y2,y3⟩|⟨y1,y2,y3⟩
   · rw [z1,y1]
   · subst z2 z3;exact absurd (old k f w c y2 y3 m2) (h c m1)
   · subst y2 y3;exact absurd (old j e u c z2 z3 m1) (h c m2)
   · exact s.dj j k e f u w c z2 y2 z3 y3 m1 m2
 · rcases slot j e u e1 e2 with ⟨z1,z2,z3⟩|⟨z1,z2,z3⟩
   · subst z2 z3
     obtain ⟨a2,us2,ev,n1,_⟩:=(s.pin _ hq)
     cases ev
     exact absurd n1 (h a m)
   · exact s.lj ys a hq j e u z2 z3 m
structure DEnds where
 nx:Ev->Prop
 rt:D->Prop
 bk:Ev->Prop:=fun _=>False
 ct:Ev->Prop:=fun _=>False
 ro:List D->Prop:=fun _=>False
abbrev DS:=DEnds->Ev->Prop
structure Link (W:Wd)(pn:List (D×V))(E:Ends)(F:DEnds):Prop where
 nx:∀ M b ρ σ H,StS W pn M b H σ ρ->F.nx ρ->E.nx σ H
 rt:∀ d v H,F.rt d->Rep W.K W.M0 H d v->Kp W.b0 W.H0 H->okB W.B W.b0 H->E.rt v H
 bk:∀ M b ρ σ H,StS W pn M b H σ ρ->F.bk ρ->E.bk σ H
 ct:∀ M b ρ σ H,StS W pn M b H σ ρ->F.ct ρ->E.ct σ H
 ro:∀ xs a vs H,F.ro xs->W.H0 a=none->¬ W.M0 a->H a=some (.lst vs)->Reps W.K (fun c=>W.M0 c\/c=a) H xs vs->Kp W.b0 W.H0 H->okB W.B W.b0 H->E.rt (.ref a) H
def sn (W:Wd)(d:DS):TS:=fun E σ H=>∃ pn M b ρ F,StS W pn M b H σ ρ/\Link W pn E F/\d F ρ
theorem sn.elim {W:Wd}{d:DS}{E:Ends}{σ:St}{H:Hp}{Z:Prop}(h:sn W d E σ H)(f:∀ pn M b ρ F,StS W pn M b H σ ρ->Link W pn E F->d F ρ->Z):Z:=by
 obtain ⟨pn,M,b,ρ,F,s,l,h⟩:=h
 exact f pn M b ρ F s l h
section
variable {X:Cx}{W:Wd}{e a b c tg iter l:Expr}{es:List Expr}{pos p:Pos}{d db de:DE}{dA di:DA}{dt:DT}{st:Stmt}{rest sts:List Stmt}{d1 d2:DS}{t:TS}
theorem PS.mono {t':TS}(h:PS X st t)(m:∀ E σ H,t' E σ H->t E σ H):PS X st t':=fun pins s σ H D I q=>h pins s σ H D I (m D σ H q)
theorem PSs.mono {t':TS}(h:PSs X sts t)(m:∀ E σ H,t' E σ H->t E σ H):PSs X sts t':=fun pins s σ H D I q=>h pins s σ H D I (m D σ H q)
def Q1h:DS:=fun F ρ=>F.nx ρ
def Q4t (d1 d2:DS):DS:=fun F ρ=>d1 { F with nx:=d2 F } ρ
theorem J9c:PSs X [] (sn W Q1h):=KE.mono fun E σ H hh=>hh.elim fun pn M b ρ F s l h=>l.nx _ _ _ _ _ s h
theorem J9b (h:PS X st (sn W d1)):PSs X [st] (sn W d1):=DB h
theorem J5e (h1:PS X st (sn W d1))(h2:PSs X rest (sn W d2)):PSs X (st::rest) (sn W (Q4t d1 d2)):=(BI h1 h2).mono fun E σ H hh=>hh.elim fun pn M b ρ F s l h=>⟨pn,M,b,ρ,{ F with nx:=d2 F },s,⟨fun M b ρ σ H s' h'=>⟨pn,M,b,ρ,F,s',l,h'⟩,l.rt,l.bk,l.ct,l.ro⟩,h⟩
def Q8h:DS:=fun F ρ=>F.ct ρ
theorem VL:PS X (.Continue pos) (sn W Q8h):=UK.mono fun E σ H hh=>hh.elim fun pn M b ρ F s l h=>l.ct _ _ _ _ _ s h
def Q8c (de:DE):DS:=fun F ρ=>de ρ fun x=>match x with|.own xs=>F.rt (.lst xs)|.bag=>False|.frg _ _=>False|x=>F.rt x
theorem J7n {b:Option Addr}{H:Hp}{x:D}{v:V}(hs:Hs W M b H)(r:Rep W.K M H x v):Rep W.K W.M0 H x v:=Rep.avoid (fun c m=>.inl (hs.m0 c m)) _ _ r
theorem Q3w (he:PE X e (dn W de)):PS X (.Return (some e) pos) (sn W (Q8c de)):=(FY he).mono fun E σ H hh=>hh.elim fun pn M b ρ F s l h=>by
 refine ⟨pn,M,b,ρ,_,s.toSta,h,fun x v H' hx rx k o=>?_⟩
 have s':=s.toSta.step k o
 cases x
 case own xs =>
  obtain ⟨a,vs,rfl,m,n,n0,m0,hh,r⟩:=rx
  exact l.rt _ _ H' hx ⟨a,vs,rfl,⟨m0,hh⟩,Reps.avoid (fun c m=>.inl (s'.m0 c m)) _ _ r⟩ s'.kp s'.ok0
 case bag=>exact hx.elim
 case frg=>exact hx.elim
 all_goals exact l.rt _ _ H' hx (J7n s'.toHs (RepX.rep rx rfl)) s'.kp s'.ok0
def Q1i (de:DE):DS:=fun F ρ=>de ρ fun _=>F.nx ρ
theorem J9g (he:PE X e (dn W de))(hs:swapsWith e none pos.line X.env=pure false:=by rfl):PS X (.Expr e pos) (sn W (Q1i de)):=(GT he hs).mono fun E σ H hh=>hh.elim fun pn M b ρ F s l h=>⟨pn,M,b,ρ,_,s.toSta,h,fun x v H' hx rx k o=>l.nx _ _ _ _ _ (s.step k o) hx⟩
def Q8g (dt:DT)(d1 d2:DS):DS:=fun F ρ=>dt ρ fun c=>IfP c (d1 F ρ) (d2 F ρ)
theorem Q7t {s1 s2:List Stmt}(hc:PT X c (dnT W dt))(ha:PSs X s1 (sn W d1))(hb:PSs X s2 (sn W d2)):PS X (.If c s1 s2 pos) (sn W (Q8g dt d1 d2)):=(ZA hc ha hb).mono fun E σ H hh=>hh.elim fun pn M b ρ F s l h=>by
 refine ⟨pn,M,b,ρ,_,s.toSta,h,fun x H' hx k o=>?_⟩
 cases hx with
 | t e hx=>rw [if_pos e];exact ⟨pn,M,b,ρ,F,s.step k o,l,hx⟩
 | f e hx=>rw [if_neg (by rw [e];exact Bool.false_ne_true)];exact ⟨pn,M,b,ρ,F,s.step k o,l,hx⟩
def J5t (de:DE)(gd:D->Ev->(Ev->Prop)->Prop):DS:=fun F ρ=>de ρ fun x=>plain x=true/\gd x ρ F.nx
theorem J2t {g:TG}{gd:D->Ev->(Ev->Prop)->Prop}(hG:GD W g gd):∀ E σ H,sn W (J5t de gd) E σ H->J7c (dn W de) g E σ H:=fun E σ H hh=>hh.elim fun pn M b ρ F s l h=>by
 refine ⟨pn,M,b,ρ,_,s.toSta,h,fun x v H' hx rx k o=>?_⟩
 exact hG pn M b H' σ ρ x v E.nx F.nx (s.toSta.step k o) rx hx.1 hx.2 fun ρ' σ' hp st' ho=>l.nx _ _ _ _ _ (s.of st' ho) hp
theorem Q3v {i:Nat} {x:Str} {pos':Pos} (hN:X.N.Nodup) (hi:X.N[i]?=some x) (hx:Loc X.env.scope x) (he:PE X e (dn W de)) (hs:swapsWith e (some (.Name x pos')) pos.line X.env=pure false:=by rfl) (hf:X.fn x=true\/X.env.scope.names.lookup x=some .local:=by first|exact .inl rfl|exact .inr rfl|assumption) :
 PS X (.Assign [.Name x pos'] e pos) (sn W (J5t de (gdN i))):=(EF hN hi hx he hs hf).mono (J2t (V4 i))
theorem Q4a {g:TG}{gd:D->Ev->(Ev->Prop)->Prop}(hG:GD W g gd)(he:PE X e (dn W de))(hg:PG X tg g)(hs:swapsWithSole [tg] e pos.line X.env=pure false:=by rfl)(hw:swappedStores [tg] e X.env=pure none:=by rfl)
 (h1:(assignEach [tg] X.env).map (·.2)=[assign tg X.env]:=by rfl):PS X (.Assign [tg] e pos) (sn W (J5t de gd)):=(LM he hg hs hw h1).mono (J2t hG)
theorem StS.newOwn {pn:List (D×V)} {b:Option Addr}{H:Hp}{σ:St}{ρ:Ev}{xs:List D}{vs:List V}{p:Addr}(s:StS W pn M b H σ ρ)(i:Nat)(r:Reps W.K M H xs vs)(h:H p=none) :
 StS W pn (fun c=>M c\/c=p) b (upd H p (.lst vs)) (σ.set i (some (.ref p))) (ρ.set i (some (.own xs))):=by
 have hM:∀ c,(M c\/c=p)->M c\/H c=none:=fun c hc=>hc.imp id (fun z=>by rw [z];exact h)
 have kk:∀ c o,H c=some o->upd H p (.lst vs) c=some o:=fun c o e=>Same.upd h c o e
 have rep:∀ d v,Rep W.K M H d v->Rep W.K (fun c=>M c\/c=p) (upd H p (.lst vs)) d v:=fun d v r=>Rep.keep (fun c o _ e=>kk c o e) _ _ (Rep.avoid hM _ _ r)
 have reps:∀ d v,Reps W.K M H d v->Reps W.K (fun c=>M c\/c=p) (upd H p (.lst vs)) d v:=fun d v r=>Reps.keep (fun c o _ e=>kk c o e) _ _ (Reps.avoid hM _ _ r)
 have hbp:b≠some p:=fun z=>by
  obtain ⟨o,e⟩:=W.B.dm p H (s.ok p z)
  rw [h] at e;cases e
 have h0:W.H0 p=none:=by
  cases q:W.H0 p with
  | none=>rfl
  | some o =>
    by_cases z:W.b0=some p
    · rcases s.new with y|⟨y,_⟩
      · exact absurd (y.trans z) hbp
      · rw [y] at z;cases z
    · have:=s.kp p o z q
      rw [h] at this;cases this
 have hm0:¬ W.M0 p:=fun z=>s.toHs.new h (s.m0 p z)
 refine s.add i ⟨⟨s.toHs.okU h,fun q e=>.inl (s.bagM q e),fun c hc=>?_,fun c m=>.inl (s.m0 c m)⟩,fun c o n e=>kk c o (s.kp c o n e),s.new,fun j d e=>?_,by simp [s.len],fun q hq=>(s.pin q hq).to rep reps fun xs a vs _ _ m n hh=>⟨.inl m,n,kk _ _ hh⟩⟩ fun c m=>by
  cases (show V.ref p=V.ref c from m)
  exact s.toHs.new h
 · rcases hc with hc|hc
   · obtain ⟨o,e⟩:=s.dom c hc;exact ⟨o,kk c o e⟩
   · rw [hc];exact ⟨_,V8⟩
 · by_cases z:i=j
   · subst z
     rw [List.getElem?_set] at e
     simp at e
     obtain ⟨hl,rfl⟩:=e
     exact ⟨.ref p,by rw [List.getElem?_set];simp [<- s.len,hl],p,vs,rfl,.inr rfl,hbp,h0,hm0,V8,reps _ _ r⟩
   · rw [List.getElem?_set_ne z] at e
     obtain ⟨w,e1,r1⟩:=s.env j d e
     refine ⟨w,by rw [List.getElem?_set_ne z];exact e1,?_⟩
     cases d
     case own ys =>
      obtain ⟨a,us,rfl,m1,m2,m3,m4,hh,r'⟩:=r1
      exact ⟨a,us,rfl,.inl m1,m2,m3,m4,kk _ _ hh,reps _ _ r'⟩
     case bag=>exact r1
     case frg f _=>exact RepX.move r1 (fun c _ m n=>⟨.inl m,n⟩) (fun c o _ e=>kk c o e) hM
     all_goals exact rep _ _ r1
theorem StS.setOwn {pn:List (D×V)} {b:Option Addr}{H:Hp}{σ:St}{ρ:Ev}{xs ys:List D}{vs:List V}{a:Addr}(s:StS W pn M b H σ ρ)(i:Nat)(e:ρ[i]?=some (some (.own xs)))(ea:σ[i]?=some (some (.ref a)))(r:Reps W.K M H ys vs) :
 StS W pn M b (upd H a (.lst vs)) σ (ρ.set i (some (.own ys))):=by
 obtain ⟨v,e1,a',us,ev,m1,m2,m3,m4,hh,r'⟩:=s.env i _ e
 rw [ea] at e1;cases e1;cases ev
 have kk:∀ c o,¬ M c->H c=some o->upd H a (.lst vs) c=some o:=fun c o n q=>by rw [V3 (show c≠a from fun z=>n (by rw [z];exact m1))];exact q
 have kb:∀ c o,c≠a->H c=some o->upd H a (.lst vs) c=some o:=fun c o n q=>by rw [V3 n];exact q
 refine s.of2 ⟨⟨fun q z=>W.B.st q H _ (s.ok q z) fun o h=>kb q o (fun w=>m2 (w▸z)) h,s.bagM,fun c hc=>?_,s.m0⟩,fun c o n q=>kb c o (fun z=>by rw [z,m3] at q;cases q) (s.kp c o n q),s.new,fun j d e'=>?_,by simp [s.len],fun q hq=>(s.pin q hq).to (fun _ _ r=>Rep.keep kk _ _ r) (fun _ _ r=>Reps.keep kk _ _ r) fun zs a2 us ed ev m n hh2=>⟨m,n,kb _ _ (fun y=>s.lk zs a2 (by rw [<- ed,<- ev];exact hq) i xs e (by rw [y];exact ea)) hh2⟩⟩ (fun _ _ q=>q) fun j d v c e' e2 m=>?_
 · by_cases z:c=a
   · rw [z];exact ⟨_,V8⟩
   · obtain ⟨o,q⟩:=s.dom c hc;exact ⟨o,kb c o z q⟩
 · by_cases z:i=j
   · subst z
     rw [List.getElem?_set] at e'
     simp at e'
     obtain ⟨hl,rfl⟩:=e'
     exact ⟨.ref a,ea,a,vs,rfl,m1,m2,m3,m4,V8,Reps.keep kk _ _ r⟩
   · rw [List.getElem?_set_ne z] at e'
     obtain ⟨w,e1,r1⟩:=s.env j d e'
     refine ⟨w,e1,?_⟩
     cases d
     case own zs =>
      obtain ⟨a2,us2,rfl,n1,n2,n3,n4,hh2,r2⟩:=r1
      have na:a2≠a:=fun y=>z (s.own i j xs zs a e e' ea (y▸e1))
      exact ⟨a2,us2,rfl,n1,n2,n3,n4,kb _ _ na hh2,Reps.keep kk _ _ r2⟩
     case bag=>exact r1
     case frg f _ =>
      have na:a∉f.ads:=fun y=>z (s.dj i j _ _ _ _ a e e' ea e1 rfl y)
      exact RepX.move r1 (fun c _ m n=>⟨m,n⟩) (fun c o q h=>kb c o (fun y=>q.elim (fun n=>n (by rw [y];exact m1)) (fun n=>na (by rw [<- y];exact n))) h) fun c m=>.inl m
     all_goals exact Rep.keep kk _ _ r1
 · by_cases z:i=j
   · subst z
     rw [List.getElem?_set] at e'
     simp at e'
     obtain ⟨_,rfl⟩:=e'
     exact ⟨_,e,e2,m⟩
   · rw [List.getElem?_set_ne z] at e'
     exact ⟨d,e',e2,m⟩
def Q1g (i:Nat)(dA:DA):DS:=fun F ρ=>dA ρ fun xs=>JP xs=true/\F.nx (ρ.set i (some (.own xs)))
theorem J9f {i:Nat} {x:Str} {pos' lpos:Pos} (hN:X.N.Nodup) (hi:X.N[i]?=some x) (hx:Loc X.env.scope x) (ha:PA X es (dnA W dA)) (hs:swapsWith (.List es lpos) (some (.Name x pos')) pos.line X.env=pure false:=by rfl) (hf:X.fn x=true\/X.env.scope.names.lookup x=some .local:=by first|exact .inl rfl|exact .inr rfl|assumption) :
 PS X (.Assign [.Name x pos'] (.List es lpos) pos) (sn W (Q1g i dA)):=(EF hN hi hx (WV ha) hs hf).mono fun E σ H hh=>hh.elim fun pn M b ρ F s l h=>by
 refine ⟨pn,M,b,ρ,_,s.toSta,h,fun xs vs H' hx rx k o=>?_⟩
 have rr:=rx.reps _ _ (JP.pl hx.1)
 exact ⟨by rw [rr.length];exact JP.len hx.1,fun q hq=>l.nx _ _ _ _ _ ((s.step k o).newOwn i rr hq) hx.2⟩
def Q1f (own:Bool)(i:Nat)(map:List (Option Nat))(gd:D->Ev->(Ev->Prop)->Prop)(di:DA)(dt:DT)(de:DE):DS:=fun F ρ=>di ρ fun items=>items.length<=1000/\compI gd dt de (FL ρ map) items fun acc=>F.nx (ρ.set i (some (if own then .own acc else .lst acc)))
theorem J9e {elt iter tg:Expr}{ifs:List Expr}{scope:Scope}{N':List Str}{map:List (Option Nat)}{g:TG}{gd:D->Ev->(Ev->Prop)->Prop}(own:Bool){i:Nat}{y:Str}{py spos:Pos}(hN:X.N.Nodup)(hiN:X.N[i]?=some y)(hy:Loc X.env.scope y)(hG:GD W g gd)(B:Blk X N' scope map tg elt ifs g (dnT W dt) (dn W de))(hi:PI X tg iter (dnI W false di))
 (hsw:swapsWith (.ListComp elt [⟨tg,iter,ifs,0⟩] scope pos) (some (.Name y py)) spos.line X.env=pure true:=by rfl) (hfn:X.fn y=true\/X.env.scope.names.lookup y=some .local:=by first|exact .inl rfl|exact .inr rfl)
 (hs:∀ x,foldedSetIterable iter X.env x=pure x:=by intro _;rfl):PS X (.Assign [.Name y py] (.ListComp elt [⟨tg,iter,ifs,0⟩] scope pos) spos) (sn W (Q1f own i map gd di dt de)):=(NT hN hiN hy B hi hsw hfn hs).mono fun E σ H hh=>hh.elim fun pn M b ρ F s l h=>by
 refine ⟨pn,M,b,ρ,_,s.toSta,h,fun items J need H1 hx hp hI hn k1 o1=>?_⟩
 have s1:=s.step k1 o1
 refine HE hG (s1.toSta.capt map) hp hI (fun q hq=>(hn q hq).1) hx.1 hx.2 fun ds acc H' hP r hl k2 o2 q hq=>?_
 have s2:=s1.step k2 o2
 cases own
 · have s3:=(s2.step (Kp.upd (o:=.lst acc) hq) (s2.toHs.okU hq))
   exact l.nx _ _ _ _ _ (s3.of (s3.toSta.set i (DD s2.toHs r hq)) (NF rfl)) hP
 · exact l.nx _ _ _ _ _ (s2.newOwn i r hq) hP
def J9x (i:Nat)(dA:DA):DS:=fun F ρ=>match ρ[i]? with
 | some (some (.own ys))=>dA ρ fun xs=>(match xs with | [y]=>(plain y&&decide (ys.length<1000))=true/\F.nx (ρ.set i (some (.own (ys++[y]))))|_=>False)
 | _=>False
theorem LO {pn:List (D×V)} {b:Option Addr}{H:Hp}{σ:St}{ρ:Ev}{i:Nat}{ys:List D}(s:Sta W pn M b H σ ρ)(e:ρ[i]?=some (some (.own ys))):∃ a vs,σ[i]?=some (some (.ref a))/\b≠some a/\H a=some (.lst vs)/\Reps W.K M H ys vs:=by
 obtain ⟨v,e1,a,us,rfl,m1,m2,m3,m4,hh,r⟩:=s.env i _ e
 exact ⟨a,us,e1,m2,hh,r⟩
theorem Q1t {i:Nat}:∀ E σ H,sn W (J9x i dA) E σ H->Q0m (tBM W.K "list" IH (HK i) (dnA W dA)) E σ H:=fun E σ H hh=>hh.elim fun pn M b ρ F s l h=>by
 unfold J9x at h
 split at h
 case h_2=>exact h.elim
 case h_1 ys e =>
  obtain ⟨a,vs,ea,nb,hh,r⟩:=LO s.toSta e
  refine ⟨.ref a,ea,.inl ⟨rfl,vs,SqL.of hh⟩,pn,M,b,ρ,_,s.toSta,h,fun xs us H' hx rx k o=>?_⟩
  match xs,hx with
  | [y],hx =>
    obtain ⟨u,rfl,ru⟩:=rx1 rx
    obtain ⟨p1,p2⟩:=(Bool.and_eq_true _ _).mp hx.1
    have p2:=of_decide_eq_true p2
    have s':=s.step k o
    obtain ⟨a',vs',ea',nb',hh',r'⟩:=LO s'.toSta e
    rw [ea] at ea';cases ea'
    refine ⟨a,vs',u,rfl,rfl,hh',by rw [r'.length];have:=BQ;omega,l.nx _ _ _ _ _ (s'.setOwn i e ea (Reps.append r' (show Reps W.K M H' [y] [u] from ⟨u,[],rfl,ru.rep p1,rfl⟩))) hx.2⟩
theorem J2c {i:Nat}{x:Str}{e:Expr}{npos apos cpos:Pos}(hK:X.K=W.K)(hN:X.N[i]?=some x)(hv:Vis X.env.scope x)(ha:PA X [e] (dnA W dA))
 (h:PE X (.Call (.Attribute (.Name x npos) "append" apos) [e] [] cpos) (tBM X.K "list" IH (HK i) (dnA W dA))) (hs:swapsWith (.Call (.Attribute (.Name x npos) "append" apos) [e] [] cpos) none pos.line X.env=pure false:=by rfl) :
 PS X (.Expr (.Call (.Attribute (.Name x npos) "append" apos) [e] [] cpos) pos) (sn W (J9x i dA)):=(GT (by rw [hK] at h;exact h) hs).mono Q1t
def ZW (i:Nat)(de dk:DE):DS:=fun F ρ=>match ρ[i]? with
 | some (some (.own ys))=>de ρ fun x=>dk ρ fun k=>(match k with|.int k=>plain x=true/\(ixN ys.length k).elim False fun j=>F.nx (ρ.set i (some (.own (ys.set j x))))|_=>False)
 | _=>False
theorem J6z {i:Nat}{dk:DE}:∀ E σ H,sn W (ZW i de dk) E σ H->J7c (dn W de) (J2a (HK i) (dn W dk) UG) E σ H:=fun E σ H hh=>hh.elim fun pn M b ρ F s l h=>by
 unfold ZW at h
 split at h
 case h_2=>exact h.elim
 case h_1 ys e =>
  obtain ⟨a,vs,ea,nb,hh,r⟩:=LO s.toSta e
  refine ⟨pn,M,b,ρ,_,s.toSta,h,fun x v H1 hx rx k1 o1=>⟨.ref a,ea,pn,M,b,ρ,_,s.toSta.step k1 o1,hx,fun y u H2 hy ry k2 o2=>?_⟩⟩
  cases y<;>first|exact hy.elim|skip
  case int k =>
   cases (show _=_ from ry)
   have s':=(s.step k1 o1).step k2 o2
   obtain ⟨a',vs',ea',nb',hh',r'⟩:=LO s'.toSta e
   rw [ea] at ea';cases ea'
   obtain ⟨hp,hy⟩:=hy
   cases q:ixN ys.length k with
   | none=>rw [q] at hy;exact hy.elim
   | some j =>
     rw [q] at hy
     exact ⟨a,vs',k,j,rfl,rfl,hh',by rw [r'.length];exact q,l.nx _ _ _ _ _ (s'.setOwn i e ea (Reps.set ((rx.step s.bagM k2).rep hp) j r')) hy⟩
theorem J9d {i:Nat}{x:Str}{n:Expr}{dk:DE}{npos tpos:Pos}(hN:X.N[i]?=some x)(hv:Vis X.env.scope x)(he:PE X e (dn W de))(hk:PE X n (dn W dk))(hg:PG X (.Subscript (.Name x npos) n tpos) (J2a (HK i) (dn W dk) UG))
 (hs:swapsWithSole [.Subscript (.Name x npos) n tpos] e pos.line X.env=pure false:=by rfl) (hw:swappedStores [.Subscript (.Name x npos) n tpos] e X.env=pure none:=by rfl)
 (h1:(assignEach [.Subscript (.Name x npos) n tpos] X.env).map (·.2)=[assign (.Subscript (.Name x npos) n tpos) X.env]:=by rfl):PS X (.Assign [.Subscript (.Name x npos) n tpos] e pos) (sn W (ZW i de dk)):=(LM he hg hs hw h1).mono J6z
def Q5b (i:Nat)(f:Int->Int->Int)(de:DE):DS:=fun F ρ=>match ρ[i]? with
 | some (some (.int n))=>de ρ fun y=>(match y with|.int m=>F.nx (ρ.set i (some (.int (f n m))))|_=>False)
 | _=>False
theorem Q3z {i:Nat} {x:Str} {op:Operator} {f:Int->Int->Int} {pos':Pos} (hN:X.N.Nodup) (hi:X.N[i]?=some x) (hx:Loc X.env.scope x) (he:PE X e (dn W de)) (ho:PIp X op (ipI f)) (hf:X.fn x=true\/X.env.scope.names.lookup x=some .local:=by first|exact .inl rfl|exact .inr rfl|assumption) :
 PS X (.AugAssign (.Name x pos') op e pos) (sn W (Q5b i f de)):=(Q2m hN hi hx he ho hf).mono fun E σ H hh=>hh.elim fun pn M b ρ F s l h=>by
 unfold Q5b at h
 split at h
 case h_2=>exact h.elim
 case h_1 n e =>
  obtain ⟨v,ev,rv⟩:=s.env i _ e
  cases (show _=_ from rv)
  refine ⟨.int n,ev,pn,M,b,ρ,_,s.toSta,h,fun y u H' hy ry k o=>?_⟩
  cases y<;>first|exact hy.elim|skip
  case int m =>
   cases (show _=_ from ry)
   have s':=s.step k o
   exact ⟨n,m,rfl,rfl,l.nx _ _ _ _ _ (s'.of (s'.toSta.set i (x:=.int (f n m)) (v:=.int (f n m)) (show _=_ from rfl)) (NF rfl)) hy⟩
def ZY (gd:D->Ev->(Ev->Prop)->Prop)(db:DS)(F:DEnds):List D->Ev->Prop
 | [],ρ=>F.nx ρ
 | x::xs,ρ=>gd x ρ fun ρ1=>db { F with nx:=ZY gd db F xs,ct:=ZY gd db F xs,bk:=F.nx } ρ1
inductive forI (gd:D->Ev->(Ev->Prop)->Prop)(db:DS)(F:DEnds)(items:List D)(ρ:Ev):Prop
 | mk (I:Nat->Ev->Prop) (h0:I 0 ρ) (hs:∀ (i:Nat) x ρ,items[i]?=some x->I i ρ->gd x ρ fun ρ1=>db { F with nx:=I (i+1),ct:=I (i+1),bk:=F.nx } ρ1) (hd:∀ ρ,I items.length ρ->F.nx ρ):forI gd db F items ρ
theorem J8z {gd:D->Ev->(Ev->Prop)->Prop}{db:DS}{F:DEnds}{items:List D}{ρ:Ev}(h:ZY gd db F items ρ):forI gd db F items ρ:=by
 refine ⟨fun i ρ=>ZY gd db F (items.drop i) ρ,h,fun i x ρ e q=>?_,fun ρ q=>?_⟩
 · obtain ⟨hlt,rfl⟩:=List.getElem?_eq_some_iff.mp e
   try dsimp only at q
   rw [List.drop_eq_getElem_cons hlt] at q
   exact q
 · (try dsimp only at q);rw [List.drop_length] at q;exact q
def Q4w (gd:D->Ev->(Ev->Prop)->Prop)(di:DA)(db:DS):DS:=fun F ρ=>di ρ fun items=>forI gd db F items ρ
theorem Sta.pins {pn pn':List (D×V)} {b:Option Addr}{H:Hp}{σ:St}{ρ:Ev}(s:Sta W pn M b H σ ρ)(h:∀ q∈pn',PinR W M b H q.1 q.2):Sta W pn' M b H σ ρ:=⟨s.toHs,s.kp,s.new,s.env,s.len,h⟩
theorem Q1s {g:TG}{gd:D->Ev->(Ev->Prop)->Prop}{db:DS}(hG:GD W g gd):∀ E σ H,sn W (Q4w gd di db) E σ H->Q6b (dnI W true di) g (sn W db) E σ H:=fun E σ H hh=>hh.elim fun pn M b ρ F s l h=>by
 refine ⟨pn,M,b,ρ,_,s.toSta,h,fun items J need H1 hx hp hI hn k1 o1=>?_⟩
 have s1:=s.step k1 o1
 have pins:∀ q∈need++pn,PinR W M b H1 q.1 q.2:=fun q hq=>(List.mem_append.mp hq).elim (fun z=>(hn q z).1.pin ((hn q z).2 rfl)) fun z=>s1.pin q z
 obtain ⟨I,i0,istep,idone⟩:=hx
 refine ⟨fun i m σ H=>m=items.length - i/\i<=items.length/\∃ M b ρ,StS W (need++pn) M b H σ ρ/\I i ρ,⟨items.length,by simp,Nat.zero_le _,M,b,ρ,⟨s1.toSta.pins pins,s1.dj,fun ys a hq=>(List.mem_append.mp hq).elim (fun z=>by have:=(hn _ z).2 rfl;cases this) fun z=>s1.lj ys a z⟩,i0⟩,?_⟩
 rintro i m σ2 H2 ⟨rfl,hi,M2,b2,ρ2,s2,q⟩
 have unp:∀ {M b ρ σ H},StS W (need++pn) M b H σ ρ->StS W pn M b H σ ρ:=fun s=>⟨s.toSta.pins fun q hq=>s.pin q (List.mem_append_right _ hq),s.dj,fun ys a hq=>s.lj ys a (List.mem_append_right _ hq)⟩
 obtain ⟨hgo,hstop⟩:=hI M2 b2 H2 s2.toHs fun q hq=>(s2.pin q (List.mem_append_left _ hq)).x
 by_cases hlt:i<items.length
 · have ei:items[i]?=some items[i]:=List.getElem?_eq_getElem hlt
   replace q:=istep i _ ρ2 ei q
   refine .inr ⟨(hgo i _ ei).1,fun σ' H'=>∃ M b ρ,StS W (need++pn) M b H' σ' ρ/\I (i+1) ρ,fun σ' H' n=>⟨items.length - (i+1),by omega,rfl,hlt,n⟩,fun x H3 y=>?_⟩
   obtain ⟨S3,rx⟩:=(hgo i _ ei).2 x H3 y
   have o3:okB W.B b2 H3:=fun p e=>W.B.st p H2 H3 (s2.ok p e) fun o e'=>S3 p o e'
   have s3:=s2.step (Kp.same S3) o3
   refine hG (need++pn) M2 b2 H3 σ2 ρ2 items[i] x _ _ s3.toSta rx (List.all_eq_true.mp hp _ (List.getElem_mem hlt)) q fun ρ1 σ1 h1 st4 ho=>?_
   exact ⟨need++pn,M2,b2,ρ1,{ F with nx:=I (i+1),ct:=I (i+1),bk:=F.nx },s3.of st4 ho,⟨fun M b ρ σ H s' h'=>⟨M,b,ρ,s',h'⟩,l.rt,fun M b ρ σ H s' h'=>l.nx _ _ _ _ _ (unp s') h',fun M b ρ σ H s' h'=>⟨M,b,ρ,s',h'⟩,l.ro⟩,h1⟩
 · have e:i=items.length:=by omega
   subst e
   exact .inl ⟨hstop _ (Nat.le_refl _),l.nx _ _ _ _ _ (unp s2) (idone _ q)⟩
theorem Q3x {g:TG}{gd:D->Ev->(Ev->Prop)->Prop}{db:DS}{body:List Stmt}(hG:GD W g gd)(hp:PassesOwn (model X.prog X.w) X.A X.env X.xe)(hc:X.calm=true)(hi:PI X tg iter (dnI W true di))(hg:PG X tg g)(hb:PSs X body (sn W db))
 (hs:∀ x,foldedSetIterable iter X.env x=pure x:=by intro _;rfl):PS X (.For tg iter body [] pos) (sn W (Q4w gd di db)):=(Q2l hp hc hi hg hb hs).mono (Q1s hG)
theorem Sta.avoid {pn:List (D×V)}{M M':Addr->Prop}{b:Option Addr}{H:Hp}{σ:St}{ρ:Ev}(s:Sta W pn M b H σ ρ)(h:∀ c,M' c->M c)(hb:∀ p,b=some p->M' p)(h0:∀ c,W.M0 c->M' c)(ho:∀ (i:Nat) d v c,ρ[i]?=some (some d)->σ[i]?=some (some v)->GF d v c->M' c)(hpo:∀ xs a,(D.own xs,V.ref a)∈pn->M' a):Sta W pn M' b H σ ρ where
 ok:=s.ok
 bagM:=hb
 dom:=fun c m=>s.dom c (h c m)
 m0:=h0
 kp:=s.kp
 new:=s.new
 len:=s.len
 pin:=fun q hq=>(s.pin q hq).to (fun _ _ r=>Rep.avoid (fun c m=>.inl (h c m)) _ _ r) (fun _ _ r=>Reps.avoid (fun c m=>.inl (h c m)) _ _ r) fun xs a vs ed ev m n hh=>⟨hpo xs a (by rw [<- ed,<- ev];exact hq),n,hh⟩
 env:=fun i d e=>by
  obtain ⟨v,e1,r⟩:=s.env i d e
  refine ⟨v,e1,?_⟩
  cases d
  case own xs =>
   obtain ⟨a,us,rfl,m1,m2,m3,m4,hh,r'⟩:=r
   exact ⟨a,us,rfl,ho i _ _ a e e1 rfl,m2,m3,m4,hh,Reps.avoid (fun c m=>.inl (h c m)) _ _ r'⟩
  case bag=>exact r
  case frg f _=>exact RepX.move r (fun c m _ n=>⟨ho i _ _ c e e1 m,n⟩) (fun c o _ e=>e) fun c m=>.inl (h c m)
  all_goals exact Rep.avoid (fun c m=>.inl (h c m)) _ _ r
def J5r (Ed:Addr->Prop)(C:Addr):DS:=fun _ _=>Ed C
theorem J5f {E:XK}{Ed:Addr->Prop}{C:Addr}(hE:FM W E Ed)(h:PS X st (fun _ _ H1=>E (.ref C) none H1)):PS X st (sn W (J5r Ed C)):=h.mono fun E' σ H hh=>hh.elim fun pn M b ρ F s l h=>hE C H h s.kp s.ok0
end
def BH (N:List Str)(ds:List D):Ev:=ds.map some++List.replicate (N.length - ds.length) none
theorem RepAs.get {H:Hp}:∀ {ds:List D} {vs:List V} {i:Nat} {d:D},RepAs K M b H ds vs->ds[i]?=some d->∃ v,vs[i]?=some v/\J6v K M b H d v
 | [],_,_,_,h,e=>by simp at e
 | d::ds,vs,0,_,h,e=>by
   obtain ⟨v,r,rfl,h1,h2⟩:=h
   simp at e;subst e
   exact ⟨v,rfl,h1⟩
 | d::ds,vs,i+1,d',h,e=>by
   obtain ⟨v,r,rfl,h1,h2⟩:=h
   obtain ⟨u,e1,e2⟩:=RepAs.get (i:=i) h2 (by simpa using e)
   exact ⟨u,by simpa using e1,e2⟩
theorem IY {N:List Str}{ds:List D}{i:Nat}{d:D}(h:(BH N ds)[i]?=some (some d)):ds[i]?=some d:=by
 unfold BH at h
 by_cases hi:i<ds.length
 · rw [List.getElem?_append_left (by simpa using hi),List.getElem?_map] at h
   simpa using h
 · rw [List.getElem?_append_right (by simpa using hi)] at h
   have:=List.mem_of_getElem? h
   simp at this
theorem J5a {B:BagT} {N:List Str}{ds:List D}{vs:List V}{H:Hp}(hr:RepAs K M b H ds vs)(ho:okB B b H)(hb:∀ p,b=some p->M p)(hd:∀ c,M c->∃ o,H c=some o):StS ⟨K,B,H,M,b⟩ [] M b H (DM N vs) (BH N ds):=by
 refine ⟨⟨⟨ho,hb,hd,fun _ m=>m⟩,Kp.refl _ _,.inl rfl,fun i d e=>?_,by simp [DM,BH,hr.length],fun _ hq=>by cases hq⟩,fun i j d e v u c e0 _ _ _ m _=>?_,fun _ _ hq=>by cases hq⟩
 · obtain ⟨v,e1,r⟩:=hr.get (IY e)
   refine ⟨v,?_,?_⟩
   · unfold DM
     rw [List.getElem?_append_left (by simpa using (List.getElem?_eq_some_iff.mp e1).1),List.getElem?_map,e1];rfl
   · cases d<;>first|exact r|exact r.elim
 · obtain ⟨v',e1,r⟩:=hr.get (IY e0)
   cases d<;>first|exact m.elim|exact r.elim
theorem Q7e {B:BagT} {H:Hp}{Q:VK}{P:D->Prop}(hq:∀ d v H',P d->Rep K M H' d v->Kp b H H'->okB B b H'->Q v H'):Link ⟨K,B,H,M,b⟩ [] { nx:=fun _ H'=>Q .non H',rt:=Q } { nx:=fun _=>P .non,rt:=P } :=
 ⟨fun M b ρ σ H s h=>hq _ _ _ h rfl s.kp s.ok0,fun d v H h r k o=>hq d v H h r k o,fun _ _ _ _ _ _ h=>h.elim,fun _ _ _ _ _ _ h=>h.elim,fun _ _ _ _ h=>h.elim⟩
theorem run {B:BagT} {N:List Str}{ds:List D}{vs:List V}{H:Hp}{Q:VK}{P:D->Prop}{d:DS}(hr:RepAs K M b H ds vs)(ho:okB B b H)(hb:∀ p,b=some p->M p)(hd:∀ c,M c->∃ o,H c=some o)(hq:∀ d v H',P d->Rep K M H' d v->Kp b H H'->okB B b H'->Q v H')
 (h:d { nx:=fun _=>P .non,rt:=P } (BH N ds)):sn ⟨K,B,H,M,b⟩ d { nx:=fun _ H'=>Q .non H',rt:=Q } (DM N vs) H :=
 ⟨[],M,b,BH N ds,_,J5a hr ho hb hd,Q7e hq,h⟩
theorem J8.len {B:BagT}{S:DSp}{n:Nat}(h:∀ ds P Ed,S ds P Ed->ds.length=n):∀ vs H Q E,J8 K B S vs H Q E->vs.length=n:=fun vs H Q E ⟨M,b,ds,P,Ed,hS,hr,_⟩=>by rw [hr.length];exact h _ _ _ hS
section
variable {X:Cx}{W:Wd}{e a b c l:Expr}{es:List Expr}{pos p:Pos}{d dl de:DE}{dA:DA}{st:Stmt}
abbrev DO:=Ev->(Option Int->Prop)->Prop
def dnO (W:Wd)(d:DO):TO:=fun σ H Q=>∃ pn M b ρ P,Sta W pn M b H σ ρ/\d ρ P/\∀ x H',P x->Kp b H H'->okB W.B b H'->Q x H'
theorem dnO.elim {W:Wd}{d:DO}{σ:St}{H:Hp}{Q:Option Int->Hp->Prop}{R:Prop}(h:dnO W d σ H Q)(f:∀ pn M b ρ P,Sta W pn M b H σ ρ->d ρ P->(∀ x H',P x->Kp b H H'->okB W.B b H'->Q x H')->R):R:=by
 obtain ⟨pn,M,b,ρ,P,st,h,k⟩:=h
 exact f pn M b ρ P st h k
def oNo:DO:=fun _ P=>P none
def oPt (de:DE):DO:=fun ρ P=>de ρ fun x=>match x with|.int i=>P (some i)|_=>False
theorem J9j:PO X none (dnO W oNo):=fun pins s σ H Q I hh=>hh.elim fun pn M b ρ P st h k=>J7t pins s σ H Q I (k _ H h (Kp.refl _ _) st.ok)
theorem J9i (h:PE X e (dn W de)):PO X (some e) (dnO W (oPt de)):=fun pins s σ H Q I hh=>hh.elim fun pn M b ρ P st q k=>J7s h pins s σ H Q I (by
 refine ⟨pn,M,b,ρ,_,st,q,fun x v H1 hx rx k1 o1=>?_⟩
 cases x<;>first|exact hx.elim|skip
 cases (show _=_ from rx)
 exact ⟨_,rfl,k _ H1 hx k1 o1⟩)
def SQ (xs:List D)(lo hi:Option Int):List D:=(xs.drop (HT.sIx xs.length 0 lo)).take (HT.sIx xs.length xs.length hi - HT.sIx xs.length 0 lo)
theorem Reps.cut {H:Hp}{ds:List D}{vs:List V}(h:Reps K M H ds vs)(lo hi:Option Int):Reps K M H (SQ ds lo hi) (VO vs lo hi):=by
 unfold SQ VO
 rw [h.length]
 exact Reps.take _ (Reps.drop _ h)
def oSl (x:D)(lo hi:Option Int)(P:D->Prop):Prop:=match x with
 | .tup xs=>¬ (HT.sIx xs.length 0 lo=0/\HT.sIx xs.length xs.length hi=xs.length)/\P (.tup (SQ xs lo hi))
 | .lst xs=>P (.lst (SQ xs lo hi))
 | .own xs=>P (.lst (SQ xs lo hi))
 | _=>False
def dSl (de:DE)(dl dh:DO):DE:=fun ρ P=>de ρ fun x=>dl ρ fun lo=>dh ρ fun hi=>oSl x lo hi P
theorem J7f (K:Fg)(h:X.K=K):SlR X (J3d K):=by subst h;exact Q2b
theorem WJ (K:Fg)(h:X.K=K):SlR X (fun x lo hi H Q=>J3d K x lo hi H Q\/J3e K x lo hi H Q):=(J7f K h).or (J0u K h)
theorem J5k {lo hi:Option Expr}{dl dh:DO}{p2:Pos}(hr:SlR X (fun x lo hi H Q=>J3d W.K x lo hi H Q\/J3e W.K x lo hi H Q))(he:PE X e (dn W de))(hl:PO X lo (dnO W dl))(hu:PO X hi (dnO W dh)):PE X (.Subscript e (.Slice lo hi none p2) pos) (dn W (dSl de dl dh)):=(J3o hr he hl hu).mono fun σ H Q hh=>hh.elim fun pn M b ρ P st h k=>by
 refine ⟨pn,M,b,ρ,_,st,h,fun x v H1 hx rx k1 o1=>?_⟩
 refine ⟨pn,M,b,ρ,_,st.step k1 o1,hx,fun lo H2 hy k2 o2=>?_⟩
 refine ⟨pn,M,b,ρ,_,(st.step k1 o1).step k2 o2,hy,fun hi H3 hz k3 o3=>?_⟩
 have s3:=((st.step k1 o1).step k2 o2).step k3 o3
 have rx:=(rx.step st.bagM k2).step st.bagM k3
 have kk:=(k1.trans k2).trans k3
 cases x<;>first|exact hz.elim|skip
 case tup xs =>
  obtain ⟨a,vs,rfl,hh,r⟩:=rx
  refine .inl ⟨a,vs,rfl,hh.sq,by rw [r.length];exact hz.1,fun p hp=>k _ _ _ hz.2 (II s3.toHs (r.cut lo hi) hp) (kk.trans (Kp.upd hp)) (s3.okU hp)⟩
 case lst xs =>
  obtain ⟨a,vs,rfl,hh,r⟩:=rx
  refine .inr ⟨a,vs,rfl,SqL.of hh.2,fun p hp=>k _ _ _ hz (DD s3.toHs (r.cut lo hi) hp) (kk.trans (Kp.upd hp)) (s3.okU hp)⟩
 case own xs =>
  obtain ⟨a,vs,rfl,_,_,_,_,hh,r⟩:=rx
  refine .inr ⟨a,vs,rfl,SqL.of hh,fun p hp=>k _ _ _ hz (DD s3.toHs (r.cut lo hi) hp) (kk.trans (Kp.upd hp)) (s3.okU hp)⟩
def Q7c:D->D->(D->Prop)->Prop:=fun x y P=>match asL x,asL y with
 | some xs,some ys=>xs.length+ys.length<=1000/\P (.lst (xs++ys))
 | _,_=>False
theorem J3x:OpD W Q6l Q7c:=by
 intro M b H x y v u P Q hs rx ry ho k
 unfold Q7c at ho
 split at ho
 case h_2=>exact ho.elim
 case h_1 xs ys e1 e2 =>
  obtain ⟨a1,vs,rfl,h1,r1⟩:=asL.rep rx e1
  obtain ⟨a2,us,rfl,h2,r2⟩:=asL.rep ry e2
  exact ⟨a1,a2,vs,us,rfl,rfl,h1,h2,by rw [r1.length,r2.length];exact Nat.le_trans ho.1 BQ,fun p hp=>k _ _ _ ho.2 (DD hs (Reps.append r1 r2) hp) (Kp.upd hp) (hs.okU hp)⟩
theorem Reps.ne {H:Hp}{ds:List D}{vs:List V}(h:Reps K M H ds vs)(n:ds≠[]):vs≠[]:=fun z=>by
 have:=h.length
 rw [z] at this
 exact n (List.length_eq_zero_iff.mp this.symm)
def VZ (K:Fg)(B:BagT)(pre:List D->Prop):Sp:=fun vs H Q _=>∃ (M:Addr->Prop) (b:Option Addr) (ds:List D),RepAs K M b H ds vs/\pre ds/\∀ p H1,H p=none->Same H H1->B.ok p H1->Q (.ref p) H1
def VM (ρ:Ev):Ev:=ρ.map fun o=>match o with|some .bag=>none|o=>o
def Q8i (i:Nat)(pre:List D->Prop)(dA:DA):DS:=fun F ρ=>dA ρ fun ds=>ds.all AJ=true/\pre ds/\F.nx ((VM ρ).set i (some .bag))
theorem RE {ρ:Ev}{i:Nat}{d:D}(h:(VM ρ)[i]?=some (some d)):ρ[i]?=some (some d)/\d≠.bag:=by
 unfold VM at h
 rw [List.getElem?_map] at h
 cases q:ρ[i]? with
 | none=>rw [q] at h;cases h
 | some o =>
   rw [q] at h
   cases o with
   | none=>cases h
   | some d'=>cases d'<;>simp at h<;>subst h<;>exact ⟨rfl,by intro z;cases z⟩
theorem Q3y {spos:Pos}{x f:Str}{k:Nat}{ps:List Str}{pre:List D->Prop}{i:Nat}{pos':Pos}(hb0:W.b0=none)(hN:X.N.Nodup)(hi:X.N[i]?=some x)(hx:Loc X.env.scope x)(G:Callee X.prog X.w X.K X.mg X.base CX0 f k ps (VZ W.K W.B pre))(hr:Room k X.A)(hg:Gl X f)(ha:PA X (e::es) (dnA W dA))
 (hdb:(f==("__debug__" : Str))=false:=by decide) (he:starEach (e::es) X.env=(false,eval e X.env)::starEach es X.env:=by rfl) (hpl:(backTo pos (starEach es X.env)).any (·.1)=false:=by rfl)
 (hs:swapsWith (.Call (.Name f p) (e::es) [] pos) (some (.Name x pos')) spos.line X.env=pure false:=by rfl) (hf:X.fn x=true\/X.env.scope.names.lookup x=some .local:=by first|exact .inl rfl|exact .inr rfl|assumption) :
 PS X (.Assign [.Name x pos'] (.Call (.Name f p) (e::es) [] pos) spos) (sn W (Q8i i pre dA)):=(EF hN hi hx (LN G hr hg ha hdb he hpl) hs hf).mono fun E σ H hh=>hh.elim fun pn M b ρ F s l h=>by
 refine ⟨pn,M,b,ρ,_,s.toSta,h,fun ds vs H' hx rx k o=>?_⟩
 have s1:=s.step k o
 refine ⟨M,b,ds,by rw [List.append_nil];exact rx.args _ _ hx.1,hx.2.1,fun q H1 hq S ok=>?_⟩
 have rep:∀ d v,Rep W.K M H' d v->Rep W.K (fun c=>M c\/c=q) H1 d v:=fun d v r=>Rep.keep (fun c o _ e=>S c o e) _ _ (Rep.avoid (fun c hc=>hc.imp id fun z=>by rw [z];exact hq) _ _ r)
 have reps:∀ d v,Reps W.K M H' d v->Reps W.K (fun c=>M c\/c=q) H1 d v:=fun d v r=>Reps.keep (fun c o _ e=>S c o e) _ _ (Reps.avoid (fun c hc=>hc.imp id fun z=>by rw [z];exact hq) _ _ r)
 have h0:W.H0 q=none:=by
  cases z:W.H0 q with
  | none=>rfl
  | some o =>
    have:=s1.kp q o (by rw [hb0];intro y;cases y) z
    rw [hq] at this;cases this
 have st1:Sta W pn (fun c=>M c\/c=q) (some q) H1 σ (VM ρ):=by
  refine ⟨⟨fun p e=>by cases e;exact ok,fun p e=>by cases e;exact .inr rfl,fun c hc=>?_,fun c m=>.inl (s1.m0 c m)⟩,fun c o n e=>S c o (s1.kp c o n e),.inr ⟨hb0,fun p e=>by cases e;exact h0⟩,fun j d e=>?_,by simp [VM,s.len],fun q' hq'=>(s1.pin q' hq').to rep reps fun xs a vs _ _ m n hh=>⟨.inl m,(fun z=>by cases z;rw [hq] at hh;cases hh),S _ _ hh⟩⟩
  · rcases hc with hc|hc
    · obtain ⟨o,e⟩:=s1.dom c hc;exact ⟨o,S c o e⟩
    · rw [hc];exact W.B.dm q H1 ok
  · obtain ⟨e1,nb⟩:=RE e
    obtain ⟨v,e2,r⟩:=s1.env j d e1
    refine ⟨v,e2,?_⟩
    cases d
    case own xs =>
     obtain ⟨a,us,rfl,m1,m2,m3,m4,hh,r'⟩:=r
     have nq:some q≠some a:=fun z=>by
      cases z
      rw [hq] at hh
      cases hh
     exact ⟨a,us,rfl,.inl m1,nq,m3,m4,S _ _ hh,reps _ _ r'⟩
    case bag=>exact absurd rfl nb
    case frg f _=>exact RepX.move r (fun c _ m n=>⟨.inl m,fun z=>by cases z;exact s1.toHs.new hq m⟩) (fun c o _ e=>S c o e) fun c hc=>hc.imp id fun z=>by rw [z];exact hq
    all_goals exact rep _ _ r
 refine l.nx _ _ _ _ _ (s1.of (st1.set (x:=.bag) (v:=.ref q) i ⟨q,rfl,rfl⟩) fun j xs hm e=>?_) hx.2.2
 by_cases z:i=j
 · subst z
   rw [List.getElem?_set] at e
   simp at e
   rw [<- e.2] at hm;cases hm
 · rw [List.getElem?_set_ne z] at e
   exact ⟨(RE e).1,by rw [List.getElem?_set_ne z]⟩
end
end L2
namespace K
open PySem L2
theorem _root_.L2.Room.m {k n:Nat}{A:Around}(h:Room n A)(e:k<=n:=by decide):Room k A:=h.mono e
theorem Q7q {a b:Int}(hb:b≠0):(a.fmod b).natAbs<b.natAbs:=by
 by_cases h:0<b
 · rw [Int.fmod_eq_emod_of_nonneg a (by omega)]
   have:=Int.emod_nonneg a hb
   have:=Int.emod_lt_of_pos a h
   omega
 · have e:a.fmod b = -((-a).fmod (-b)):=by grind [Int.neg_fmod_neg]
   rw [e,Int.fmod_eq_emod_of_nonneg (-a) (show 0<=-b by omega)]
   have:=Int.emod_nonneg (-a) (show -b≠0 by omega)
   have:=Int.emod_lt_of_pos (-a) (show 0 < -b by omega)
   omega
theorem J4x {a b:Int}:Int.gcd b (a.fmod b)=Int.gcd a b:=by
 rw [Int.gcd_comm a b,Int.fmod_def]
 apply Nat.dvd_antisymm
 · apply Int.dvd_gcd
   · exact Int.gcd_dvd_left ..
   · have h1:((Int.gcd b (a - b*a.fdiv b):Nat):Int) ∣ b:=Int.gcd_dvd_left ..
     have h2:((Int.gcd b (a - b*a.fdiv b):Nat):Int) ∣ a - b*a.fdiv b:=Int.gcd_dvd_right ..
     have h3:=Int.dvd_add h2 (Int.dvd_trans h1 (Int.dvd_mul_right b (a.fdiv b)))
     have e3:a - b*a.fdiv b+b*a.fdiv b=a:=by omega
     rw [e3] at h3
     exact h3
 · apply Int.dvd_gcd
   · exact Int.gcd_dvd_left ..
   · have h1:((Int.gcd b a:Nat):Int) ∣ b:=Int.gcd_dvd_left ..
     have h2:((Int.gcd b a:Nat):Int) ∣ a:=Int.gcd_dvd_right ..
     exact Int.dvd_sub h2 (Int.dvd_trans h1 (Int.dvd_mul_right b (a.fdiv b)))
def OW (ns:List Int):Int:=ns.foldl (fun g n=>((Int.gcd g n:Nat):Int)) 0
theorem J1z (ns:List Int)(n:Int):OW (ns++[n])=((Int.gcd (OW ns) n:Nat):Int):=by unfold OW;rw [List.foldl_append];rfl
theorem LZ {ns:List Int}{n:Int}(h:n≠0):0<OW (ns++[n])/\OW (ns++[n])<=n.natAbs:=by
 rw [J1z]
 have h1:0<Int.gcd (OW ns) n:=Int.gcd_pos_of_ne_zero_right _ h
 have h2:Int.gcd (OW ns) n ∣ n.natAbs:=Int.gcd_dvd_natAbs_right ..
 have h3:=Nat.le_of_dvd (by omega) h2
 omega
def low (ns:List Int)(last:Int):Int:=if last<0 then -OW (ns++[last]) else OW (ns++[last])
theorem J4e {ns:List Int}{n:Int}(h:n≠0):low ns n≠0:=by
 have:=LZ (ns:=ns) h
 unfold low
 split<;>omega
theorem Q3c {ns:List Int}{n:Int}(h:n≠0):(low ns n).natAbs<=n.natAbs:=by
 have:=LZ (ns:=ns) h
 unfold low
 split<;>omega
theorem Q7m (x y z w:Int):OW ([x,y,z]++[w])=((Nat.gcd (Int.gcd x y) (Int.gcd z w):Nat):Int):=by
 unfold OW Int.gcd
 show ((Nat.gcd (Int.natAbs ((Nat.gcd (Int.natAbs ((Nat.gcd (Int.natAbs ((Nat.gcd (Int.natAbs 0) x.natAbs:Nat):Int)) y.natAbs:Nat):Int)) z.natAbs:Nat):Int)) w.natAbs:Nat):Int)=_
 simp only [Int.natAbs_natCast,Int.natAbs_zero,Nat.gcd_zero_left,Nat.gcd_assoc]
theorem UV (x y z w:Int):(low [x,y,z] w).natAbs=Nat.gcd (Int.gcd x y) (Int.gcd z w):=by
 unfold low
 split<;>rw [Q7m]<;>omega
theorem ZG {ns:List Int}{n:Int}(h:n≠0):(n<0->low ns n<0)/\(0<n->0<low ns n):=by
 have:=LZ (ns:=ns) h
 unfold low
 refine ⟨fun h1=>?_,fun h1=>?_⟩
 · rw [if_pos h1];omega
 · rw [if_neg (by omega)];omega
theorem J4d {x y z w:Int}(h:w≠0):∃ a b c d,x.fdiv (low [x,y,z] w)=a/\y.fdiv (low [x,y,z] w)=b/\z.fdiv (low [x,y,z] w)=c/\w.fdiv (low [x,y,z] w)=d/\0<d/\Nat.gcd (Int.gcd a b) (Int.gcd c d)=1/\(a*w=x*d/\b*w=y*d/\c*w=z*d) /\
 (a.natAbs<=x.natAbs/\b.natAbs<=y.natAbs/\c.natAbs<=z.natAbs/\d.natAbs<=w.natAbs):=by
 have hne:=J4e (ns:=[x,y,z]) h
 have habs:=UV x y z w
 obtain ⟨s1,s2⟩:=ZG (ns:=[x,y,z]) h
 generalize low [x,y,z] w=L at *
 have g1:Nat.gcd (Int.gcd x y) (Int.gcd z w) ∣ Int.gcd x y:=Nat.gcd_dvd_left ..
 have g2:Nat.gcd (Int.gcd x y) (Int.gcd z w) ∣ Int.gcd z w:=Nat.gcd_dvd_right ..
 have dv:∀ n:Int,L.natAbs ∣ n.natAbs->L ∣ n:=fun n h=>Int.natAbs_dvd_natAbs.mp h
 have d1:L ∣ x:=dv x (by rw [habs];exact Nat.dvd_trans g1 (Nat.gcd_dvd_left ..))
 have d2:L ∣ y:=dv y (by rw [habs];exact Nat.dvd_trans g1 (Nat.gcd_dvd_right ..))
 have d3:L ∣ z:=dv z (by rw [habs];exact Nat.dvd_trans g2 (Nat.gcd_dvd_left ..))
 have d4:L ∣ w:=dv w (by rw [habs];exact Nat.dvd_trans g2 (Nat.gcd_dvd_right ..))
 have e1:=Int.fdiv_mul_cancel d1
 have e2:=Int.fdiv_mul_cancel d2
 have e3:=Int.fdiv_mul_cancel d3
 have e4:=Int.fdiv_mul_cancel d4
 generalize x.fdiv L=a at *
 generalize y.fdiv L=b at *
 generalize z.fdiv L=c at *
 generalize w.fdiv L=d at *
 have bnd:∀ n m:Int,n*L=m->n.natAbs<=m.natAbs:=fun n m e=>by
  rw [<- e,Int.natAbs_mul]
  exact Nat.le_mul_of_pos_right _ (by omega)
 refine ⟨a,b,c,d,rfl,rfl,rfl,rfl,?_,?_,⟨?_,?_,?_⟩,⟨bnd _ _ e1,bnd _ _ e2,bnd _ _ e3,bnd _ _ e4⟩⟩
 · by_cases hd:0<d
   · exact hd
   · rcases Int.lt_or_gt_of_ne h with hw|hw
     · have:=Int.mul_nonneg_of_nonpos_of_nonpos (show d<=0 by omega) (Int.le_of_lt (s1 hw));omega
     · have:=Int.mul_nonpos_of_nonpos_of_nonneg (show d<=0 by omega) (Int.le_of_lt (s2 hw));omega
 · have q1:Int.gcd (a*L) (b*L)=Int.gcd a b*L.natAbs:=Int.gcd_mul_right ..
   have q2:Int.gcd (c*L) (d*L)=Int.gcd c d*L.natAbs:=Int.gcd_mul_right ..
   rw [<- e1,<- e2,<- e3,<- e4,q1,q2,Nat.gcd_mul_right] at habs
   have hp:0<L.natAbs:=by omega
   have:1*L.natAbs=Nat.gcd (Int.gcd a b) (Int.gcd c d)*L.natAbs:=by rw [Nat.one_mul];exact habs
   exact (Nat.eq_of_mul_eq_mul_right hp this).symm
 · rw [<- e1,<- e4];grind
 · rw [<- e2,<- e4];grind
 · rw [<- e3,<- e4];grind
def dot (r s:List Int):Int:=(List.zipWith (· * ·) r s).sum
def Mv (n:Nat)(H:Hp)(m:Addr)(M:List (List Int)):Prop:=∃ ps:List Addr,H m=some (.tup (ps.map V.ref))/\ps.length=4/\M.length=4/\∀ (i:Nat) p r,ps[i]?=some p->M[i]?=some r->H p=some (.tup (r.map V.int))/\r.length=4/\∀ x∈r,Bd n x
theorem Mv.of {n:Nat}{H:Hp}{m p0 p1 p2 p3:Addr}{r0 r1 r2 r3:List Int}(e:H m=some (.tup [.ref p0,.ref p1,.ref p2,.ref p3]))(e0:H p0=some (.tup (r0.map V.int)))(e1:H p1=some (.tup (r1.map V.int)))(e2:H p2=some (.tup (r2.map V.int)))(e3:H p3=some (.tup (r3.map V.int)))
 (l:r0.length=4/\r1.length=4/\r2.length=4/\r3.length=4) (b:∀ x∈r0++r1++r2++r3,Bd n x):Mv n H m [r0,r1,r2,r3]:=by
 refine ⟨[p0,p1,p2,p3],e,rfl,rfl,fun i p r h1 h2=>?_⟩
 match i with
 | 0=>cases h1;cases h2;exact ⟨e0,l.1,fun x hx=>b x (by simp [hx])⟩
 | 1=>cases h1;cases h2;exact ⟨e1,l.2.1,fun x hx=>b x (by simp [hx])⟩
 | 2=>cases h1;cases h2;exact ⟨e2,l.2.2.1,fun x hx=>b x (by simp [hx])⟩
 | 3=>cases h1;cases h2;exact ⟨e3,l.2.2.2,fun x hx=>b x (by simp [hx])⟩
 | i+4=>simp at h1
end K
namespace L2
open PySem PySem.Spec PyProof.Rows
theorem J8h {xs:List D}{i:Int}{P:D->Prop}(h0:0<=i)(h1:i<xs.length)(h:∀ d∈xs,P d):oIx (.lst xs) (.int i) P:=by
 obtain ⟨j,rfl⟩:∃ j:Nat,i=j:=⟨i.toNat,by omega⟩
 have hj:j<xs.length:=by omega
 have e:atI xs (j:Int)=some xs[j]:=EN (List.getElem?_eq_getElem hj)
 simp only [oIx,e]
 exact h _ (List.getElem_mem hj)
theorem ixm {xs:List D}{i:Int}{P:D->Prop}(h0:0<=i)(h1:i<xs.length)(h:∀ d∈xs,P d):(atI xs i).elim False P:=J8h (P:=P) h0 h1 h
theorem BZ {lo:Int}{n i:Nat}{d:D}(h:(V6 lo n)[i]?=some d):d=.int (lo+i)/\i<n:=by
 have hi:i<n:=by
  have:=(List.getElem?_eq_some_iff.mp h).1
  simpa [V6] using this
 simp [V6,hi] at h
 exact ⟨h.symm,hi⟩
theorem rangeD_len (lo:Int)(n:Nat):(V6 lo n).length=n:=by simp [V6]
abbrev sp4 (x y z w:Int):D:=.tup [.int x,.int y,.int z,.int w]
abbrev t3 (x y z:Int):D:=.tup [.int x,.int y,.int z]
abbrev t2 (x y:Int):D:=.tup [.int x,.int y]
theorem VQ {gd:D->Ev->(Ev->Prop)->Prop}{de:DE}{ρc:Ev}{items:List D}{P:List D->Prop}(Pv:Nat->D->Prop)
 (hs:∀ (i:Nat) x (Q:D->Prop),items[i]?=some x->(∀ y,Pv i y->Q y)->gd x ρc fun ρ1=>de ρ1 Q) (hp:∀ i y,Pv i y->plain y=true)
 (hd:∀ acc:List D,acc.length=items.length->(∀ i y,acc[i]?=some y->Pv i y)->P acc):compI gd MN de ρc items P:=by
 refine ⟨fun i acc=>acc.length=i/\∀ j y,acc[j]?=some y->Pv j y,⟨rfl,fun j y e=>by simp at e⟩,fun i x acc e ⟨hl,ha⟩=>?_,fun acc ⟨hl,ha⟩=>hd acc hl ha⟩
 have:=hs i x (fun y=>plain y=true/\((acc++[y]).length=i+1/\∀ j z,(acc++[y])[j]?=some z->Pv j z)) e fun y hy=>⟨hp i y hy,by simp [hl],fun j z ez=>?_⟩
 · simpa only [MN,PN] using this
 · by_cases hj:j<acc.length
   · rw [List.getElem?_append_left hj] at ez
     exact ha j z ez
   · rw [List.getElem?_append_right (by omega)] at ez
     have:j - acc.length=0:=by
      cases q:j - acc.length with
      | zero=>rfl
      | succ m=>rw [q] at ez;simp at ez
     rw [this] at ez
     simp at ez
     subst ez
     have:j=i:=by omega
     subst this
     exact hy
theorem HZ {gd:D->Ev->(Ev->Prop)->Prop}{de:DE}{ρc:Ev}{items:List D}{P:List D->Prop}(f:D->D)
 (hs:∀ x (Q:D->Prop),x∈items->Q (f x)->gd x ρc fun ρ1=>de ρ1 Q) (hp:∀ x∈items,plain (f x)=true) (hd:P (items.map f)):compI gd MN de ρc items P:=by
 refine VQ (fun i y=>∃ x,items[i]?=some x/\y=f x) (fun i x Q e h=>hs x Q (List.mem_of_getElem? e) (h _ ⟨x,e,rfl⟩)) (fun i y ⟨x,e,h⟩=>by rw [h];exact hp x (List.mem_of_getElem? e)) fun acc hl ha=>?_
 have:acc=items.map f:=by
  apply List.ext_getElem?
  intro i
  rw [List.getElem?_map]
  cases q:acc[i]? with
  | none =>
    have:items.length<=i:=by rw [<- hl];exact List.getElem?_eq_none_iff.mp q
    rw [List.getElem?_eq_none_iff.mpr this];rfl
  | some y =>
    obtain ⟨x,e,rfl⟩:=ha i y q
    rw [e];rfl
 rw [this];exact hd
structure JE (X:Cx)(W:Wd)(e:Expr)(d:DE):Prop where
 h:PE X e (dn W d)
structure JT (X:Cx)(W:Wd)(e:Expr)(d:DT):Prop where
 h:PT X e (dnT W d)
structure JW (X:Cx)(W:Wd)(e:Expr)(d:DT):Prop where
 h:PW X e (dnT W d)
structure JA (X:Cx)(W:Wd)(es:List Expr)(d:DA):Prop where
 h:PA X es (dnA W d)
structure JO (X:Cx)(W:Wd)(e:Option Expr)(d:DO):Prop where
 h:PO X e (dnO W d)
structure JIf (X:Cx)(W:Wd)(es:List Expr)(d:DT):Prop where
 h:PIf X es (dnT W d)
structure JI (X:Cx)(W:Wd)(fz:Bool)(tg l:Expr)(d:DA):Prop where
 h:PI X tg l (dnI W fz d)
structure JS (X:Cx)(W:Wd)(st:Stmt)(d:DS):Prop where
 h:PS X st (sn W d)
structure JSs (X:Cx)(W:Wd)(st:List Stmt)(d:DS):Prop where
 h:PSs X st (sn W d)
section
variable {X:Cx}{W:Wd}{e a b c:Expr}{es:List Expr}{pos:Pos}{da db dc:DE}{dA:DA}{t:TE}
theorem jdv (i:Nat) {x:Str} {pos:Pos} (hN:X.N[i]?=some x:=by rfl) (hv:Vis X.env.scope x:=by first|exact Or.inl rfl|exact Or.inr (Or.inl rfl)|exact Or.inr (Or.inr rfl)) (hd:(x==("__debug__" : Str))=false:=by decide)
 (hcd:(x==("__classdict__" : Str))=false:=by decide):JE X W (.Name x pos) (QD i):=⟨dv i hN hv hd hcd⟩
theorem J5 {i j pos}:JE X W (.Constant (.int i) j pos) (dC (.int i)):=⟨Q4l ⟩
theorem HW {i j pos}:JE X W (.Constant (.bool i) j pos) (dC (.bl i)):=⟨Q7x ⟩
theorem HB {j pos}:JE X W (.Constant .none j pos) (dC .non):=⟨Q4i ⟩
theorem J1t {x:Str}{n:Int}{pos:Pos}(hg:Gl X x)(hm:∃ t,X.mg x=some (.int n t))(hd:(x==("__debug__" : Str))=false:=by decide):JE X W (.Name x pos) (dC (.int n)):=⟨J5l hg hm hd⟩
theorem KR {x:Str}{T:String}{pos:Pos}(hg:Gl X x)(hm:X.mg x=none)(hv:bootBuiltins x=some (.type T))(hn:x≠"__name__":=by decide) (hd:(x==("__debug__" : Str))=false:=by decide):JE X W (.Name x pos) (dC (.ty T)):=⟨J9q hg hm hv hn hd⟩
theorem Q4 {op:Operator}{r:R2}{o:D->D->(D->Prop)->Prop}(ho:OpR X (binaryOp op) r)(hd:OpD W r o)(ha:JE X W a da)(hb:JE X W b db):JE X W (.BinOp a op b pos) (dOp o da db):=⟨Q7v ho hd ha.h hb.h⟩
theorem DJ {op:CmpOp}{r:R2}{o:D->D->(D->Prop)->Prop}(ho:OpR X (compareOp op) r)(hd:OpD W r o)(ha:JE X W a da)(hb:JE X W b db)(hm:behindInMarks op b=false):JE X W (.Compare a [op] [b] pos) (dOp o da db):=⟨Q4m ho hd ha.h hb.h hm⟩
theorem Q8 {r:R2}{o:D->D->(D->Prop)->Prop}(hr:IxR X r)(hd:OpD W r o)(ha:JE X W a da)(hb:JE X W b db)(hs:TQ b):JE X W (.Subscript a b pos) (dOp o da db):=⟨Q7w hr hd ha.h hb.h hs⟩
theorem HC (ha:JE X W a da):JE X W (.UnaryOp .USub a pos) (dUn Q6v da):=⟨Q4j ha.h⟩
variable {rest:List Expr}
theorem IL {op}(h:JE X W a da):JE X W (.BoolOp op [a] pos) da:=⟨Q4g h.h⟩
theorem IM (ha:JE X W a da)(hb:JE X W (.BoolOp .And (b::rest) pos) db):JE X W (.BoolOp .And (a::b::rest) pos) (Q8l da db):=⟨Q4n ha.h hb.h⟩
theorem J4r (ha:JE X W a da)(hb:JE X W (.BoolOp .Or (b::rest) pos) db):JE X W (.BoolOp .Or (a::b::rest) pos) (dOr da db):=⟨Q7u ha.h hb.h⟩
theorem ZL (ha:JE X W a da):JE X W (.UnaryOp .Not a pos) (Q8e da):=⟨Q4h ha.h⟩
theorem Y3 {op:CmpOp}{r:R2}{o:D->D->(D->Prop)->Prop}(ho:OpR X (compareOp op) r)(hd:OpD W r o)(ha:JE X W a da)(hb:JE X W b db)(hm:behindInMarks op b=false):JT X W (.Compare a [op] [b] pos) (Q1b (dOp o da db)):=⟨Q3u ho hd ha.h hb.h hm⟩
theorem AC (hK:X.K=W.K)(ha:JE X W a da)(he:∀ whole,isTrue a X.env whole=(do let v <- whole;standAt a.pos;holding [v] (truthy v))):JT X W a (Q7z da):=⟨J5d hK ha.h he⟩
variable {ta tb:DT}
theorem UY (ha:JT X W a ta):JW X W (.BoolOp .And [a] pos) ta:=⟨J9a ha.h⟩
theorem GY (ha:JT X W a ta):JW X W (.BoolOp .Or [a] pos) ta:=⟨Q3s ha.h⟩
theorem J8n (ha:JT X W a ta)(hb:JW X W (.BoolOp .And (b::rest) pos) tb):JW X W (.BoolOp .And (a::b::rest) pos) (ZV ta tb):=⟨J5c ha.h hb.h⟩
theorem XV (ha:JT X W a ta)(hb:JW X W (.BoolOp .Or (b::rest) pos) tb):JW X W (.BoolOp .Or (a::b::rest) pos) (J9t ta tb):=⟨Q1a ha.h hb.h⟩
theorem GZ (ha:JT X W a ta):JT X W (.UnaryOp .Not a pos) (Q1c ta):=⟨Q3t ha.h⟩
theorem LX {op op':CmpOp}{r r':R2}{o o':D->D->(D->Prop)->Prop}(ho:OpR X (compareOp op) r)(ho':OpR X (compareOp op') r')(hd:OpD W r o)(hd':OpD W r' o')(ha:JE X W a da)(hb:JE X W b db)(hc:JE X W c dc)
 (hm:lastMarks [op,op'] [b,c]=false:=by with_unfolding_all rfl):JE X W (.Compare a [op,op'] [b,c] pos) (J5s o o' da db dc):=⟨J5m ho ho' hd hd' ha.h hb.h hc.h hm⟩
theorem J1:JA X W [] Q5k:=⟨Q4p ⟩
theorem J0 {dr:DA}(ha:JE X W e da)(hr:JA X W es dr)(hs:starEach (e::es) X.env=(false,eval e X.env)::starEach es X.env:=by rfl):JA X W (e::es) (J0g da dr):=⟨J9r ha.h hr.h hs⟩
theorem Z9 {x1}(h:JA X W es dA):JE X W (.Tuple es x1 pos) (Q7y dA):=⟨Q4e h.h⟩
theorem EK (h:JA X W es dA):JE X W (.List es pos) (Q8f dA):=⟨Q4k h.h⟩
end
section
variable {X:Cx}{W:Wd}{e:Expr}{es:List Expr}{pos p:Pos}{dA:DA}{x:Str}{k:Nat}{ps:List Str}{S:DSp}
theorem J9 (G:Callee X.prog X.w X.K X.mg X.base CX0 x k ps (J8 W.K W.B S))(hr:Room k X.A)(hg:Gl X x)(ha:JA X W (e::es) dA)(hdb:(x==("__debug__" : Str))=false:=by decide) (he:starEach (e::es) X.env=(false,eval e X.env)::starEach es X.env:=by rfl) (hpl:(backTo pos (starEach es X.env)).any (·.1)=false:=by rfl) :
 JE X W (.Call (.Name x p) (e::es) [] pos) (RF S (fun _=>False) dA):=⟨Q4f G hr hg ha.h hdb he hpl⟩
theorem GG {CX:CXT}{E:XK}{Ed:Addr->Prop}(hE:FM W E Ed)(hp:FF CX X E)(G:Callee X.prog X.w X.K X.mg X.base CX x k ps (J8 W.K W.B S))(hr:Room k X.A)(hg:Gl X x)(ha:JA X W (e::es) dA)(hdb:(x==("__debug__" : Str))=false:=by decide) (he:starEach (e::es) X.env=(false,eval e X.env)::starEach es X.env:=by rfl) (hpl:(backTo pos (starEach es X.env)).any (·.1)=false:=by rfl) :
 JE X W (.Call (.Name x p) (e::es) [] pos) (RF S Ed dA):=⟨J9o hE hp G hr hg ha.h hdb he hpl⟩
variable {r:List V->Hp->VK->Prop}{o:List D->(D->Prop)->Prop}{id T:String}
theorem Q5 (hc:CD X (.builtin id) r)(hd:EH W r o)(hg:Gl X x)(hm:X.mg x=none)(hv:bootBuiltins x=some (.builtin id))(ha:JA X W (e::es) dA)(hn:x≠"__name__":=by decide) (hdb:(x==("__debug__" : Str))=false:=by decide)
 (he:starEach (e::es) X.env=(false,eval e X.env)::starEach es X.env:=by rfl) (hpl:(backTo pos (starEach es X.env)).any (·.1)=false:=by rfl):JE X W (.Call (.Name x p) (e::es) [] pos) (dCB o dA):=⟨J5n hc hd hg hm hv ha.h hn hdb he hpl⟩
theorem DV (hc:CD X (.type T) r)(hd:EH W r o)(hg:Gl X x)(hm:X.mg x=none)(hv:bootBuiltins x=some (.type T))(ha:JA X W (e::es) dA)(hn:x≠"__name__":=by decide) (hdb:(x==("__debug__" : Str))=false:=by decide)
 (he:starEach (e::es) X.env=(false,eval e X.env)::starEach es X.env:=by rfl) (hpl:(backTo pos (starEach es X.env)).any (·.1)=false:=by rfl):JE X W (.Call (.Name x p) (e::es) [] pos) (dCB o dA):=⟨J2h hc hd hg hm hv ha.h hn hdb he hpl⟩
end
section
variable {X:Cx}{W:Wd}{tg l a b:Expr}{pos p:Pos}{dl:DE}{dA:DA}{fz:Bool}
theorem Z5 (hK:X.K=W.K)(hl:JE X W l dl):JI X W fz tg l (Q7g fz dl):=⟨Q4c hK hl.h⟩
theorem AK (hg:Gl X "range") (hm:X.mg "range" = none) (ha:JA X W [a] dA) (hs:starEach [a] X.env=[(false,eval a X.env)]:=by rfl):JI X W fz tg (.Call (.Name "range" p) [a] [] pos) (ZP dA):=⟨J2g hg hm ha.h hs⟩
theorem ON (hg:Gl X "range") (hm:X.mg "range" = none) (ha:JA X W [a,b] dA) (hs:starEach [a,b] X.env=[(false,eval a X.env),(false,eval b X.env)]:=by rfl) (hs2:starEach [b] X.env=[(false,eval b X.env)]:=by rfl):JI X W fz tg (.Call (.Name "range" p) [a,b] [] pos) (ZO dA):=⟨J2f hg hm ha.h hs hs2⟩
theorem J8q {elts:List Expr}{c1}{tpos:Pos}(hK:X.K=W.K)(t1 t2:Bool)(hg:Gl X "zip") (hm:X.mg "zip" = none) (ha:JA X W [a,b] dA)
 (h:PI X (.Tuple elts c1 tpos) (.Call (.Name "zip" p) [a,b] [] pos) (J4t W.K t1 t2 (dnA W dA))):JI X W fz (.Tuple elts c1 tpos) (.Call (.Name "zip" p) [a,b] [] pos) (Q0t fz t1 t2 dA):=⟨Q4b hK t1 t2 hg hm ha.h h⟩
end
section
variable {X:Cx}{W:Wd}{elt iter tg:Expr}{ifs:List Expr}{scope:Scope}{pos:Pos}{N':List Str}{map:List (Option Nat)}{g:TG}{gd:D->Ev->(Ev->Prop)->Prop}{di:DA}{dt:DT}{de:DE}
theorem EA (hG:GD W g gd)(B:Blk X N' scope map tg elt ifs g (dnT W dt) (dn W de))(hi:JI X W false tg iter di)(hs:∀ x,foldedSetIterable iter X.env x=pure x:=by intro _;rfl):JE X W (.ListComp elt [⟨tg,iter,ifs,0⟩] scope pos) (Q1j map gd di dt de):=⟨J9p hG B hi.h hs⟩
theorem AG:JIf X W [] MN:=⟨J9n ⟩
theorem HV {c:Expr}(hc:JT X W c dt):JIf X W [c] dt:=⟨J9m hc.h⟩
end
section
variable {X:Cx}{W:Wd}{e c tg iter:Expr}{es:List Expr}{pos:Pos}{db de:DE}{dA di:DA}{dt:DT}{st:Stmt}{rest:List Stmt}{d1 d2:DS}
theorem Y0:JSs X W [] Q1h:=⟨J9c ⟩
theorem J7 (h:JS X W st d1):JSs X W [st] d1:=⟨J9b h.h⟩
theorem J4 (h1:JS X W st d1)(h2:JSs X W rest d2):JSs X W (st::rest) (Q4t d1 d2):=⟨J5e h1.h h2.h⟩
theorem SJ:JS X W (.Continue pos) Q8h:=⟨VL ⟩
theorem V2 (he:JE X W e de):JS X W (.Return (some e) pos) (Q8c de):=⟨Q3w he.h⟩
theorem OJ (he:JE X W e de)(hs:swapsWith e none pos.line X.env=pure false:=by rfl):JS X W (.Expr e pos) (Q1i de):=⟨J9g he.h hs⟩
theorem Z3 {s1 s2:List Stmt}(hc:JT X W c dt)(ha:JSs X W s1 d1)(hb:JSs X W s2 d2):JS X W (.If c s1 s2 pos) (Q8g dt d1 d2):=⟨Q7t hc.h ha.h hb.h⟩
theorem V0 {i:Nat} {x:Str} {pos':Pos} (hN:X.N.Nodup) (hi:X.N[i]?=some x) (hx:Loc X.env.scope x) (he:JE X W e de) (hs:swapsWith e (some (.Name x pos')) pos.line X.env=pure false:=by rfl) (hf:X.fn x=true\/X.env.scope.names.lookup x=some .local:=by first|exact .inl rfl|exact .inr rfl|assumption) :
 JS X W (.Assign [.Name x pos'] e pos) (J5t de (gdN i)):=⟨Q3v hN hi hx he.h hs hf⟩
theorem CM {g:TG}{gd:D->Ev->(Ev->Prop)->Prop}(hG:GD W g gd)(he:JE X W e de)(hg:PG X tg g)(hs:swapsWithSole [tg] e pos.line X.env=pure false:=by rfl)(hw:swappedStores [tg] e X.env=pure none:=by rfl)
 (h1:(assignEach [tg] X.env).map (·.2)=[assign tg X.env]:=by rfl):JS X W (.Assign [tg] e pos) (J5t de gd):=⟨Q4a hG he.h hg hs hw h1⟩
theorem KQ {i:Nat} {x:Str} {pos' lpos:Pos} (hN:X.N.Nodup) (hi:X.N[i]?=some x) (hx:Loc X.env.scope x) (ha:JA X W es dA) (hs:swapsWith (.List es lpos) (some (.Name x pos')) pos.line X.env=pure false:=by rfl) (hf:X.fn x=true\/X.env.scope.names.lookup x=some .local:=by first|exact .inl rfl|exact .inr rfl|assumption) :
 JS X W (.Assign [.Name x pos'] (.List es lpos) pos) (Q1g i dA):=⟨J9f hN hi hx ha.h hs hf⟩
theorem OH {elt iter tg:Expr}{ifs:List Expr}{scope:Scope}{N':List Str}{map:List (Option Nat)}{g:TG}{gd:D->Ev->(Ev->Prop)->Prop}(own:Bool){i:Nat}{y:Str}{py spos:Pos}(hN:X.N.Nodup)(hiN:X.N[i]?=some y)(hy:Loc X.env.scope y)(hG:GD W g gd)(B:Blk X N' scope map tg elt ifs g (dnT W dt) (dn W de))(hi:JI X W false tg iter di)
 (hsw:swapsWith (.ListComp elt [⟨tg,iter,ifs,0⟩] scope pos) (some (.Name y py)) spos.line X.env=pure true:=by rfl) (hfn:X.fn y=true\/X.env.scope.names.lookup y=some .local:=by first|exact .inl rfl|exact .inr rfl)
 (hs:∀ x,foldedSetIterable iter X.env x=pure x:=by intro _;rfl):JS X W (.Assign [.Name y py] (.ListComp elt [⟨tg,iter,ifs,0⟩] scope pos) spos) (Q1f own i map gd di dt de):=⟨J9e own hN hiN hy hG B hi.h hsw hfn hs⟩
theorem FD {i:Nat}{x:Str}{e:Expr}{npos apos cpos:Pos}(hK:X.K=W.K)(hN:X.N[i]?=some x)(hv:Vis X.env.scope x)(ha:JA X W [e] dA)
 (h:PE X (.Call (.Attribute (.Name x npos) "append" apos) [e] [] cpos) (tBM X.K "list" IH (HK i) (dnA W dA))) (hs:swapsWith (.Call (.Attribute (.Name x npos) "append" apos) [e] [] cpos) none pos.line X.env=pure false:=by rfl) :
 JS X W (.Expr (.Call (.Attribute (.Name x npos) "append" apos) [e] [] cpos) pos) (J9x i dA):=⟨J2c hK hN hv ha.h h hs⟩
theorem UZ {i:Nat}{x:Str}{n:Expr}{dk:DE}{npos tpos:Pos}(hN:X.N[i]?=some x)(hv:Vis X.env.scope x)(he:JE X W e de)(hk:JE X W n dk)(hg:PG X (.Subscript (.Name x npos) n tpos) (J2a (HK i) (dn W dk) UG))
 (hs:swapsWithSole [.Subscript (.Name x npos) n tpos] e pos.line X.env=pure false:=by rfl) (hw:swappedStores [.Subscript (.Name x npos) n tpos] e X.env=pure none:=by rfl)
 (h1:(assignEach [.Subscript (.Name x npos) n tpos] X.env).map (·.2)=[assign (.Subscript (.Name x npos) n tpos) X.env]:=by rfl):JS X W (.Assign [.Subscript (.Name x npos) n tpos] e pos) (ZW i de dk):=⟨J9d hN hv he.h hk.h hg hs hw h1⟩
theorem J8p {i:Nat} {x:Str} {op:Operator} {f:Int->Int->Int} {pos':Pos} (hN:X.N.Nodup) (hi:X.N[i]?=some x) (hx:Loc X.env.scope x) (he:JE X W e de) (ho:PIp X op (ipI f)) (hf:X.fn x=true\/X.env.scope.names.lookup x=some .local:=by first|exact .inl rfl|exact .inr rfl|assumption) :
 JS X W (.AugAssign (.Name x pos') op e pos) (Q5b i f de):=⟨Q3z hN hi hx he.h ho hf⟩
theorem AY {g:TG}{gd:D->Ev->(Ev->Prop)->Prop}{db:DS}{body:List Stmt}(hG:GD W g gd)(hp:PassesOwn (model X.prog X.w) X.A X.env X.xe)(hc:X.calm=true)(hi:JI X W true tg iter di)(hg:PG X tg g)(hb:JSs X W body db)
 (hs:∀ x,foldedSetIterable iter X.env x=pure x:=by intro _;rfl):JS X W (.For tg iter body [] pos) (Q4w gd di db):=⟨Q3x hG hp hc hi.h hg hb.h hs⟩
theorem LU {E:XK}{Ed:Addr->Prop}{C:Addr}(hE:FM W E Ed)(h:PS X st (fun _ _ H1=>E (.ref C) none H1)):JS X W st (J5r Ed C):=⟨J5f hE h⟩
end
section
variable {X:Cx}{W:Wd}{e:Expr}{es:List Expr}{pos p:Pos}{dl de:DE}{dA:DA}
theorem OM:JO X W none oNo:=⟨J9j ⟩
theorem OL (h:JE X W e de):JO X W (some e) (oPt de):=⟨J9i h.h⟩
theorem LW {lo hi:Option Expr}{dl dh:DO}{p2:Pos}(hr:SlR X (fun x lo hi H Q=>J3d W.K x lo hi H Q\/J3e W.K x lo hi H Q))(he:JE X W e de)(hl:JO X W lo dl)(hu:JO X W hi dh):JE X W (.Subscript e (.Slice lo hi none p2) pos) (dSl de dl dh):=⟨J5k hr he.h hl.h hu.h⟩
theorem J8o {spos:Pos}{x f:Str}{k:Nat}{ps:List Str}{pre:List D->Prop}{i:Nat}{pos':Pos}(hb0:W.b0=none)(hN:X.N.Nodup)(hi:X.N[i]?=some x)(hx:Loc X.env.scope x)(G:Callee X.prog X.w X.K X.mg X.base CX0 f k ps (VZ W.K W.B pre))(hr:Room k X.A)(hg:Gl X f)(ha:JA X W (e::es) dA)
 (hdb:(f==("__debug__" : Str))=false:=by decide) (he:starEach (e::es) X.env=(false,eval e X.env)::starEach es X.env:=by rfl) (hpl:(backTo pos (starEach es X.env)).any (·.1)=false:=by rfl)
 (hs:swapsWith (.Call (.Name f p) (e::es) [] pos) (some (.Name x pos')) spos.line X.env=pure false:=by rfl) (hf:X.fn x=true\/X.env.scope.names.lookup x=some .local:=by first|exact .inl rfl|exact .inr rfl|assumption) :
 JS X W (.Assign [.Name x pos'] (.Call (.Name f p) (e::es) [] pos) spos) (Q8i i pre dA):=⟨Q3y hb0 hN hi hx G hr hg ha.h hdb he hpl hs hf⟩
end
section
variable {X:Cx}{W:Wd}{a b:Expr}{rest:List Expr}{pos:Pos}{ta tb:DT}
theorem ZK (ha:JT X W a ta)(hb:JW X W (.BoolOp .And (b::rest) pos) tb):JT X W (.BoolOp .And (a::b::rest) pos) (ZV ta tb):=⟨(J5c ha.h hb.h).pt⟩
theorem JQ (ha:JT X W a ta)(hb:JW X W (.BoolOp .Or (b::rest) pos) tb):JT X W (.BoolOp .Or (a::b::rest) pos) (J9t ta tb):=⟨(Q1a ha.h hb.h).pt⟩
end
theorem J2b {es:List Expr}{k}{pos:Pos}{env:Env}:∀ x,foldedSetIterable (.Tuple es k pos) env x=pure x:=fun _=>rfl
theorem MG {X:Cx} {W:Wd} {N':List Str} {scope:Scope} {map:List (Option Nat)} {tg elt:Expr} {ifs:List Expr} {g:TG} {dt:DT} {de:DE} (calm:X.calm=true) (kind:scope.kind=.function) (loc:∀ x∈scope.names,x.2=.local->scope.names.lookup x.1=some .local) (free:(scope.names.all fun p=>!(p.2==NameKind.free)||(X.env.kindOf p.1==some .cell||X.env.kindOf p.1==some .free))=true) (cap:CapOk X scope map N') (keep:IE g map)
 (run:∀ cells C fp s H,PG (Q0 X N' scope cells C fp s H) tg g/\JIf (Q0 X N' scope cells C fp s H) W ifs dt/\JE (Q0 X N' scope cells C fp s H) W elt de):Blk X N' scope map tg elt ifs g (dnT W dt) (dn W de) :=
 ⟨calm,kind,loc,free,cap,keep,fun cells C fp s H=>⟨(run cells C fp s H).1,(run cells C fp s H).2.1.h,(run cells C fp s H).2.2.h⟩⟩
theorem Fun.okD {P:Program}{w:World} {mg:Str->Option Value}{base:Heap}{x qual:Str}{st:Stmt}{f:Addr} {N ps:List Str}{k:Nat}{B:BagT}{Sd:DSp}(F:Fun K x qual st f fd)(S:FnScope N ps (J3 st))(len:∀ ds PP Ed,Sd ds PP Ed->ds.length=ps.length)
 (hbody:∀ (cdv:Value) (A:Around) (outer:List Env) (s:Shared) (H:Hp) (E:XK) (M:Addr->Prop) (bg:Option Addr) (ds:List D) (PP:D->Prop) (Ed:Addr->Prop),Room k (A.deeper (envOfC qual (J3 st) s.heap.objs.size f cdv))->Sd ds PP Ed ->
  ∃ d,JSs (V1 CX0 P w K mg base N qual (J3 st) f cdv A outer s H E).nox ⟨K,B,H,M,bg⟩ (BV st) d/\d { nx:=fun _=>PP .non,rt:=PP } (BH N ds)):FnOk P w K mg base CX0 (k+1) f fd ps (J8 K B Sd) :=
 F.ok S (J8.len len) fun cdv A outer s H vs Q E hr h=>by
  obtain ⟨M,bg,ds,PP,Ed,hS,hR,ho,hb,hd,hq,hx⟩:=h
  obtain ⟨d,J,q⟩:=hbody cdv A outer s H E M bg ds PP Ed hr hS
  exact ⟨_,J.h,run hR ho hb hd hq q⟩
theorem Fun.okDX {P:Program}{w:World} {mg:Str->Option Value}{base:Heap}{CX:CXT}{x qual:Str}{st:Stmt}{f:Addr} {N ps:List Str}{k:Nat}{B:BagT}{Sd:DSp}(F:Fun K x qual st f fd)(S:FnScope N ps (J3 st))(len:∀ ds PP Ed,Sd ds PP Ed->ds.length=ps.length)
 (hbody:∀ (cdv:Value) (A:Around) (outer:List Env) (s:Shared) (H:Hp) (E:XK) (M:Addr->Prop) (bg:Option Addr) (ds:List D) (PP:D->Prop) (Ed:Addr->Prop),Room k (A.deeper (envOfC qual (J3 st) s.heap.objs.size f cdv))->FM ⟨K,B,H,M,bg⟩ E Ed->Sd ds PP Ed ->
  ∃ d,JSs (V1 CX P w K mg base N qual (J3 st) f cdv A outer s H E) ⟨K,B,H,M,bg⟩ (BV st) d/\d { nx:=fun _=>PP .non,rt:=PP } (BH N ds)):FnOk P w K mg base CX (k+1) f fd ps (J8 K B Sd) :=
 F.okX S (J8.len len) fun cdv A outer s H vs Q E hr h=>by
  obtain ⟨M,bg,ds,PP,Ed,hS,hR,ho,hb,hd,hq,hx⟩:=h
  obtain ⟨d,J,q⟩:=hbody cdv A outer s H E M bg ds PP Ed hr (fun C H' e k o=>hx C H' e k o) hS
  exact ⟨_,J.h,run hR ho hb hd hq q⟩
theorem Fun.okL {P:Program}{w:World} {mg:Str->Option Value}{base:Heap}{x qual:Str}{st:Stmt}{f:Addr} {N:List Str}{p:Str}{k:Nat}(B:BagT)(F:Fun K x qual st f fd)(S:FnScope N [p] (J3 st))
 (hbody:∀ (cdv:Value) (A:Around) (outer:List Env) (s:Shared) (H:Hp) (E:XK) (ns:List Int),Room k (A.deeper (envOfC qual (J3 st) s.heap.objs.size f cdv))->ns.length<=63 ->
  ∃ d,JSs (V1 CX0 P w K mg base N qual (J3 st) f cdv A outer s H E).nox ⟨K,B,H,fun _=>False,none⟩ (BV st) d/\d { nx:=fun _=>D.non=.bl true,rt:=fun d=>d=.bl true } (BH N [.scr ns])) :
 FnOk P w K mg base CX0 (k+1) f fd [p] (fun vs H Q _=>∃ (a:Addr) (ns:List Int),vs=[.ref a]/\SqL K H a (ns.map V.int)/\ns.length<=63/\∀ H',Q (.bl true) H') :=
 F.ok S (fun vs H Q E h=>by obtain ⟨a,ns,rfl,_⟩:=h;rfl) fun cdv A outer s H vs Q E hr h=>by
  obtain ⟨a,ns,rfl,hS,hlen,k⟩:=h
  have hR:RepAs K (fun _=>False) none H [.scr ns] [.ref a]:=⟨.ref a,[],rfl,⟨a,rfl,hS.imp (fun q=>⟨id,q⟩) id⟩,rfl⟩
  obtain ⟨d,J,q⟩:=hbody cdv A outer s H E ns hr hlen
  exact ⟨_,J.h,run (P:=fun d=>d=.bl true) hR (fun p e=>by cases e) (fun p e=>by cases e) (fun c m=>m.elim) (fun d v H' hd r _ _=>by cases hd;cases (show _=_ from r);exact k H') q⟩
mutual
def AQ:D->Option PyData
 | .non=>some .none
 | .bl b=>some (.bool b)
 | .int i=>some (.int i)
 | .str x=>if PyData.strOk x then some (.str x) else none
 | .tup xs=>(FA xs).map .tuple
 | .lst xs=>(FA xs).map .list
 | .own xs=>(FA xs).map .list
 | .ty _=>none
 | .adr _=>none
 | .bag=>none
 | .frg _ d=>AQ d
 | .scr _=>none
 | .dct _ _ _=>none
def FA:List D->Option (List PyData)
 | []=>some []
 | d::ds=>(AQ d).bind fun p=>(FA ds).map (p::·)
end
mutual
theorem AQ.lay:∀ (d:D) (p:PyData),AQ d=some p->p.canLay0=true
 | .non,p,h=>by cases h;rfl
 | .bl b,p,h=>by cases h;rfl
 | .int i,p,h=>by cases h;rfl
 | .str x,p,h=>by
   unfold AQ at h
   split at h
   · cases h;unfold PyData.canLay0;assumption
   · cases h
 | .tup xs,p,h=>by
   unfold AQ at h
   obtain ⟨ps,e,rfl⟩:=Option.map_eq_some_iff.mp h
   unfold PyData.canLay0
   exact FA.lay xs ps e
 | .lst xs,p,h=>by
   unfold AQ at h
   obtain ⟨ps,e,rfl⟩:=Option.map_eq_some_iff.mp h
   unfold PyData.canLay0
   exact FA.lay xs ps e
 | .own xs,p,h=>by
   unfold AQ at h
   obtain ⟨ps,e,rfl⟩:=Option.map_eq_some_iff.mp h
   unfold PyData.canLay0
   exact FA.lay xs ps e
 | .ty _,p,h=>by unfold AQ at h;cases h
 | .adr _,p,h=>by unfold AQ at h;cases h
 | .bag,p,h=>by unfold AQ at h;cases h
 | .frg _ d,p,h=>by unfold AQ at h;exact AQ.lay d p h
 | .scr _,p,h=>by unfold AQ at h;cases h
 | .dct _ _ _,p,h=>by unfold AQ at h;cases h
theorem FA.lay:∀ (ds:List D) (ps:List PyData),FA ds=some ps->PyData.canLayAll0 ps=true
 | [],ps,h=>by cases h;rfl
 | d::ds,ps,h=>by
   unfold FA at h
   obtain ⟨p,e1,h⟩:=Option.bind_eq_some_iff.mp h
   obtain ⟨qs,e2,rfl⟩:=Option.map_eq_some_iff.mp h
   unfold PyData.canLayAll0
   rw [AQ.lay d p e1,FA.lay ds qs e2];rfl
end
section
variable {X:Cx}{pins:List (Addr×Obj)}{σ:St}{H:Hp}{s:Shared}{M:Addr->Prop}
mutual
theorem LJ (I:Inv X pins σ H s):∀ (d:D) (v:V) (u:Value) (p:PyData),Rep X.K M H d v->RelV v u->AQ d=some p->∃ as,Reads s.heap u p as
 | .non,v,u,p,r,q,h=>by cases h;cases (show _=_ from r);cases (show u=Value.none from q);exact ⟨_,.none⟩
 | .bl b,v,u,p,r,q,h=>by cases h;cases (show _=_ from r);cases (show u=Value.bool b from q);exact ⟨_,.bool _⟩
 | .int i,v,u,p,r,q,h=>by
   cases h;cases (show _=_ from r)
   obtain ⟨t,rfl⟩:=(show ∃ t,u=Value.int i t from q)
   exact ⟨_,.int _ _⟩
 | .str x,v,u,p,r,q,h=>by
   unfold AQ at h
   split at h
   · cases h;cases (show _=_ from r)
     obtain ⟨t,rfl⟩:=(show ∃ t,u=Value.str x t from q)
     exact ⟨_,.str _ _⟩
   · cases h
 | .tup xs,v,u,p,r,q,h=>by
   unfold AQ at h
   obtain ⟨ps,e,rfl⟩:=Option.map_eq_some_iff.mp h
   obtain ⟨a,vs,rfl,z,rs⟩:=r
   cases (show u=Value.ref a from q)
   obtain ⟨its,r1,⟨o,h1,h2,n,h3⟩,_⟩:=I.tuple z.sq
   obtain ⟨as,ra⟩:=GQ I xs vs its ps rs r1 e
   exact ⟨as,.tuple h1 h2 h3 (by simpa using ra)⟩
 | .lst xs,v,u,p,r,q,h=>by
   unfold AQ at h
   obtain ⟨ps,e,rfl⟩:=Option.map_eq_some_iff.mp h
   obtain ⟨a,vs,rfl,z,rs⟩:=r
   cases (show u=Value.ref a from q)
   obtain ⟨its,r1,⟨o,n,h1,h2,_,h3⟩,_⟩:=I.list (SqL.of z.2)
   obtain ⟨as,ra⟩:=GQ I xs vs its ps rs r1 e
   exact ⟨a::as,.list h1 h2 h3 (by simpa using ra)⟩
 | .own xs,v,u,p,r,q,h=>r.elim
 | .ty _,_,_,p,_,_,h=>by unfold AQ at h;cases h
 | .adr _,_,_,p,_,_,h=>by unfold AQ at h;cases h
 | .bag,_,_,p,_,_,h=>by unfold AQ at h;cases h
 | .frg _ _,_,_,p,r,_,h=>r.elim
 | .scr _,_,_,p,_,_,h=>by unfold AQ at h;cases h
 | .dct _ _ _,_,_,p,_,_,h=>by unfold AQ at h;cases h
theorem GQ (I:Inv X pins σ H s):∀ (ds:List D) (vs:List V) (us:List Value) (ps:List PyData),Reps X.K M H ds vs->Vals vs us->FA ds=some ps->∃ as,ReadsAll s.heap us ps as
 | [],vs,us,ps,r,q,h=>by
   cases h
   cases (show vs=[] from r)
   cases q
   exact ⟨[],.nil⟩
 | d::ds,vs,us,ps,r,q,h=>by
   unfold FA at h
   obtain ⟨p,e1,h⟩:=Option.bind_eq_some_iff.mp h
   obtain ⟨qs,e2,rfl⟩:=Option.map_eq_some_iff.mp h
   obtain ⟨v,rv,rfl,r1,r2⟩:=r
   cases q with
   | cons q1 q2 =>
     obtain ⟨as,a1⟩:=LJ I d v _ p r1 q1 e1
     obtain ⟨bs,a2⟩:=GQ I ds rv _ qs r2 q2 e2
     exact ⟨as++bs,.cons a1 a2⟩
end
end
def Q0i (K:Fg)(M:Addr->Prop)(H:Hp):D->V->Prop
 | .own xs,v=>∃ a vs,v=.ref a/\H a=some (.lst vs)/\Reps K M H xs vs
 | .frg _ d,v=>∃ M',Rep K M' H d v
 | d,v=>Rep K M H d v
theorem RepX.g {W:Wd} {H:Hp}{d:D}{v:V}{p:PyData}(h:RepX W M b H d v)(e:AQ d=some p):Q0i W.K M H d v:=by
 cases d
 case own xs=>obtain ⟨a,vs,rfl,_,_,_,_,hh,r⟩:=h;exact ⟨a,vs,rfl,hh,r⟩
 case bag=>unfold AQ at e;cases e
 case frg f d=>exact ⟨_,h.2.2⟩
 all_goals exact h
theorem GR {X:Cx}{pins:List (Addr×Obj)}{σ:St}{H:Hp}{s:Shared} (I:Inv X pins σ H s){d:D}{v:V}{u:Value}{p:PyData}(r:Q0i X.K M H d v)(q:RelV v u)(h:AQ d=some p):∃ as,Reads s.heap u p as:=by
 cases d
 case own xs =>
  obtain ⟨a,vs,rfl,hh,r⟩:=r
  unfold AQ at h
  obtain ⟨ps,e,rfl⟩:=Option.map_eq_some_iff.mp h
  cases (show u=Value.ref a from q)
  obtain ⟨its,r1,⟨o,n,h1,h2,_,h3⟩,_⟩:=I.list (SqL.of hh)
  obtain ⟨as,ra⟩:=GQ I xs vs its ps r r1 e
  exact ⟨a::as,.list h1 h2 h3 (by simpa using ra)⟩
 case frg f d =>
  obtain ⟨M',r⟩:=r
  exact LJ (M:=M') I d _ _ _ r q (by unfold AQ at h;exact h)
 all_goals exact LJ I _ _ _ _ r q h
def Q2g (K:Fg)(neg:Bool):R2:=fun x y H Q=>∃ M dx dy p q,Q0i K M H dx x/\Q0i K M H dy y/\AQ dx=some p/\AQ dy=some q/\min p.depth q.depth<=60/\Q (.bl (PyData.eqv p q != neg)) H
theorem WZ {X:Cx}(K:Fg)(hK:X.K=K)(hu:X.A.units+64<cLine):OpR X (compareOp .Eq) (Q2g K false):=by
 subst hK
 intro pins s σ H x y v u Q I rx ry h
 obtain ⟨M,dx,dy,p,q,r1,r2,e1,e2,hd,hq⟩:=h
 obtain ⟨as,a1⟩:=GR I r1 rx e1
 obtain ⟨bs,a2⟩:=GR I r2 ry e2
 refine SeqAt.compareEq_reads a1 a2 (AQ.lay _ _ e1) (AQ.lay _ _ e2) (by omega) ?_
 exact ⟨.bl _,H,I,rfl,by simpa using hq⟩
theorem FZ {X:Cx}(K:Fg)(hK:X.K=K)(hu:X.A.units+64<cLine):OpR X (compareOp .NotEq) (Q2g K true):=by
 subst hK
 intro pins s σ H x y v u Q I rx ry h
 obtain ⟨M,dx,dy,p,q,r1,r2,e1,e2,hd,hq⟩:=h
 obtain ⟨as,a1⟩:=GR I r1 rx e1
 obtain ⟨bs,a2⟩:=GR I r2 ry e2
 refine SeqAt.compareNe_reads a1 a2 (AQ.lay _ _ e1) (AQ.lay _ _ e2) (by omega) ?_
 exact ⟨.bl _,H,I,rfl,by simpa using hq⟩
inductive EqG (neg:Bool)(x y:D)(P:D->Prop):Prop
 | mk (p q:PyData) (e1:AQ x=some p) (e2:AQ y=some q) (hd:min p.depth q.depth<=60) (h:P (.bl (PyData.eqv p q != neg))):EqG neg x y P
def Q9f (neg:Bool):D->D->(D->Prop)->Prop:=fun x y P=>EqG neg x y P
theorem DQ {W:Wd}{neg:Bool}:OpD W (Q2g W.K neg) (Q9f neg):=by
 intro M b H x y v u P Q hs rx ry ho k
 obtain ⟨p,q,e1,e2,hd,hp⟩:=ho
 exact ⟨M,x,y,p,q,rx.g e1,ry.g e2,e1,e2,hd,k _ _ H hp (show _=_ from rfl) (Kp.refl _ _) hs.ok⟩
mutual
def BU:Nat->D->Bool
 | _,.non=>true
 | _,.bl _=>true
 | _,.int _=>true
 | _,.str x=>PyData.strOk x
 | n+1,.tup xs=>HD n xs
 | n+1,.lst xs=>HD n xs
 | n+1,.own xs=>HD n xs
 | n,.frg _ d=>BU n d
 | _,_=>false
def HD:Nat->List D->Bool
 | _,[]=>true
 | n,d::ds=>BU n d&&HD n ds
end
mutual
theorem SM:∀ (n:Nat) (d:D),BU n d=true->∃ p,AQ d=some p/\p.depth<=n/\PyData.eqv p p=true
 | n,.non,h=>⟨_,rfl,Nat.zero_le _,rfl⟩
 | n,.bl b,h=>⟨_,rfl,Nat.zero_le _,by simp [PyData.eqv]⟩
 | n,.int i,h=>⟨_,rfl,Nat.zero_le _,by simp [PyData.eqv]⟩
 | n,.str x,h=>by
   have h:PyData.strOk x=true:=by cases n<;>simpa [BU] using h
   exact ⟨.str x,by unfold AQ;rw [if_pos h],Nat.zero_le _,by simp [PyData.eqv]⟩
 | 0,.tup xs,h=>by simp [BU] at h
 | 0,.lst xs,h=>by simp [BU] at h
 | 0,.own xs,h=>by simp [BU] at h
 | n+1,.tup xs,h=>by
   obtain ⟨ps,e,hd,hq⟩:=KS n xs (by simpa [BU] using h)
   exact ⟨.tuple ps,by unfold AQ;rw [e];rfl,by unfold PyData.depth;omega,by unfold PyData.eqv;exact hq⟩
 | n+1,.lst xs,h=>by
   obtain ⟨ps,e,hd,hq⟩:=KS n xs (by simpa [BU] using h)
   exact ⟨.list ps,by unfold AQ;rw [e];rfl,by unfold PyData.depth;omega,by unfold PyData.eqv;exact hq⟩
 | n+1,.own xs,h=>by
   obtain ⟨ps,e,hd,hq⟩:=KS n xs (by simpa [BU] using h)
   exact ⟨.list ps,by unfold AQ;rw [e];rfl,by unfold PyData.depth;omega,by unfold PyData.eqv;exact hq⟩
 | n,.ty _,h=>by cases n<;>simp [BU] at h
 | n,.adr _,h=>by cases n<;>simp [BU] at h
 | n,.bag,h=>by cases n<;>simp [BU] at h
 | n,.frg _ d,h=>by
   obtain ⟨p,e,h1,h2⟩:=SM n d (by cases n<;>simpa [BU] using h)
   exact ⟨p,by unfold AQ;exact e,h1,h2⟩
 | n,.scr _,h=>by cases n<;>simp [BU] at h
 | n,.dct _ _ _,h=>by cases n<;>simp [BU] at h
theorem KS:∀ (n:Nat) (ds:List D),HD n ds=true->∃ ps,FA ds=some ps/\PyData.depthAll ps<=n/\PyData.eqvAll ps ps=true
 | n,[],h=>⟨[],rfl,Nat.zero_le _,rfl⟩
 | n,d::ds,h=>by
   unfold HD at h
   obtain ⟨h1,h2⟩:=(Bool.and_eq_true _ _).mp h
   obtain ⟨p,e1,d1,q1⟩:=SM n d h1
   obtain ⟨ps,e2,d2,q2⟩:=KS n ds h2
   exact ⟨p::ps,by unfold FA;rw [e1,e2];rfl,by unfold PyData.depthAll;omega,by unfold PyData.eqvAll;rw [q1,q2];rfl⟩
end
theorem PB {x y:D}{neg:Bool}{P:D->Prop}(n:Nat)(h:BU n x=true)(e:AQ y=AQ x)(hn:n<=60)(hp:P (.bl (!neg))):EqG neg x y P:=by
 obtain ⟨p,e1,d1,q1⟩:=SM n x h
 refine ⟨p,p,e1,e.trans e1,by omega,?_⟩
 rw [q1]
 simpa using hp
theorem GI {n:Nat}:∀ {ds:List D},(∀ d∈ds,BU n d=true)->HD n ds=true
 | [],_=>by unfold HD;rfl
 | d::ds,h=>by
   unfold HD
   rw [h d (List.mem_cons_self ..),GI fun e he=>h e (List.mem_cons_of_mem _ he)];rfl
def Ite (K:Fg)(l:Addr):It :=
 ⟨fun i H=>∃ ys y,SqL K H l ys/\ys[i]?=some y,
  fun i H v H'=>∃ t y,v=.ref t/\H t=none/\H'=upd H t (.tup [.int i,y])/\∀ ys,SqL K H l ys->ys[i]?=some y,
  fun i H=>∃ ys,SqL K H l ys/\ys.length<=i⟩
def ETn (e it l:Addr)(i:Nat)(h:Heap):Prop:=(∃ old,IsEnum h e it i old)/\ItAt false h it l i
theorem J0q {elts:List Expr}{c1}{tpos:Pos}{e it l:Addr}(hne:e≠it):Turn P w K (.Tuple elts c1 tpos) (Ite K l) [e,it] e (ETn e it l) where
 mem:=by simp
 obj:=fun i h st b hb=>by
  obtain ⟨⟨old,s1⟩,d1⟩:=st
  simp only [List.mem_cons,List.not_mem_nil,or_false] at hb
  rcases hb with rfl|rfl
  · exact ⟨_,s1,fun v q=>by cases q⟩
  · exact d1.obj
 keep:=fun i h h' st k=>by
  obtain ⟨⟨old,s1⟩,d1⟩:=st
  exact ⟨⟨old,k e (by simp) _ s1⟩,d1.at fun o x=>k it (by simp) o x⟩
 item:=by
  intro X hP hw hK hc i pins s σ H E I hf st hg
  subst hP hw hK
  obtain ⟨ys,y,h1,q1⟩:=hg
  obtain ⟨⟨old,s1⟩,d1⟩:=st
  obtain ⟨v1,r1,p1,_⟩:=I.list h1
  obtain ⟨u1,m1,t1⟩:=r1.get q1
  have szn:∀ b∈[e,it],b≠s.heap.objs.size:=fun b hb z=>by
   simp only [List.mem_cons,List.not_mem_nil,or_false] at hb
   rcases hb with rfl|rfl
   · exact Nat.lt_irrefl _ (z▸B5 s1)
   · obtain ⟨_,w1,_⟩:=d1.obj;exact Nat.lt_irrefl _ (z▸B5 w1)
  refine wpAny_pyNext_enum_item s1 d1 p1.isList (x:=u1) (by simpa using m1) hne fun h' eo it' tp sz kp=>?_
  refine ⟨_,rfl,wpAny_letOwnedTupleGo_enum (s:={ s with heap:=h',toks:=s.toks+1 }) eo fun hq e4 sb=>?_⟩
  have up:∀ b o,b≠e->h'.get? b=some o->hq.get? b=some o:=fun b o hb x=>sb.extBut _ _ hb x
  have I2:Inv X pins σ (upd H s.heap.objs.size (.tup [.int i,y])) { s with heap:=hq,toks:=s.toks+1 }:=I.zipped (t':=s.toks+1) (fp:=[e,it]) hf (fun b o hb x=>up b o (fun z=>hb (by simp [z])) (kp b o (fun z=>hb (by simp [z])) (fun z=>hb (by simp [z])) x)) (Nat.le_refl _)
   ⟨Nat.le_trans (Nat.le_of_ble_eq_true rfl) BQ,[.int i s.toks,u1],.cons ⟨_,rfl⟩ (.cons t1 .nil),⟨_,up _ _ (Ne.symm (szn e (by simp))) tp,rfl,_,rfl⟩⟩
  refine ⟨.ref s.heap.objs.size,_,I2,rfl,⟨_,y,rfl,I.hok.fresh (Nat.le_refl _),rfl,fun zs hz=>by rw [I.list_inj hz h1];exact q1⟩,⟨⟨_,e4⟩,ItAt.at (b:=false) it' fun o x=>up _ o (Ne.symm hne) x⟩,fun b hb=>?_⟩
  rw [V3 (szn b hb)]
  exact (hf b hb).1
 done:=by
  intro X hP hw hK hc i pins s σ H E I hf st hg
  subst hP hw hK
  obtain ⟨ys,h1,q1⟩:=hg
  obtain ⟨⟨old,s1⟩,d1⟩:=st
  obtain ⟨v1,r1,p1,_⟩:=I.list h1
  have hl:=r1.length
  refine wpAny_pyNext_enum_end (I.ok.hd hc) s1 d1 p1.isList (by simp;omega) fun h' kp=>⟨rfl,?_⟩
  exact I.turnedL (t':=s.toks) (fp:=[e,it]) hf fun b o hb x=>kp b o (fun z=>hb (by simp [z])) x
 self:=fun _ _ _ _ _ st h=>by
  obtain ⟨⟨old,s1⟩,d1⟩:=st
  exact wpAny_pyIter_enum s1 h
def Q0u (K:Fg)(ta:TA):TI:=fun σ H R=>ta σ H fun vs H1=>∃ l,vs=[.ref l]/\(∃ ys,SqL K H1 l ys)/\R (Ite K l) H1
theorem ZB {X:Cx}{elts:List Expr}{c1}{tpos:Pos}(K:Fg)(hK:X.K=K){e1:Expr}{ta:TA}{p pos:Pos}(hg:Gl X "enumerate") (hm:X.mg "enumerate" = none) (ha:PA X [e1] ta)
 (hs:starEach [e1] X.env=[(false,eval e1 X.env)]:=by rfl):PI X (.Tuple elts c1 tpos) (.Call (.Name "enumerate" p) [e1] [] pos) (Q0u K ta):=by
 subst hK
 intro pins s σ H R I h
 refine Call_ (GA I hg hm TH (PyProof.Rows.callWith_type1 (thn (ha pos pins s σ H _ I h) fun us s1 ⟨vs,H1,I1,r1,q1⟩=>?_) hs rfl))
 obtain ⟨l,rfl,⟨ys,h1⟩,q⟩:=q1
 cases r1 with
 | cons r rr =>
 cases rr
 cases r
 obtain ⟨v1,r1,p1,_⟩:=I1.list h1
 refine call_enumerate_list p1.isList fun h' f1 f2 f3 kp=>?_
 refine wpAny_pyIter_enum (s:={ s1 with heap:=h' }) f1 ?_
 refine ⟨s1.heap.objs.size+1,[s1.heap.objs.size+1,s1.heap.objs.size],_,_,H1,rfl,I1.kept (t':=s1.toks) kp,J0q (l:=l) (by show (_:Nat)≠_;omega),⟨⟨_,f1⟩,f2⟩,fun b hb=>?_,q⟩
 have hge:s1.heap.objs.size<=b:=by
  simp only [List.mem_cons,List.not_mem_nil,or_false] at hb
  rcases hb with rfl|rfl<;>first|exact Nat.le_refl _|exact Nat.le_add_right _ _
 exact I1.fpOk hge (I1.hok.fresh hge)
section
variable {X:Cx}{W:Wd}{e a b c l:Expr}{es:List Expr}{pos p:Pos}{d:DE}{dA:DA}{fz:Bool}{x:Str}{k:Nat}{ps:List Str}{S:DSp}
def FK (xs:List D):List D:=xs.mapIdx fun i x=>.tup [.int i,x]
theorem VJ (xs:List D):(FK xs).all plain=true:=by
 unfold FK
 rw [List.all_eq_true]
 intro y hy
 obtain ⟨i,h,rfl⟩:=List.mem_mapIdx.mp hy
 rfl
def Q3n (fz:Bool)(dA:DA):DA:=fun ρ P=>dA ρ fun zs=>match zs with
 | [x]=>(asK fz false x).elim False fun xs=>P (FK xs)
 | _=>False
theorem J8v {x:D}{xs:List D}{l1:Addr}(h1:asK fz false x=some xs):MI W (Ite W.K l1) [(x,.ref l1)] (FK xs):=by
 intro M b H hs hn
 obtain ⟨⟨a1,us,e1,q1,r1⟩,_⟩:=asK.rep (hn _ (.head _)) h1
 cases e1
 have q1:SqL W.K H l1 us:=q1
 have hlen:(FK xs).length=xs.length:=by simp [FK]
 refine ⟨fun i d e=>?_,fun i hi=>⟨us,q1,by rw [r1.length,<- hlen];exact hi⟩⟩
 have hi:i<xs.length:=by rw [<- hlen];exact (List.getElem?_eq_some_iff.mp e).1
 obtain ⟨u,eu,ru⟩:=r1.get (List.getElem?_eq_getElem hi)
 refine ⟨⟨us,u,q1,eu⟩,fun v H3 ⟨t,y1,ev,ht,eH,k1⟩=>?_⟩
 subst ev eH
 have z1:=k1 us q1
 rw [eu] at z1;cases z1
 refine ⟨Same.upd ht,?_⟩
 have ed:d=.tup [.int i,xs[i]]:=by
  have:(FK xs)[i]?=some (.tup [.int i,xs[i]]):=by simp [FK,hi]
  rw [this] at e;exact (Option.some.inj e).symm
 subst ed
 exact II hs ⟨.int i,[u],rfl,rfl,u,[],rfl,ru,rfl⟩ ht
theorem VB {elts:List Expr}{c1}{tpos:Pos}(hK:X.K=W.K)(ha:JA X W [a] dA)
 (h:PI X (.Tuple elts c1 tpos) (.Call (.Name "enumerate" p) [a] [] pos) (Q0u W.K (dnA W dA))):JI X W fz (.Tuple elts c1 tpos) (.Call (.Name "enumerate" p) [a] [] pos) (Q3n fz dA):=⟨h.mono fun σ H R hh=>hh.elim fun pn M b ρ P st h k=>by
 refine ⟨pn,M,b,ρ,_,st,h,fun zs vs H1 hx rx k1 o1=>?_⟩
 match zs,hx with
 | [x],hx =>
   obtain ⟨v,rfl,r⟩:=rx1 rx
   cases e1:asK fz false x with
   | none=>simp only [e1] at hx;exact hx.elim
   | some xs =>
     simp only [e1] at hx
     obtain ⟨⟨a1,us,z1,q1,r1⟩,f1⟩:=asK.rep r e1
     subst z1
     exact ⟨a1,rfl,⟨us,q1⟩,k _ _ _ H1 hx (VJ _) (J8v e1) (fun q hq=>by
      have z:=List.mem_singleton.mp hq
      subst z;exact ⟨r,f1⟩) k1 o1⟩⟩
def bor:D->D
 | .own xs=>.lst xs
 | .frg _ d=>d
 | d=>d
def Q0y:D->Bool
 | .non=>true
 | .bl _=>true
 | .int _=>true
 | .str _=>true
 | _=>false
def Q5a (S:DSp)(dA:DA):DE:=fun ρ P=>dA ρ fun ds=>S (ds.map bor) (fun d=>Q0y d=true/\P d) (fun _=>False)
theorem RepXs.bor {b:Option Addr}{H:Hp}(hb:∀ p,b=some p->M p):∀ (ds:List D) (vs:List V),RepXs W M b H ds vs->RepAs W.K (fun c=>b=some c) b H (ds.map L2.bor) vs
 | [],_,h=>h
 | d::ds,vs,h=>by
   obtain ⟨v,r,e,h1,h2⟩:=h
   have av:∀ c,b=some c->M c\/H c=none:=fun c hc=>.inl (hb c hc)
   refine ⟨v,r,e,?_,RepXs.bor hb ds r h2⟩
   cases d
   case own xs =>
    obtain ⟨a,us,rfl,m1,m2,m3,m4,hh,r'⟩:=h1
    exact ⟨a,us,rfl,⟨m2,hh⟩,Reps.avoid av _ _ r'⟩
   case bag=>exact h1
   case frg f d =>
    have r:=Rep.avoid (M':=fun c=>b=some c) (fun c hc=>.inl ⟨hb c hc,fun m=>(h1.1 c m).2.1 hc⟩) _ _ h1.2.2
    show J6v W.K _ b H d v
    cases d<;>first|exact r|exact r.elim
   all_goals exact Rep.avoid av _ _ h1
theorem J4y {M M':Addr->Prop}{b:Option Addr}{H:Hp}{d:D}{v:V}(f:Q0y d=true)(h:Rep W.K M H d v):RepX W M' b H d v:=by
 cases d<;>first|exact h|cases f
theorem J4q (G:Callee X.prog X.w X.K X.mg X.base CX0 x k ps (J8 W.K W.B S))(hr:Room k X.A)(hg:Gl X x)(ha:JA X W (e::es) dA)(hdb:(x==("__debug__" : Str))=false:=by decide) (he:starEach (e::es) X.env=(false,eval e X.env)::starEach es X.env:=by rfl) (hpl:(backTo pos (starEach es X.env)).any (·.1)=false:=by rfl) :
 JE X W (.Call (.Name x p) (e::es) [] pos) (Q5a S dA):=⟨(LN G hr hg ha.h hdb he hpl).mono fun σ H Q hh=>hh.elim fun pn M b ρ P st h k=>by
 refine ⟨pn,M,b,ρ,_,st,h,fun xs vs H1 hx rx k1 o1=>?_⟩
 have st1:=st.step k1 o1
 refine ⟨fun c=>b=some c,b,xs.map bor,_,fun _=>False,hx,?_,o1,fun p h=>h,fun c hc=>W.B.dm c H1 (o1 c hc),fun d v H' hd rd k2 o2=>k d v H' hd.2 (J4y hd.1 rd) (k1.trans k2) o2,fun C H' hC=>hC.elim⟩
 rw [List.append_nil];exact RepXs.bor st.bagM _ _ rx⟩
def Q8d (i:Nat)(dA:DA):DS:=fun F ρ=>dA ρ fun xs=>match xs with
 | [x]=>(asS x).elim False fun ys=>F.nx (ρ.set i (some (.own ys)))
 | _=>False
theorem OI {i:Nat}{y:Str}{pos' lpos npos:Pos}(hN:X.N.Nodup)(hi:X.N[i]?=some y)(hx:Loc X.env.scope y)(ha:JA X W [a] dA)
 (h:PE X (.Call (.Name "list" npos) [a] [] lpos) (tCB (fun xs H Q=>∃ p ys,xs=[.ref p]/\(SqL W.K H p ys\/SqT W.K H p ys)/\∀ l,H l=none->Q (.ref l) (upd H l (.lst ys))) (dnA W dA)))
 (hs:swapsWith (.Call (.Name "list" npos) [a] [] lpos) (some (.Name y pos')) pos.line X.env=pure false:=by rfl) (hf:X.fn y=true\/X.env.scope.names.lookup y=some .local:=by first|exact .inl rfl|exact .inr rfl|assumption) :
 JS X W (.Assign [.Name y pos'] (.Call (.Name "list" npos) [a] [] lpos) pos) (Q8d i dA):=⟨(EF hN hi hx h hs hf).mono fun E σ H hh=>hh.elim fun pn M b ρ F s l h=>by
 refine ⟨pn,M,b,ρ,_,s.toSta,h,fun xs vs H' hx rx k o=>?_⟩
 match xs,hx with
 | [x],hx =>
   obtain ⟨v,rfl,r⟩:=rx1 rx
   cases e1:asS x with
   | none=>simp only [e1] at hx;exact hx.elim
   | some ys =>
     simp only [e1] at hx
     obtain ⟨a,us,rfl,hh,r'⟩:=asS.rep r e1
     exact ⟨a,us,rfl,hh,fun q hq=>l.nx _ _ _ _ _ ((s.step k o).newOwn i r' hq) hx⟩⟩
def ZX (i:Nat)(f:List D->List D):DS:=fun F ρ=>match ρ[i]? with
 | some (some (.own ys))=>F.nx (ρ.set i (some (.own (f ys))))
 | _=>False
theorem J1s {i:Nat}{y:Str}{npos apos cpos:Pos}(hK:X.K=W.K)(h:PE X (.Call (.Attribute (.Name y npos) "clear" apos) [] [] cpos) (tBM X.K "list" J3f (HK i) Q1y)) (hs:swapsWith (.Call (.Attribute (.Name y npos) "clear" apos) [] [] cpos) none pos.line X.env=pure false:=by rfl) :
 JS X W (.Expr (.Call (.Attribute (.Name y npos) "clear" apos) [] [] cpos) pos) (ZX i fun _=>[]):=⟨(GT (by rw [hK] at h;exact h) hs).mono fun E σ H hh=>hh.elim fun pn M b ρ F s l h=>by
 unfold ZX at h
 split at h
 case h_2=>exact h.elim
 case h_1 ys e =>
  obtain ⟨a,vs,ea,nb,hh,r⟩:=LO s.toSta e
  exact ⟨.ref a,ea,.inl ⟨rfl,vs,SqL.of hh⟩,a,vs,rfl,rfl,hh,l.nx _ _ _ _ _ (s.setOwn i e ea (show Reps W.K M H [] [] from rfl)) h⟩⟩
theorem Reps.reverse {H:Hp}:∀ {ds:List D} {vs:List V},Reps K M H ds vs->Reps K M H ds.reverse vs.reverse
 | [],_,h=>by cases (show _=_ from h);exact rfl
 | d::ds,_,h=>by
   obtain ⟨v,r,rfl,h1,h2⟩:=h
   rw [List.reverse_cons,List.reverse_cons]
   exact Reps.append (Reps.reverse h2) ⟨v,[],rfl,h1,rfl⟩
theorem VA {i:Nat}{y:Str}{npos apos cpos:Pos}(hK:X.K=W.K)(h:PE X (.Call (.Attribute (.Name y npos) "reverse" apos) [] [] cpos) (tBM X.K "list" UH (HK i) Q1y)) (hs:swapsWith (.Call (.Attribute (.Name y npos) "reverse" apos) [] [] cpos) none pos.line X.env=pure false:=by rfl) :
 JS X W (.Expr (.Call (.Attribute (.Name y npos) "reverse" apos) [] [] cpos) pos) (ZX i List.reverse):=⟨(GT (by rw [hK] at h;exact h) hs).mono fun E σ H hh=>hh.elim fun pn M b ρ F s l h=>by
 unfold ZX at h
 split at h
 case h_2=>exact h.elim
 case h_1 ys e =>
  obtain ⟨a,vs,ea,nb,hh,r⟩:=LO s.toSta e
  exact ⟨.ref a,ea,.inl ⟨rfl,vs,SqL.of hh⟩,a,vs,rfl,rfl,hh,l.nx _ _ _ _ _ (s.setOwn i e ea r.reverse) h⟩⟩
end
abbrev DSO:=List D->(List D->Prop)->(Addr->Prop)->Prop
def DH (K:Fg)(B:BagT)(S:DSO):Sp:=fun vs H Q E=>∃ (M:Addr->Prop) (b:Option Addr) (ds:List D) (P:List D->Prop) (Ed:Addr->Prop),S ds P Ed/\RepAs K M b H ds vs/\okB B b H/\(∀ p,b=some p->M p)/\(∀ c,M c->∃ o,H c=some o) /\
 (∀ xs a us H',P xs->H a=none->H' a=some (.lst us)->Reps K (fun c=>M c\/c=a) H' xs us->Kp b H H'->okB B b H'->Q (.ref a) H')/\∀ C H',Ed C->Kp b H H'->okB B b H'->E (.ref C) none H'
theorem DH.len {B:BagT}{S:DSO}{n:Nat}(h:∀ ds P Ed,S ds P Ed->ds.length=n):∀ vs H Q E,DH K B S vs H Q E->vs.length=n:=fun vs H Q E ⟨M,b,ds,P,Ed,hS,hr,_⟩=>by rw [hr.length];exact h _ _ _ hS
theorem Q9a {B:BagT} {N:List Str}{ds:List D}{vs:List V}{H:Hp}{Q:VK}{P:List D->Prop}{d:DS}(hr:RepAs K M b H ds vs)(ho:okB B b H)(hb:∀ p,b=some p->M p)(hd:∀ c,M c->∃ o,H c=some o)(hq:∀ xs a us H',P xs->H a=none->H' a=some (.lst us)->Reps K (fun c=>M c\/c=a) H' xs us->Kp b H H'->okB B b H'->Q (.ref a) H')
 (h:d { nx:=fun _=>False,rt:=fun _=>False,ro:=P } (BH N ds)):sn ⟨K,B,H,M,b⟩ d { nx:=fun _ H'=>Q .non H',rt:=Q } (DM N vs) H :=
 ⟨[],M,b,BH N ds,{ nx:=fun _=>False,rt:=fun _=>False,ro:=P },J5a hr ho hb hd,⟨fun _ _ _ _ _ _ h=>h.elim,fun _ _ _ h=>h.elim,fun _ _ _ _ _ _ h=>h.elim,fun _ _ _ _ _ _ h=>h.elim,fun xs a us H' hp h0 _ hh r k o=>hq xs a us H' hp h0 hh r k o⟩,h⟩
section
variable {X:Cx}{W:Wd}{e a b c tg iter l:Expr}{pos p:Pos}{d de:DE}{di:DA}{dt:DT}{x:Str}{k:Nat}
theorem Sta.fresh0 {pn:List (D×V)} {b:Option Addr}{H:Hp}{σ:St}{ρ:Ev}{p:Addr}(s:Sta W pn M b H σ ρ)(h:H p=none):W.H0 p=none/\¬ W.M0 p:=by
 have hbp:b≠some p:=fun z=>by
  obtain ⟨o,e⟩:=W.B.dm p H (s.ok p z)
  rw [h] at e;cases e
 refine ⟨?_,fun z=>s.toHs.new h (s.m0 p z)⟩
 cases q:W.H0 p with
 | none=>rfl
 | some o =>
   by_cases z:W.b0=some p
   · rcases s.new with y|⟨y,_⟩
     · exact absurd (y.trans z) hbp
     · rw [y] at z;cases z
   · have:=s.kp p o z q
     rw [h] at this;cases this
theorem YY {pn:List (D×V)} {b:Option Addr}{H:Hp}{σ:St}{ρ:Ev}{p:Addr}{E:Ends}{F:DEnds}{xs:List D}{vs:List V}(s:Sta W pn M b H σ ρ)(l:Link W pn E F)(h:H p=none)(r:Reps W.K M H xs vs)(hx:F.ro xs):E.rt (.ref p) (upd H p (.lst vs)):=by
 obtain ⟨h0,m0⟩:=s.fresh0 h
 have s':=s.step (Kp.upd (o:=HO.lst vs) h) (s.toHs.okU h)
 exact l.ro xs p vs _ hx h0 m0 V8 (Reps.keep (fun c o _ e=>Same.upd h c o e) _ _ (Reps.avoid (fun c z=>z.elim (fun y=>.inl (s.m0 c y)) fun y=>.inr (by rw [y];exact h)) _ _ r)) s'.kp s'.ok0
def Q8b (map:List (Option Nat))(gd:D->Ev->(Ev->Prop)->Prop)(di:DA)(dt:DT)(de:DE):DS:=fun F ρ=>di ρ fun items=>items.length<=1000/\compI gd dt de (FL ρ map) items fun acc=>F.ro acc
theorem J4l {elt iter tg:Expr}{ifs:List Expr}{scope:Scope}{N':List Str}{map:List (Option Nat)}{g:TG}{gd:D->Ev->(Ev->Prop)->Prop}{cpos:Pos}(hG:GD W g gd)(B:Blk X N' scope map tg elt ifs g (dnT W dt) (dn W de))(hi:JI X W false tg iter di)
 (hs:∀ x,foldedSetIterable iter X.env x=pure x:=by intro _;rfl):JS X W (.Return (some (.ListComp elt [⟨tg,iter,ifs,0⟩] scope cpos)) pos) (Q8b map gd di dt de):=⟨(FY (NE B hi.h hs)).mono fun E σ H hh=>hh.elim fun pn M b ρ F s l h=>by
 refine ⟨pn,M,b,ρ,_,s.toSta,h,fun items J need H1 hx hp hI hn k1 o1=>?_⟩
 have s1:=s.step k1 o1
 refine HE hG (s1.toSta.capt map) hp hI (fun q hq=>(hn q hq).1) hx.1 hx.2 fun ds acc H' hP r hl k2 o2 q hq=>?_
 exact YY (s1.step k2 o2).toSta l hq r hP⟩
mutual
def noL:D->Bool
 | .tup xs=>KM xs
 | .lst _=>false
 | .own _=>false
 | .bag=>false
 | .frg _ _=>false
 | .scr _=>false
 | .dct _ _ _=>false
 | .non=>true
 | .bl _=>true
 | .int _=>true
 | .str _=>true
 | .ty _=>true
 | .adr _=>true
def KM:List D->Bool
 | []=>true
 | d::ds=>noL d&&KM ds
end
theorem KK:∀ {ds:List D},(∀ d∈ds,noL d=true)->KM ds=true
 | [],_=>by unfold KM;rfl
 | d::ds,h=>by
   unfold KM
   rw [h d (List.mem_cons_self ..),KK fun e he=>h e (List.mem_cons_of_mem _ he)];rfl
section
variable {K:Fg}{M M':Addr->Prop}{H:Hp}
mutual
theorem Rep.unbor (k:∀ c,M c->M' c\/∃ o,H c=some o/\∀ vs,o≠.tup vs):∀ (d:D) (v:V),noL d=true->Rep K M' H d v->Rep K M H d v
 | .non,_,_,h=>h
 | .bl _,_,_,h=>h
 | .int _,_,_,h=>h
 | .str _,_,_,h=>h
 | .ty _,_,_,h=>h
 | .adr _,_,_,h=>h
 | .tup xs,v,n,h=>by
   obtain ⟨a,vs,e,z,r⟩:=h
   refine ⟨a,vs,e,z.imp (fun q=>⟨fun m=>?_,q.2⟩) id,Reps.unbor k xs vs (by unfold noL at n;exact n) r⟩
   rcases k a m with y|⟨us,y,nt⟩
   · exact q.1 y
   · rw [q.2] at y;cases y;exact nt _ rfl
 | .lst _,_,n,_=>by unfold noL at n;cases n
 | .own _,_,n,_=>by unfold noL at n;cases n
 | .bag,_,n,_=>by unfold noL at n;cases n
 | .frg _ _,_,n,_=>by unfold noL at n;cases n
 | .scr _,_,n,_=>by unfold noL at n;cases n
 | .dct _ _ _,_,n,_=>by unfold noL at n;cases n
theorem Reps.unbor (k:∀ c,M c->M' c\/∃ o,H c=some o/\∀ vs,o≠.tup vs):∀ (ds:List D) (vs:List V),KM ds=true->Reps K M' H ds vs->Reps K M H ds vs
 | [],_,_,h=>h
 | d::ds,vs,n,h=>by
   obtain ⟨v,r,e,h1,h2⟩:=h
   unfold KM at n
   obtain ⟨n1,n2⟩:=(Bool.and_eq_true _ _).mp n
   exact ⟨v,r,e,Rep.unbor k d v n1 h1,Reps.unbor k ds r n2 h2⟩
end
end
def BorAt:List D->List V->Addr->Prop
 | .own _::ds,v::vs,c=>v=.ref c\/BorAt ds vs c
 | .frg f _::ds,_::vs,c=>c∈f.ads\/BorAt ds vs c
 | _::ds,_::vs,c=>BorAt ds vs c
 | _,_,_=>False
theorem BorAt.lst {b:Option Addr}{H:Hp}{c:Addr}:∀ (ds:List D) (vs:List V),RepXs W M b H ds vs->BorAt ds vs c->b≠some c/\∃ o,H c=some o/\∀ vs,o≠.tup vs
 | [],vs,h,q=>by cases (show vs=[] from h);exact q.elim
 | d::ds,vs,h,q=>by
   obtain ⟨v,r,rfl,h1,h2⟩:=h
   cases d
   case own xs =>
    rcases q with z|z
    · obtain ⟨a,us,e,m1,m2,m3,m4,hh,r'⟩:=h1
      rw [z] at e;cases e
      exact ⟨m2,_,hh,fun _ y=>by cases y⟩
    · exact BorAt.lst ds r h2 z
   case frg f d =>
    rcases q with z|z
    · exact ⟨(h1.1 c z).2.1,f.nt _ _ _ h1.2.1 c z⟩
    · exact BorAt.lst ds r h2 z
   all_goals exact BorAt.lst ds r h2 q
theorem RepXs.bor2 {M M':Addr->Prop}{b:Option Addr}{H:Hp}(sub:∀ c,M' c->M c):∀ (ds:List D) (vs:List V),(∀ c,BorAt ds vs c->¬ M' c)->RepXs W M b H ds vs->RepAs W.K M' b H (ds.map L2.bor) vs
 | [],_,_,h=>h
 | d::ds,vs,nb,h=>by
   obtain ⟨v,r,rfl,h1,h2⟩:=h
   have av:∀ c,M' c->M c\/H c=none:=fun c hc=>.inl (sub c hc)
   have nb2:∀ c,BorAt ds r c->¬ M' c:=fun c hc=>nb c (by cases d<;>first|exact hc|exact .inr hc)
   refine ⟨v,r,rfl,?_,RepXs.bor2 sub ds r nb2 h2⟩
   cases d
   case own xs =>
    obtain ⟨a,us,rfl,m1,m2,m3,m4,hh,r'⟩:=h1
    exact ⟨a,us,rfl,⟨nb a (.inl rfl),hh⟩,Reps.avoid av _ _ r'⟩
   case bag=>exact h1
   case frg f d =>
    have r:=Rep.avoid (M':=M') (fun c hc=>.inl ⟨sub c hc,fun m=>nb c (.inl m) hc⟩) _ _ h1.2.2
    show J6v W.K _ b H d v
    cases d<;>first|exact r|exact r.elim
   all_goals exact Rep.avoid av _ _ h1
end
theorem Vals.of_get:∀ {xs:List V} {us:List Value},xs.length=us.length->(∀ (i:Nat) x u,xs[i]?=some x->us[i]?=some u->RelV x u)->Vals xs us
 | [],[],_,_=>.nil
 | [],_::_,h,_=>by simp at h
 | _::_,[],h,_=>by simp at h
 | x::xs,u::us,h,k=>.cons (k 0 x u rfl rfl) (Vals.of_get (by simpa using h) fun i y v e1 e2=>k (i+1) y v (by simpa using e1) (by simpa using e2))
def WO (lo:Int)(n:Nat):List V:=(List.range n).map fun (k:Nat)=>V.int (lo+k)
def tLR (ta:TA):TE:=fun σ H Q=>ta σ H fun vs H1=>∃ i j,vs=[.int i,.int j]/\(-(2 ^ 20)<=i/\i<2 ^ 20/\-(2 ^ 20)<=j/\j<2 ^ 20/\j - i<=1000)/\∀ p,H1 p=none->Q (.ref p) (upd H1 p (.lst (WO i (j - i).toNat)))
theorem PV {X:Cx}{a b:Expr}{ta:TA}{p1 p2 pos2 pos:Pos}(hc:X.calm=true)(hg1:Gl X "list") (hm1:X.mg "list" = none) (hg2:Gl X "range") (hm2:X.mg "range" = none) (ha:PA X [a,b] ta) (hs:starEach [a,b] X.env=[(false,eval a X.env),(false,eval b X.env)]:=by rfl) (hs2:starEach [b] X.env=[(false,eval b X.env)]:=by rfl)
 (hsl:starEach [.Call (.Name "range" p2) [a,b] [] pos2] X.env=[(false,eval (.Call (.Name "range" p2) [a,b] [] pos2) X.env)]:=by rfl):PE X (.Call (.Name "list" p1) [.Call (.Name "range" p2) [a,b] [] pos2] [] pos) (tLR ta):=by
 intro pins s σ H Q I h
 refine Call_ (GA I hg1 hm1 EM (PyProof.Rows.callWith_type1 ?_ hsl rfl))
 rw [hsl]
 show wpAny _ _ (spliced ((false,eval (.Call (.Name "range" p2) [a,b] [] pos2) X.env)::backTo pos [])) _ _ s
 refine Calls.spliced_cons ?_
 refine Call_ (GA I hg2 hm2 boot_range (PyProof.Rows.callWith_type1 (thn (ha pos2 pins s σ H _ I h) fun us s1 ⟨vs,H1,I1,r1,q1⟩=>?_) (by rw [hs,hs2]) (by rw [hs2];rfl)))
 obtain ⟨i,j,rfl,⟨b1,b2,b3,b4,b5⟩,q⟩:=q1
 obtain ⟨u1,u2,rfl,t1,t2⟩:=QI r1
 obtain ⟨t,rfl⟩:=t1
 obtain ⟨u,rfl⟩:=t2
 refine call_range_2 ?_
 refine Calls.spliced_nil ?_
 have I2:Inv X pins σ H1 { s1 with heap:=s1.heap.push { cls:=.type "range",data:=.fields #[.int i t,.int j u,.int 1 s1.toks] },toks:=s1.toks+1 }:=I1.kept fun b o e=>B4 _ e
 refine call_list_range (n:=(j - i).toNat) (I1.ok.hd hc) (IsRange.new ..) (small_one (by omega) (by omega) (by omega) (by omega)) (by rw [rangeSize_one];split<;>omega) (by omega) fun h' tk acc' c' kp e it=>?_
 refine ⟨.ref _,_,I2.laid (t':=tk) (o:=.lst (WO i (j - i).toNat)) kp (Nat.le_refl _) ⟨?_,acc'.toList,c',?_,by simpa using e⟩,rfl,q _ (I2.hok.fresh (Nat.le_refl _))⟩
 · unfold WO
   rw [List.length_map,List.length_range]
   exact Nat.le_trans (show (j - i).toNat<=1000 by omega) BQ
 · refine Vals.of_get (by unfold WO;rw [List.length_map,List.length_range,Array.length_toList,it.1]) fun k x v e1 e2=>?_
   unfold WO at e1
   rw [List.getElem?_map] at e1
   have hk:k<(j - i).toNat:=by
    have:=(List.getElem?_eq_some_iff.mp e2).1
    rw [Array.length_toList,it.1] at this
    exact this
   rw [List.getElem?_range hk] at e1
   cases e1
   obtain ⟨t',rfl⟩:=it.2 k v (by simpa using e2)
   exact ⟨t',by rw [Int.mul_one]⟩
section
variable {X:Cx}{W:Wd}{a b st:Expr}{pos:Pos}{dA:DA}
def Q6u:List D->(D->Prop)->Prop
 | [.int i,.int j],P=>(-(2 ^ 20)<=i/\i<2 ^ 20/\-(2 ^ 20)<=j/\j<2 ^ 20/\j - i<=1000)/\P (.lst (V6 i (j - i).toNat))
 | _,_=>False
theorem WP {H:Hp}(lo:Int)(n:Nat):Reps K M H (V6 lo n) (WO lo n):=by
 unfold V6 WO
 generalize List.range n=l
 induction l with
 | nil=>exact rfl
 | cons k l ih=>exact ⟨_,_,rfl,rfl,ih⟩
theorem OO {p1 p2 pos2:Pos}(ha:JA X W [a,b] dA)(h:PE X (.Call (.Name "list" p1) [.Call (.Name "range" p2) [a,b] [] pos2] [] pos) (tLR (dnA W dA))):JE X W (.Call (.Name "list" p1) [.Call (.Name "range" p2) [a,b] [] pos2] [] pos) (dCB Q6u dA):=⟨h.mono fun σ H Q hh=>hh.elim fun pn M b ρ P st h k=>by
 refine ⟨pn,M,b,ρ,_,st,h,fun xs vs H1 hx rx k1 o1=>?_⟩
 match xs,hx with
 | [.int i,.int j],hx =>
   obtain ⟨v,u,rfl,r,r'⟩:=rx2 rx
   cases (show _=_ from r)
   cases (show _=_ from r')
   have st1:=st.step k1 o1
   exact ⟨i,j,rfl,hx.1,fun p hp=>k _ _ _ hx.2 (DD st1.toHs (WP i _) hp) (k1.trans (Kp.upd hp)) (st1.okU hp)⟩⟩
end
theorem Fun.okDXO {P:Program}{w:World} {mg:Str->Option Value}{base:Heap}{CX:CXT}{x qual:Str}{st:Stmt}{f:Addr} {N ps:List Str}{k:Nat}{B:BagT}{Sd:DSO}(F:Fun K x qual st f fd)(S:FnScope N ps (J3 st))(len:∀ ds PP Ed,Sd ds PP Ed->ds.length=ps.length)
 (hbody:∀ (cdv:Value) (A:Around) (outer:List Env) (s:Shared) (H:Hp) (E:XK) (M:Addr->Prop) (bg:Option Addr) (ds:List D) (PP:List D->Prop) (Ed:Addr->Prop),Room k (A.deeper (envOfC qual (J3 st) s.heap.objs.size f cdv))->FM ⟨K,B,H,M,bg⟩ E Ed->Sd ds PP Ed ->
  ∃ d,JSs (V1 CX P w K mg base N qual (J3 st) f cdv A outer s H E) ⟨K,B,H,M,bg⟩ (BV st) d/\d { nx:=fun _=>False,rt:=fun _=>False,ro:=PP } (BH N ds)):FnOk P w K mg base CX (k+1) f fd ps (DH K B Sd) :=
 F.okX S (DH.len len) fun cdv A outer s H vs Q E hr h=>by
  obtain ⟨M,bg,ds,PP,Ed,hS,hR,ho,hb,hd,hq,hx⟩:=h
  obtain ⟨d,J,q⟩:=hbody cdv A outer s H E M bg ds PP Ed hr (fun C H' e k o=>hx C H' e k o) hS
  exact ⟨_,J.h,Q9a hR ho hb hd hq q⟩
section
variable {X:Cx}{W:Wd}{e a b c:Expr}{es:List Expr}{pos p:Pos}{dA:DA}{x:Str}{k:Nat}{ps:List Str}{S:DSO}
theorem J2m {pn:List (D×V)} {b:Option Addr}{H1:Hp}{σ:St}{ρ:Ev}{xs:List D}{vs:List V}{P:List D->Prop}{Q:VK}{E:XK}{Ed:Addr->Prop}(hE:FM W E Ed)(st1:Sta W pn M b H1 σ ρ)(rx:RepXs W M b H1 xs vs)(hS:S (xs.map bor) (fun ys=>KM ys=true/\P ys) Ed)
 (k:∀ ys a us H',P ys->H1 a=none->H' a=some (.lst us)->Reps W.K M H' ys us->Kp b H1 H'->okB W.B b H'->Q (.ref a) H'):DH W.K W.B S vs H1 Q E:=by
 refine ⟨fun c=>M c/\¬ BorAt xs vs c,b,xs.map bor,_,Ed,hS,RepXs.bor2 (fun c h=>h.1) _ _ (fun c h z=>z.2 h) rx,st1.ok,fun p h=>⟨st1.bagM p h,fun z=>(BorAt.lst xs vs rx z).1 h⟩,fun c hc=>st1.dom c hc.1,fun ys a us H' hp h0 hh r k2 o2=>?_,fun C H' hC k2 o2=>?_⟩
 · refine k ys a us H' hp.2 h0 hh (Reps.unbor (fun c m=>?_) _ _ hp.1 (Reps.avoid (fun c m=>.inl (.inl m)) _ _ r)) k2 o2
   by_cases z:BorAt xs vs c
   · obtain ⟨nb,us',e,nt⟩:=BorAt.lst xs vs rx z
     exact .inr ⟨us',k2 c _ nb e,nt⟩
   · exact .inl ⟨m,z⟩
 · have st2:=st1.step k2 o2
   exact hE C H' hC st2.kp st2.ok0
def J9v (S:DSO)(Ed:Addr->Prop)(dA:DA):DE:=fun ρ P=>dA ρ fun ds=>S (ds.map bor) (fun ys=>KM ys=true/\P (.lst ys)) Ed
theorem QY {CX:CXT}{E:XK}{Ed:Addr->Prop}(hE:FM W E Ed)(hp:FF CX X E)(G:Callee X.prog X.w X.K X.mg X.base CX x k ps (DH W.K W.B S))(hr:Room k X.A)(hg:Gl X x)(ha:JA X W (e::es) dA)(hdb:(x==("__debug__" : Str))=false:=by decide) (he:starEach (e::es) X.env=(false,eval e X.env)::starEach es X.env:=by rfl) (hpl:(backTo pos (starEach es X.env)).any (·.1)=false:=by rfl) :
 JE X W (.Call (.Name x p) (e::es) [] pos) (J9v S Ed dA):=⟨(ND hp G hr hg ha.h hdb he hpl).mono fun σ H Q hh=>hh.elim fun pn M b ρ P st h k=>by
 refine ⟨pn,M,b,ρ,_,st,h,fun xs vs H1 hx rx k1 o1=>?_⟩
 have st1:=st.step k1 o1
 show DH W.K W.B S (vs++[]) H1 Q E
 rw [List.append_nil]
 exact J2m (P:=fun ys=>P (.lst ys)) hE st1 rx hx fun ys a us H' hp h0 hh r k2 o2=>k _ _ H' hp ⟨a,us,rfl,⟨st1.toHs.new h0,hh⟩,r⟩ (k1.trans k2) o2⟩
end
section
theorem J3a {σ:St}{i:Nat}{v:V}(e:σ[i]?=some (some v)):σ.set i (some v)=σ:=by
 apply List.ext_getElem?
 intro n
 by_cases z:i=n
 · subst z;rw [List.getElem?_set,e];simp;exact (List.getElem?_eq_some_iff.mp e).1
 · rw [List.getElem?_set_ne z]
end
section
variable {κ:Type} [DecidableEq κ]
def J6y (kvs:List (κ×V))(k:κ):Option V:=(kvs.find? fun kv=>decide (kv.1=k)).map (·.2)
def J7r (kvs:List (κ×V))(k:κ)(v:V):List (κ×V) :=
 if (kvs.any fun kv=>decide (kv.1=k))=true then kvs.map (fun kv=>if kv.1=k then (kv.1,v) else kv) else kvs++[(k,v)]
theorem KV.length {kvs:List (κ×V)}{vs:List (κ×Value)}(r:KV kvs vs):kvs.length=vs.length:=Paired.length r
end
def DGet (H:Hp)(a:Addr)(y:V)(r:Option V):Prop :=
 (∃ kvs k,Rd H a (.dK kvs)/\y=kV k/\r=J6y kvs k)\/∃ kvs k b,Rd H a (.dT kvs)/\y=.ref b/\H b=some (.tup (k.map kV))/\r=J6y kvs k
def DPut (H:Hp)(a:Addr)(y v:V)(H':Hp):Prop :=
 (∃ kvs k,H a=some (.dK kvs)/\y=kV k/\kvs.length<sizeLine/\H'=upd H a (.dK (J7r kvs k v))) \/
 ∃ kvs k b,H a=some (.dT kvs)/\y=.ref b/\H b=some (.tup (k.map kV))/\kvs.length<sizeLine/\H'=upd H a (.dT (J7r kvs k v))
theorem DGet.k {H:Hp}{a:Addr}{kvs:List (Key×V)}{k:Key}(e:H a=some (.dK kvs)):DGet H a (kV k) (J6y kvs k):=.inl ⟨kvs,k,.inl e,rfl,rfl⟩
theorem DGet.t {H:Hp}{a b:Addr}{kvs:List (List Key×V)}{k:List Key}(e:H a=some (.dT kvs))(eb:H b=some (.tup (k.map kV))):DGet H a (.ref b) (J6y kvs k):=.inr ⟨kvs,k,b,.inl e,rfl,eb,rfl⟩
theorem DPut.k {H:Hp}{a:Addr}{kvs:List (Key×V)}{k:Key}{v:V}(e:H a=some (.dK kvs))(hl:kvs.length<sizeLine):DPut H a (kV k) v (upd H a (.dK (J7r kvs k v))):=.inl ⟨kvs,k,e,rfl,hl,rfl⟩
theorem DPut.t {H:Hp}{a b:Addr}{kvs:List (List Key×V)}{k:List Key}{v:V}(e:H a=some (.dT kvs))(eb:H b=some (.tup (k.map kV)))(hl:kvs.length<sizeLine) :
 DPut H a (.ref b) v (upd H a (.dT (J7r kvs k v))):=.inr ⟨kvs,k,b,e,rfl,eb,hl,rfl⟩
section
variable {X:Cx}{pins:List (Addr×Obj)}{σ:St}{H:Hp}{s:Shared}{a:Addr}
theorem Inv.big (I:Inv X pins σ H s):sysModules<s.heap.objs.size:=by
 have h:mainGlobals<s.heap.objs.size:=(I.mod.glob.keeps I.bk).lt
 exact Nat.lt_trans (by decide) h
theorem J9s {h':Heap}{t':Nat}{ob:HO}(I:Inv X pins σ H s)(mu:Mut (H a))(hs:Heap.SameBut a s.heap h')(he:∃ q,h'.get? a=some q)(new:ObjOk X.prog X.w (upd H a ob) h' a ob) :
 Inv X pins σ (upd H a ob) { s with heap:=h',toks:=t' } :=
 I.write (x:=a) (e:=a) mu (.inl rfl) (fun b q hb z=>(hs.2 b hb).trans z) he new
end
structure M2 (X:Cx)(o:Expr)(m:Str)(apos:Pos)(e f:Expr)(cpos:Pos):Prop where
 base:attributeBase o m X.env (eval o X.env)=eval o X.env
 few:((backTo cpos (starEach [e,f] X.env)).all (fun x=>!x.1)&&(backToKw cpos (keywordEach [] X.env)).all (fun x=>x.1.isSome)
  && decide (([e,f]:List Expr).length+([]:List Keyword).length+(if ([]:List Keyword).isEmpty then 0 else 1)<30))=true
 line:(apos.endLine==cpos.line)=true
 trees:backTo cpos (starEach [e,f] X.env)=[(false,eval e X.env),(false,eval f X.env)]
abbrev Ens:=List (List Int×Addr×Value)
abbrev tiK (P:Program)(w:World):=tupleKind (intKind P w)
theorem QZ:∀ {ns:List Int} {us:List Value},Vals (ns.map V.int) us->ItemsAre (intKind P w) ns us
 | [],_,h=>by cases h;exact .nil
 | n::ns,_,h=>by
   cases h with
   | cons h t =>
     obtain ⟨t',rfl⟩:=h
     exact .cons (by simp [intKind,Value.isInt]) (QZ t)
def WB (K:Fg)(H:Hp)(es:Ens):Prop:=∀ e∈es,SqT K H e.2.1 (e.1.map V.int)
section
variable {X:Cx}{pins:List (Addr×Obj)}{σ:St}{H:Hp}{s:Shared}{a b:Addr}{es:Ens}{ep:Nat}{ns:List Int}
theorem Inv.tkey (I:Inv X pins σ H s)(h:SqT X.K H b (ns.map V.int)):(tiK X.prog X.w).is s.heap ns b:=by
 obtain ⟨its,r,⟨o,h1,h2,n,h3⟩,_⟩:=I.tuple h
 exact ⟨o,its.toArray,n,h1,h2,h3,QZ r⟩
theorem Inv.dct (I:Inv X pins σ H s)(h:H a=some (DOb a es ep))(hk:WB X.K H es):((a==sysModules)=false/\es.length<=sizeLine)/\s.heap.DictOfH (tiK X.prog X.w) a es:=by
 obtain ⟨⟨⟨h1,h2,h3⟩,o,ds,e1,e2,e3,e4⟩,_⟩:=I.hok a _ h
 exact ⟨⟨h1,h2⟩,o,ds,ep,e1,e2,e3,e4,fun x hx=>I.tkey (hk x hx),h3⟩
theorem J6w {H:Hp}{h:Heap}(h1:(a==sysModules)=false)(h2:es.length<=sizeLine)(h3:(es.map (·.1)).Nodup){o:Obj}{ds:Array DictEntry}(e1:h.get? a=some o)(e2:o.ExactDict)(e3:o.data=.dict ds ep)(e4:ds.toList=es.map Q4x):ObjOk P w H h a (DOb a es ep) :=
 ⟨⟨⟨h1,h2,h3⟩,o,ds,e1,e2,e3,e4⟩,⟨o,e1⟩,fun g1 g2 ⟨q,o,ds,f1,f2⟩ k=>⟨q,o,ds,k o f1,f2⟩⟩
theorem OG (es:Ens)(k:List Int)(b:Addr)(v:Value):(storedH es k b v).length<=es.length+1:=by
 unfold storedH
 split
 · rw [List.length_map];omega
 · simp
def Q2f (K:Fg):R2:=fun x y H Q=>∃ a b es ep ns p v,x=.ref a/\y=.ref b/\H a=some (DOb a es ep)/\WB K H es/\SqT K H b (ns.map V.int)/\atKey es ns=some p/\RelV v p.2/\Q v H
theorem Q3j (hu:X.A.units+1<cLine):IxR X (Q2f X.K):=by
 intro value slice pins s σ H x y v u Q I rx ry h hs
 obtain ⟨a,b,es,ep,ns,p,z,rfl,rfl,hd,hk,hb,hp,rz,q⟩:=h
 cases rx;cases ry
 obtain ⟨⟨h1,h2⟩,dd⟩:=I.dct hd hk
 exact tail_any dd.typeIs PySem.F.slot_dict_getitem.lookup (wpAny_getItem_heap (tupleKind_room_in1 hu) (I.tkey hb) dd hp ⟨z,H,I.tok _,rz,q⟩) hs
def Q6k (K:Fg)(f:Bool->Bool):R2:=fun x y H Q=>∃ a b es ep ns,y=.ref a/\x=.ref b/\H a=some (DOb a es ep)/\WB K H es/\SqT K H b (ns.map V.int)/\Q (.bl (f (atKey es ns).isSome)) H
theorem J1i (K:Fg)(hK:X.K=K)(hu:X.A.units+64<cLine):OpR X (compareOp .NotIn) (Q6k K (fun c=>!c)):=by
 subst hK
 intro pins s σ H x y v u Q I rx ry h
 obtain ⟨a,b,es,ep,ns,rfl,rfl,hd,hk,hb,q⟩:=h
 cases rx;cases ry
 obtain ⟨⟨h1,h2⟩,dd⟩:=I.dct hd hk
 exact wpAny_notIn_heap (tupleKind_room_in1 (by omega)) (I.tkey hb) h1 dd ⟨.bl (!(atKey es ns).isSome),H,I.tok _,rfl,q⟩
def Q0o (K:Fg):V->V->V->Hp->(Hp->Prop)->Prop:=fun o i v H Q=>∃ a b es ep ns,o=.ref a/\i=.ref b/\H a=some (DOb a es ep)/\WB K H es/\SqT K H b (ns.map V.int)/\es.length<sizeLine/\∀ u ep',RelV v u->Q (upd H a (DOb a (storedH es ns b u) ep'))
theorem J7j (K:Fg)(hK:X.K=K)(hu:X.A.units+64<cLine):Q5o X (Q0o K):=by
 subst hK
 intro pins s σ H o i v ov iv u Q I ro ri rv h
 obtain ⟨a,b,es,ep,ns,rfl,rfl,hd,hk,hb,hl,q⟩:=h
 cases ro;cases ri
 obtain ⟨⟨h1,h2⟩,dd⟩:=I.dct hd hk
 refine wpAny_setItem_heap (hsz:=h2) (tupleKind_room_in1 (by omega)) (I.tkey hb) dd fun h' dd' hs=>?_
 obtain ⟨o,ds,ep',e1,e2,e3,e4,_,e5⟩:=dd'
 exact ⟨_,J9s I (by rw [hd];exact True.intro) hs ⟨o,e1⟩ (J6w h1 (Nat.le_trans (OG es ns b u) hl) e5 e1 e2 e3 e4),q u ep' rv⟩
def Q6c:TE:=fun _ H Q=>∀ p,H p=none->Q (.ref p) (upd H p (DOb p [] 0))
theorem J7z {pos:Pos}:PE X (.Dict [] [] pos) Q6c:=fun pins s σ H Q I h =>
 wpAny_Dict_empty ⟨.ref s.heap.objs.size,_,I.laid (a:=s.heap.objs.size) (o:=DOb s.heap.objs.size [] 0) (t':=s.toks) (fun _ _ q=>B4 _ q) (Nat.le_refl _) (J6w (beq_eq_false_iff_ne.mpr (Ne.symm (Nat.ne_of_lt I.big))) (Nat.zero_le _) List.nodup_nil (Heap.get?_push_size _ rfl) ⟨rfl,rfl,rfl⟩ rfl rfl),rfl,h _ (I.hok.fresh (Nat.le_refl _))⟩
end
def AT:List (List Int)->List D->List Int->Option D
 | k::ks,x::xs,n=>if k=n then some x else AT ks xs n
 | _,_,_=>none
theorem PL {e:List Int×Addr×Value}{es:Ens}{n:List Int}:atKey (e::es) n=if e.1=n then some e.2 else atKey es n:=by
 unfold atKey
 rw [List.find?_cons]
 by_cases z:e.1=n
 · simp [z]
 · simp [z]
theorem MA {H:Hp}:∀ {es:Ens} {ks:List (List Int)} {vs:List V} {xs:List D} (n:List Int),es.map (·.1)=ks->Vals vs (es.map (·.2.2))->Reps K M H xs vs ->
 match AT ks xs n with|some d=>∃ p v,atKey es n=some p/\RelV v p.2/\Rep K M H d v|none=>atKey es n=none
 | [],ks,vs,xs,n,e,hv,r=>by
   subst e
   unfold AT;rfl
 | e::es,ks,vs,[],n,ek,hv,r=>by
   rw [show vs=[] from r] at hv
   cases hv
 | e::es,ks,vs,x::xs,n,ek,hv,r=>by
   subst ek
   obtain ⟨v,vs,rfl,rx,rr⟩:=r
   rw [List.map_cons] at hv
   cases hv with
   | cons h1 h2 =>
   have ih:=MA (ks:=es.map (·.1)) (xs:=xs) n rfl h2 rr
   rw [PL,List.map_cons]
   unfold AT
   by_cases z:e.1=n
   · rw [if_pos z,if_pos z]
     exact ⟨e.2,v,rfl,h1,rx⟩
   · rw [if_neg z,if_neg z]
     exact ih
theorem DctE.keys {H:Hp}{es:Ens}{ks:List (List Int)}{vs:List V}(h:DctE K M H es ks vs):WB K H es:=fun e m=>(h.2.1 e m).sq
theorem VR (elt:Expr)(g1:Comprehension)(target iter:Expr)(ifs:List Expr)(scope:Scope)(pos:Pos)(it acc:Value)(env:Env) :
 compTurn (.ListComp elt [g1,⟨target,iter,ifs,0⟩] scope pos) 1 it acc env=(do
  standAt iter.pos
  match <- pyNext it with
  | none=>pure (.done .next)
  | some v =>
    letOwnedTupleGo target it v
    assign target env v
    let mut ok:=true
    for c in ifs do
     if ok then ok <- isTrue c env (eval c env)
    if ok then
     (do let _ <- call (.builtin "list.append") [acc,<- eval elt env])
    again (.compLoop (.ListComp elt [g1,⟨target,iter,ifs,0⟩] scope pos) 1 it acc env)):=by rfl
theorem SR (elt target iter target' iter':Expr)(ifs:List Expr)(scope:Scope)(pos:Pos)(it acc:Value)(env:Env) :
 compTurn (.ListComp elt [⟨target,iter,[],0⟩,⟨target',iter',ifs,0⟩] scope pos) 0 it acc env=(do
  standAt iter.pos
  match <- pyNext it with
  | none=>pure (.done .next)
  | some v =>
    letOwnedTupleGo target it v
    assign target env v
    let mut ok:=true
    for c in ([]:List Expr) do
     if ok then ok <- isTrue c env (eval c env)
    if ok then
     let x <- eval iter' env
     standAt iter'.pos
     let x <- foldedSetIterable iter' env x
     let _ <- runOwn (.compStart (.ListComp elt [⟨target,iter,[],0⟩,⟨target',iter',ifs,0⟩] scope pos) 1 (<- holding [x] (pyIter x)) acc env) env
    again (.compLoop (.ListComp elt [⟨target,iter,[],0⟩,⟨target',iter',ifs,0⟩] scope pos) 0 it acc env)):=by rfl
theorem VS {prog:Program}{w:World}{A:Around}{R:Result->Shared->Prop}{s:Shared}{elt target iter:Expr}{g1:Comprehension}{ifs:List Expr}{scope:Scope}{pos:Pos}{it acc:Value}{env:Env}(J:Nat->Shared->Prop)
 (turn:∀ n s,J n s->wpAny (model prog w) A (pyNext it) (fun r s₁=>match r with
  | none=>R (.ok .next) s₁
  | some v=>wpAny (model prog w) A (letOwnedTupleGo target it v) (fun _ s₁'=>wpAny (model prog w) A (assign target env v) (fun _ s₂=>wpAny (model prog w) A (YV ifs env) (fun ok s₃ =>
   if ok=true then wpAny (model prog w) A (eval elt env) (fun x s₄=>wpAny (model prog w) A (call (.builtin "list.append") [acc,x]) (fun _ s₅=>∃ m,m<n/\J m s₅) (notedBy (model prog w) A env fun e s'=>R (.error e) s') s₄)
    (notedBy (model prog w) A env fun e s'=>R (.error e) s') s₃
   else ∃ m,m<n/\J m s₃) (notedBy (model prog w) A env fun e s'=>R (.error e) s') s₂) (notedBy (model prog w) A env fun e s'=>R (.error e) s') s₁') (notedBy (model prog w) A env fun e s'=>R (.error e) s') s₁)
   (notedBy (model prog w) A env fun e s'=>R (.error e) s') s) (n:Nat) (h:J n s) :
 codeAny (model prog w) A (.compLoop (.ListComp elt [g1,⟨target,iter,ifs,0⟩] scope pos) 1 it acc env) R s:=by
 refine codeAny_loop rfl J (fun n s hJ=>?_) n h
 show wpAny _ _ (Sem.onRaise (compTurn (.ListComp elt [g1,⟨target,iter,ifs,0⟩] scope pos) 1 it acc env) fun x=>do noteFrame x env;theTreesLotGoes x) _ _ _
 refine wpAny_noted ?_
 rw [VR]
 refine B1 (wpAny_standAt (B1 (thn (turn n s hJ) fun r s₁ h₁=>?_)))
 cases r with
 | none=>exact B2 h₁
 | some v =>
   refine B1 (thn h₁ fun _ s₁' h₁'=>B1 (thn h₁' fun _ s₂ h₂=>B1 (thn h₂ fun ok s₃ h₃=>?_)))
   cases ok with
   | true=>exact B1 (B1 (thn h₃ fun x s₄ h₄=>B1 (thn h₄ fun _ s₅ h₅=>B2 (B2 ⟨rfl,h₅⟩))))
   | false=>exact B2 ⟨rfl,h₃⟩
theorem SS {prog:Program}{w:World}{A:Around}{R:Result->Shared->Prop}{s:Shared}{elt target iter:Expr}{g1:Comprehension}{ifs:List Expr}{scope:Scope}{pos:Pos}{it acc:Value}{env:Env}
 (h0:codeAny (model prog w) A (.compLoop (.ListComp elt [g1,⟨target,iter,ifs,0⟩] scope pos) 1 it acc env) R s)
 (h:wpAny (model prog w) A (pyIter it) (fun it' s'=>codeAny (model prog w) A (.compLoop (.ListComp elt [g1,⟨target,iter,ifs,0⟩] scope pos) 1 it' acc env) R s')
  (notedBy (model prog w) A env fun x s'=>R (.error x) s') s) :
 codeAny (model prog w) A (.compStart (.ListComp elt [g1,⟨target,iter,ifs,0⟩] scope pos) 1 it acc env) R s:=by
 refine codeAny_of_tree ?_
 show wpAny _ _ ((compStart (.ListComp elt [g1,⟨target,iter,ifs,0⟩] scope pos) 1 it acc env).onRaise (fun x=>do noteFrame x env;standAt theWindowsPlace)) _ _ s
 refine wpAny_notedAt ?_
 unfold compStart
 show wpAny _ _ (ask >>= _) _ _ s
 refine B1 (wpAny_askSetting (wpAny_ite ?_))
 split
 · first
    | exact B1 (B2 (B2 (And.intro rfl h0)))
    | exact B2 (And.intro rfl h0)
 · first
    | exact B1 (wpAny_rule (B1 (wpAny_standAt (B1 (wpAny_mono h (fun it' s' h'=>B2 (And.intro rfl h')) fun _ _ x=>x)))))
    | (refine B1 (wpAny_rule ?_);show wpAny _ _ (standAt iter.pos >>= _) _ _ s;exact B1 (wpAny_standAt (B1 (wpAny_mono h (fun it' s' h'=>B2 (And.intro rfl h')) fun _ _ x=>x))))
theorem ST {prog:Program}{w:World}{A:Around}{R:Result->Shared->Prop}{s:Shared}{elt target iter target' iter':Expr}{ifs:List Expr}{scope:Scope}{pos:Pos}{it acc:Value}{env:Env}(J:Nat->Shared->Prop)
 (hs:∀ x,foldedSetIterable iter' env x=pure x)
 (turn:∀ n s,J n s->wpAny (model prog w) A (pyNext it) (fun r s₁=>match r with
  | none=>R (.ok .next) s₁
  | some v=>wpAny (model prog w) A (letOwnedTupleGo target it v) (fun _ s₁'=>wpAny (model prog w) A (assign target env v) (fun _ s₂=>wpAny (model prog w) A (eval iter' env) (fun x s₃=>wpAny (model prog w) A (pyIter x) (fun it' s₄ =>
   codeAny (model prog w) A (.compStart (.ListComp elt [⟨target,iter,[],0⟩,⟨target',iter',ifs,0⟩] scope pos) 1 it' acc env) (fun r s'=>r=.ok .next/\∃ m,m<n/\J m s') s₄)
    (fun _ _=>False) s₃) (fun _ _=>False) s₂) (fun _ _=>False) s₁') (fun _ _=>False) s₁)
   (fun _ _=>False) s) (n:Nat) (h:J n s) :
 codeAny (model prog w) A (.compLoop (.ListComp elt [⟨target,iter,[],0⟩,⟨target',iter',ifs,0⟩] scope pos) 0 it acc env) R s:=by
 refine codeAny_loop rfl J (fun n s hJ=>?_) n h
 show wpAny _ _ (Sem.onRaise (compTurn (.ListComp elt [⟨target,iter,[],0⟩,⟨target',iter',ifs,0⟩] scope pos) 0 it acc env) fun x=>do noteFrame x env;theTreesLotGoes x) _ _ _
 refine wpAny_noted ?_
 rw [SR]
 refine B1 (wpAny_standAt (B1 (wpAny_mono (turn n s hJ) (fun r s₁ h₁=>?_) fun _ _ z=>False.elim z)))
 cases r with
 | none=>exact B2 h₁
 | some v =>
   refine B1 (wpAny_mono h₁ (fun _ s₁' h₁'=>B1 (wpAny_mono h₁' (fun _ s₂ h₂=>B1 (wpAny_tests_nil ?_)) fun _ _ z=>False.elim z)) fun _ _ z=>False.elim z)
   refine B1 (wpAny_mono h₂ (fun x s₃ h₃=>?_) fun _ _ z=>False.elim z)
   refine B1 (wpAny_standAt (B1 (wpAny_of_eq (hs x) (B1 (wpAny_holding (wpAny_mono h₃ (fun it' s₄ h₄=>?_) fun _ _ z=>False.elim z))))))
   refine B1 (wpAny_runOwn (codeAny_mono h₄ fun r s' q=>?_))
   obtain ⟨rfl,q⟩:=q
   exact B2 ⟨rfl,q⟩
def RA:Nat->List (Option Nat)->Bool
 | _,[]=>true
 | n,none::m=>RA (n+1) m
 | n,some i::m=>(i==n)&&RA (n+1) m
theorem IP:∀ {m:List (Option Nat)} {n:Nat},RA n m=true->∀ j i:Nat,m[j]?=some (some i)->i=n+j
 | [],_,_,j,i,e=>by simp at e
 | none::m,n,h,0,i,e=>by simp at e
 | none::m,n,h,j+1,i,e=>by
   have:=IP (n:=n+1) h j i (by simpa using e)
   omega
 | some a::m,n,h,j,i,e=>by
   unfold RA at h
   rw [Bool.and_eq_true,beq_iff_eq] at h
   cases j with
   | zero=>simp at e;omega
   | succ j =>
     have:=IP h.2 j i (by simpa using e)
     omega
def FP:List (Option Nat)->List (Option Nat)->Bool
 | [],[]=>true
 | none::m,_::n=>FP m n
 | some _::m,some _::n=>FP m n
 | _,_=>false
theorem IW:∀ {m n:List (Option Nat)},FP m n=true->m.length=n.length
 | [],[],_=>rfl
 | none::m,_::n,h=>congrArg Nat.succ (IW (m:=m) (n:=n) (by unfold FP at h;exact h))
 | some _::m,some _::n,h=>congrArg Nat.succ (IW (m:=m) (n:=n) (by unfold FP at h;exact h))
 | [],_::_,h=>by cases h
 | none::_,[],h=>by cases h
 | some _::_,[],h=>by cases h
 | some _::_,none::_,h=>by cases h
theorem IX:∀ {m n:List (Option Nat)},FP m n=true->∀ j i:Nat,m[j]?=some (some i)->∃ i',n[j]?=some (some i')
 | [],[],_,j,i,e=>by simp at e
 | none::m,_::n,h,0,i,e=>by simp at e
 | none::m,_::n,h,j+1,i,e=>by
   obtain ⟨i',q⟩:=IX (m:=m) (n:=n) (by unfold FP at h;exact h) j i (by simpa using e)
   exact ⟨i',by simpa using q⟩
 | some _::m,some b::n,h,0,i,e=>⟨b,rfl⟩
 | some _::m,some _::n,h,j+1,i,e=>by
   obtain ⟨i',q⟩:=IX (m:=m) (n:=n) (by unfold FP at h;exact h) j i (by simpa using e)
   exact ⟨i',by simpa using q⟩
 | [],_::_,h,_,_,_=>by cases h
 | none::_,[],h,_,_,_=>by cases h
 | some _::_,[],h,_,_,_=>by cases h
 | some _::_,none::_,h,_,_,_=>by cases h
theorem PH {σ:St}{map:List (Option Nat)}{j:Nat}{v:V}(e:(capt σ map)[j]?=some (some v)):∃ i,map[j]?=some (some i)/\σ[i]?=some (some v):=by
 unfold capt at e
 rw [List.getElem?_map] at e
 cases hm:map[j]? with
 | none=>rw [hm] at e;cases e
 | some o =>
   rw [hm] at e
   cases o with
   | none=>simp at e
   | some i =>
     refine ⟨i,rfl,?_⟩
     have e':(σ[i]?).join=some v:=by simpa using e
     cases q:σ[i]? with
     | none=>rw [q] at e';cases e'
     | some o'=>rw [q] at e';exact congrArg some e'
theorem Q0b {σ:St}{map:List (Option Nat)}{j i:Nat}{v:V}(hm:map[j]?=some (some i))(e:σ[i]?=some (some v)):(capt σ map)[j]?=some (some v):=by
 unfold capt
 rw [List.getElem?_map,hm]
 simp [e]
structure DOk (X:Cx)(P0:List (Addr×Obj))(D:Addr):Prop where
 loc:D≠X.env.locals
 fs:D∉X.fs
 cell:∀ x c,X.env.cells.lookup x=some c->c≠D
 sz:X.s₀.heap.objs.size<=D
 pn:∀ p∈X.pn++P0,p.1≠D
abbrev QC (its:List Value)(k:Nat):Obj:={ cls:=.type "list",data:=.seq (List.toArray its) k }
theorem J1x {X:Cx}{P0:List (Addr×Obj)}{σ:St}{map:List (Option Nat)}{H1:Hp}{s:Shared}{D:Addr}{acc0:List V}{its0:List Value}{k0:Nat}{tg elt iter:Expr}{g1:Comprehension}{ifs:List Expr}{scope:Scope}{pos:Pos}{fp:List Addr}{it:Addr}{tn:Nat->Heap->Prop}{J:It}{g:TG}{tt:TT}{te:TE}{W:Nat->Nat->List V->Hp->Prop}{m0:Nat}{Fin:List V->Hp->Prop}
 (calm:X.calm=true) (d:DOk X P0 D) (I:Inv X P0 (capt σ map) H1 s) (hD:H1 D=none) (oD:s.heap.get? D=some (QC its0 k0)) (rv:Vals acc0 its0)
 (T:Turn X.prog X.w X.K tg J fp it tn) (st:tn 0 s.heap) (hf:∀ b∈fp,HJ X P0 H1 b) (nD:∀ b∈fp,b≠D)
 (pg:PG X tg g) (pif:PIf X ifs tt) (pel:PE X elt te) (nx:X.xe=fun _ _=>False) (keep:IE g map) (w0:W 0 m0 acc0 H1) (ht:MR J g tt te (capt σ map) Fin W) :
 codeAny (model X.prog X.w) X.A (.compLoop (.ListComp elt [g1,⟨tg,iter,ifs,0⟩] scope pos) 1 (.ref it) (.ref D) X.env) (fun r s'=>r=.ok .next/\∃ acc its k H',Inv X P0 (capt σ map) H' s'/\H' D=none/\s'.heap.get? D=some (QC its k)/\Vals acc its/\Fin acc H') s:=by
 refine VS (fun n s'=>∃ i acc H' its k,Inv X P0 (capt σ map) H' s'/\tn i s'.heap/\(∀ b∈fp,H' b=none)/\H' D=none/\s'.heap.get? D=some (QC its k)/\Vals acc its/\W i n acc H') ?_ m0 ⟨0,acc0,H1,its0,k0,I,st,fun b hb=>(hf b hb).1,hD,oD,rv,w0⟩
 rintro n s5 ⟨i,acc,H5,its,k,I5,st5,fr5,hD5,oD5,rv5,w5⟩
 have pinD:Inv X ((D,QC its k)::P0) (capt σ map) H5 s5:=I5.pins_of fun p hp=>by
  rcases List.mem_cons.mp hp with e|e
  · subst e;exact ⟨oD5,hD5,d.loc,d.fs,fun v z=>by cases z⟩
  · exact I5.pin p (List.mem_append_right _ e)
 have f4:∀ {H':Hp},(∀ b∈fp,H' b=none)->∀ b∈fp,HJ X ((D,QC its k)::P0) H' b:=fun {H'} hn b hb=>by
  obtain ⟨_,f1,f2,f3,f4,f5⟩:=hf b hb
  refine ⟨hn b hb,f1,f2,f3,f4,fun p hp=>?_⟩
  rcases List.mem_append.mp hp with z|z
  · exact f5 p (List.mem_append_left _ z)
  · rcases List.mem_cons.mp z with e|e
    · rw [e];exact (nD b hb).symm
    · exact f5 p (List.mem_append_right _ e)
 have err:∀ {Z:Prop} e s',X.xe e s'->Z:=fun {Z} e s' z=>by rw [nx] at z;exact z.elim
 rcases ht i n acc H5 w5 with ⟨stop,hsz,fin⟩|⟨go,hsz,NN,hNN,step⟩
 · refine thn (T.done X rfl rfl rfl calm i _ s5 (capt σ map) H5 _ pinD (f4 fr5) st5 stop) fun r s6 ⟨hr,I6⟩=>?_
   subst hr
   have pD:=I6.pin (D,QC its k) (List.mem_append_right _ List.mem_cons_self)
   exact ⟨rfl,acc,its,k,H5,I6.pins_of (fun p hp=>I6.pin p (List.mem_append_right _ (List.mem_cons_of_mem _ hp))),pD.2.1,pD.1,rv5,fin⟩
 · refine thn (T.item X rfl rfl rfl calm i _ s5 (capt σ map) H5 _ pinD (f4 fr5) st5 go) fun r s6 ⟨u,hr,h6⟩=>?_
   subst hr
   refine thn h6 fun _ s7 ⟨x,H7,I7,r7,y7,st7,fr7⟩=>?_
   have I7':=I7.pinned (f4 fr7) (T.obj _ _ st7)
   have stp:=keep _ _ _ _ (step x H7 y7)
   refine wpAny_mono (pg _ s7 (capt σ map) H7 x u _ I7' r7 stp) (fun _ s8 ⟨σ8,H8,I8,⟨kl,k8⟩,q8⟩=>?_) fun e s' z=>err e s' z
   refine wpAny_mono (pif _ s8 σ8 H8 _ I8 q8) (fun b s9 ⟨H9,I9,q9⟩=>?_) fun e s' z=>err e s' z
   have wk:∀ {σa:St} {Ha:Hp} {sa:Shared},σa=σ8->Inv X (((D,QC its k)::P0)++GU fp s7.heap) σa Ha sa ->
    Inv X P0 (capt σ map) Ha sa/\tn (i+1) sa.heap/\(∀ b∈fp,Ha b=none)/\Ha D=none/\sa.heap.get? D=some (QC its k):=fun {σa Ha sa} ea Ia=>by
    subst ea
    refine ⟨(Ia.pins_of (pins':=P0) fun p hp=>Ia.pin p (List.mem_append_right _ (List.mem_append_left _ (List.mem_cons_of_mem _ hp)))).weak kl.symm fun j v e=>?_,T.keep _ _ _ st7 fun b hb o e=>(Ia.pin (b,o) (List.mem_append_right _ (List.mem_append_right _ (CA hb e)))).1,fun b hb=>?_,?_,?_⟩
    · obtain ⟨i',hm,_⟩:=PH e
      rw [k8 j i' hm];exact e
    · obtain ⟨o,e,d⟩:=T.obj _ _ st7 b hb
      exact (Ia.pin (b,o) (List.mem_append_right _ (List.mem_append_right _ (CA hb e)))).2.1
    · exact (Ia.pin (D,QC its k) (List.mem_append_right _ (List.mem_append_left _ List.mem_cons_self))).2.1
    · exact (Ia.pin (D,QC its k) (List.mem_append_right _ (List.mem_append_left _ List.mem_cons_self))).1
   cases b with
   | false =>
     rw [if_neg Bool.false_ne_true] at q9 ⊢
     obtain ⟨m',hm',w9⟩:=hNN _ _ q9
     obtain ⟨a1,a2,a3,a4,a5⟩:=wk rfl I9
     exact ⟨m',hm',i+1,acc,H9,its,k,a1,a2,a3,a4,a5,rv5,w9⟩
   | true =>
     rw [if_pos rfl] at q9 ⊢
     refine wpAny_mono (pel _ s9 σ8 H9 _ I9 q9) (fun v s10 ⟨y,H10,I10,r10,q10⟩=>?_) fun e s' z=>err e s' z
     obtain ⟨m',hm',w10⟩:=hNN _ _ q10
     obtain ⟨a1,a2,a3,a4,a5⟩:=wk rfl I10
     have hl:=rv5.length
     refine wpAny_list_append_plain (items:=List.toArray its) ⟨k,a5⟩ (fun h11 pl11 sb11=>?_) (by simp only [List.size_toArray];omega)
     obtain ⟨k',e11⟩:=pl11
     refine ⟨m',hm',i+1,acc++[y],H10,its++[v],k',a1.turned (t':=s10.toks) (it:=D) (fun b o hb e=>(sb11.2 b hb).trans e) a4 d.loc (.inr d.sz) d.cell d.pn,T.keep _ _ _ a2 fun b hb o e=>(sb11.2 b (nD b hb)).trans e,a3,a4,?_,rv5.append (.cons r10 .nil),w10⟩
     rw [e11,List.push_toArray]
structure Blk2 (X:Cx)(N':List Str)(scope:Scope)(map mp2:List (Option Nat))(tg tg2 iter2 elt:Expr)(ifs:List Expr)(g:TG)(wi2:TI)(g2:TG)(tt:TT)(te:TE):Prop where
 calm:X.calm=true
 kind:scope.kind=.function
 loc:∀ x∈scope.names,x.2=.local->scope.names.lookup x.1=some .local
 free:(scope.names.all fun p=>!(p.2==NameKind.free)||(X.env.kindOf p.1==some .cell||X.env.kindOf p.1==some .free))=true
 cap:CapOk X scope map N'
 keep:IE g map
 keep2:IE g2 mp2
 ids:RA 0 mp2=true
 sub:FP map mp2=true
 fold:∀ env x,foldedSetIterable iter2 env x=pure x
 run:∀ cells C fp s H,PG (Q0 X N' scope cells C fp s H).nox tg g/\PI (Q0 X N' scope cells C fp s H).nox tg2 iter2 wi2/\PG (Q0 X N' scope cells C fp s H).nox tg2 g2/\PIf (Q0 X N' scope cells C fp s H).nox ifs tt/\PE (Q0 X N' scope cells C fp s H).nox elt te
def YI (J:It)(g:TG)(mp2:List (Option Nat))(wi2:TI)(g2:TG)(tt:TT)(te:TE)(σc:St)(Fin:List V->Hp->Prop)(W:Nat->Nat->List V->Hp->Prop):Prop :=
 ∀ i m acc H2,W i m acc H2->(J.stop i H2/\acc.length<=sizeLine/\Fin acc H2) \/
  (J.go i H2/\∃ N:List V->Hp->Prop,(∀ acc' H',N acc' H'->∃ m',m'<m/\W (i+1) m' acc' H')/\∀ x H3,J.yld i H2 x H3->g x σc H3 fun σ4 H4=>wi2 σ4 H4 fun J2 H5=>∃ W2:Nat->Nat->List V->Hp->Prop,(∃ m,W2 0 m acc H5)/\MR J2 g2 tt te (capt σ4 mp2) N W2)
section
variable {X:Cx}{elt iter tg tg2 iter2:Expr}{ifs:List Expr}{scope:Scope}{pos:Pos}{N':List Str}{map mp2:List (Option Nat)}{wi wi2:TI}{g g2:TG}{tt:TT}{te:TE}
theorem Blk2.one (B:Blk2 X N' scope map mp2 tg tg2 iter2 elt ifs g wi2 g2 tt te):Blk X N' scope map tg elt ifs (fun _ _ _ _=>False) (fun _ _ _=>False) (fun _ _ _=>False) :=
 ⟨B.calm,B.kind,B.loc,B.free,B.cap,fun _ _ _ _ z=>z.elim,fun _ _ _ _ _=>⟨fun _ _ _ _ _ _ _ _ _ z=>z.elim,fun _ _ _ _ _ _ z=>z.elim,fun _ _ _ _ _ _ z=>z.elim⟩⟩
theorem J6d {pins:List (Addr×Obj)}{σ:St}{H1:Hp}{s2:Shared}{cl:List (Str×Addr)}{fp:List Addr}{it:Addr}{tn:Nat->Heap->Prop}{J:It}{E:Value->Shared->Prop}(I:Inv X pins σ H1 s2)(B:Blk2 X N' scope map mp2 tg tg2 iter2 elt ifs g wi2 g2 tt te)
 (hsub:∀ x c,cl.lookup x=some c->X.env.cells.lookup x=some c) (hhas:∀ x,(x,NameKind.free)∈scope.names->(cl.lookup x).isSome=true)
 (T:Turn X.prog X.w X.K tg J fp it tn) (st:tn 0 s2.heap) (hf:∀ b∈fp,HJ X pins H1 b) {Fin:List V->Hp->Prop} {W:Nat->Nat->List V->Hp->Prop} {m0:Nat} (w0:W 0 m0 [] H1) (ht:YI J g mp2 wi2 g2 tt te (capt σ map) Fin W)
 {RR:Value->Addr->Result->Shared->Prop}
 (hOk:∀ D C acc H' s' m,Inv X pins σ (upd H' D (.lst acc)) s'->H' D=none->s'.heap.Ns C m->upd H' D (.lst acc) C=none->C≠X.env.locals->X.s₀.heap.objs.size<=C->(∀ x c,X.env.cells.lookup x=some c->c≠C)->(∀ p∈X.pn++pins,p.1≠C)->Fin acc H'->RR (.ref D) C (.ok .next) s') :
 wpAny (model X.prog X.w) X.A (newList []) (fun acc s3=>wpAny (model X.prog X.w) X.A (newFunctionEnv scope X.env.globals cl [] X.env.qual none .none (some X.env)) (fun cenv s4 =>
  codeAny (model X.prog X.w) X.A (.compStart (.ListComp elt [⟨tg,iter,[],0⟩,⟨tg2,iter2,ifs,0⟩] scope pos) 0 (.ref it) acc { cenv with scope:=relabel scope X.env }) (RR acc cenv.locals) s4) E s3) E s2:=by
 have fo:∀ b∈fp,∃ o,s2.heap.get? b=some o:=fun b hb=>by obtain ⟨o,e,_⟩:=T.obj 0 _ st b hb;exact ⟨o,e⟩
 refine wpAny_newObj_type ?_
 generalize hH2:s2.heap.push { cls:=.type "list",dict:=none,data:=.seq ([]:List Value).toArray }=H2
 have szD:H2.objs.size=s2.heap.objs.size+1:=by rw [<- hH2,Heap.size_push]
 have kD:∀ b o,s2.heap.get? b=some o->H2.get? b=some o:=fun b o e=>hH2▸B4 _ e
 simp only [newFunctionEnv,Option.isSome_some,if_true]
 refine B1 (wpAny_alloc ?_)
 refine B1 (wpAny_layCells _ (fun name kind cells=>by cases hkc:kind==NameKind.cell<;>simp [hkc]) _ _ _ _ ?_)
 dsimp only
 generalize hH3:H2.push { cls:=.type "dict",dict:=none,data:=.dict #[] }=h3
 have sz3:h3.objs.size=H2.objs.size+1:=by rw [<- hH3,Heap.size_push]
 have kC:∀ b o,H2.get? b=some o->h3.get? b=some o:=fun b o e=>hH3▸B4 _ e
 have nsC:h3.Ns H2.objs.size fun _=>none:=hH3▸Heap.Ns.new H2 (.type "dict")
 refine B1 (B2 (B2 ?_))
 show codeAny _ _ (.compStart (.ListComp elt [⟨tg,iter,[],0⟩,⟨tg2,iter2,ifs,0⟩] scope pos) 0 (.ref it) (.ref s2.heap.objs.size) (compEnvC scope (cellsFrom h3.objs.size scope.names cl) H2.objs.size X.env)) _ _
 generalize hX':(Q0 X N' scope (cellsFrom h3.objs.size scope.names cl) H2.objs.size fp s2 H1).nox=X'
 have I4:Inv X' [] (capt σ map) H1 { s2 with heap:=pushCells h3 scope.names }:=hX'▸(J0e I B.one.m hsub hhas hf fo H2.objs.size h3 (by rw [szD];exact Nat.le_succ _) (fun b o e=>kC b o (kD b o e)) (by rw [sz3];exact Nat.lt_succ_self _) nsC s2.toks).wish _
 obtain ⟨pg,pi2,pg2,pif,pel⟩:=B.run (cellsFrom h3.objs.size scope.names cl) H2.objs.size fp s2 H1
 rw [hX'] at pg pi2 pg2 pif pel
 have eprog:X'.prog=X.prog:=by rw [<- hX'];rfl
 have ew:X'.w=X.w:=by rw [<- hX'];rfl
 have eK:X'.K=X.K:=by rw [<- hX'];rfl
 have eA:X'.A=X.A:=by rw [<- hX'];rfl
 have ecalm:X'.calm=true:=by rw [<- hX'];exact B.calm
 have eenv:X'.env=compEnvC scope (cellsFrom h3.objs.size scope.names cl) H2.objs.size X.env:=by rw [<- hX'];rfl
 have exe:X'.xe=fun _ _=>False:=by rw [<- hX']
 have es0:X'.s₀=s2:=by rw [<- hX'];rfl
 have eH0:X'.H₀=H1:=by rw [<- hX'];rfl
 have eex:X'.ex=fp:=by rw [<- hX'];rfl
 have efs:X'.fs=frs X.stack:=by rw [<- hX'];rfl
 have epn:X'.pn=[]:=by rw [<- hX'];rfl
 have eL:X'.env.locals=H2.objs.size:=by rw [eenv];rfl
 generalize hDd:s2.heap.objs.size=D at *
 have fD:∀ b∈fp,b≠D:=fun b hb=>by obtain ⟨o,e⟩:=fo b hb;exact Nat.ne_of_lt (hDd▸B5 e)
 have nfsD:D∉X'.fs:=fun hb=>by
  rw [efs] at hb
  have h1:=I.stkSub D hb
  rcases List.mem_cons.mp h1 with z|z
  · have:=I.lt;rw [hDd,<- z] at this;exact Nat.lt_irrefl _ this
  · exact I.nofs (by rw [hDd];exact Nat.le_refl _) z
 have ncD:∀ x c,X'.env.cells.lookup x=some c->c≠D:=fun x c e z=>by
  rw [eenv] at e
  rcases VT _ _ _ x c e with q|q
  · obtain ⟨v,o,ho,_⟩:=I.cell x c (hsub x c q)
    have:=B5 ho
    rw [hDd,z] at this
    exact Nat.lt_irrefl _ this
  · rw [z,sz3,szD] at q
    exact absurd (Nat.lt_of_lt_of_le (Nat.lt_succ_of_lt (Nat.lt_succ_self D)) q) (Nat.lt_irrefl _)
 have f4:∀ {H':Hp} {pl:List (Addr×Obj)},(∀ b∈fp,H' b=none)->(∀ p∈pl,p.1=D)->∀ b∈fp,HJ X' pl H' b:=fun {H' pl} hn hpl b hb=>by
  have q:=hf b hb
  refine ⟨hn b hb,?_,?_,.inl (by rw [eex];exact hb),fun x c e=>?_,fun p hp=>?_⟩
  · rw [eL]
    obtain ⟨o,e⟩:=fo b hb
    have:=B5 e
    rw [hDd] at this
    intro z
    rw [z,szD] at this
    exact absurd (Nat.lt_of_succ_lt this) (Nat.lt_irrefl _)
  · have:=I4.ok.exfs b (by rw [eex];exact hb)
    exact this
  · exact (I4.ok.exf b (by rw [eex];exact hb)).2 x c e
  · rw [epn] at hp
    have hp:p∈pl:=by simpa using hp
    rw [hpl p hp]
    exact (fD b hb).symm
 have noCell:∀ {its:Array Value} {n:Nat} (v:Option Value),({ cls:=.type "list",data:=.seq its n }:Obj).data≠.cell v:=fun v z=>by cases z
 have hD4:(pushCells h3 scope.names).get? D=some { cls:=.type "list",data:=.seq ([]:List Value).toArray 0 }:=pushCells_keeps _ _ _ _ (kC _ _ (by rw [<- hH2,<- hDd];exact Heap.get?_push_size _ rfl))
 have loop:codeAny (model X.prog X.w) X.A (.compLoop (.ListComp elt [⟨tg,iter,[],0⟩,⟨tg2,iter2,ifs,0⟩] scope pos) 0 (.ref it) (.ref D) (compEnvC scope (cellsFrom h3.objs.size scope.names cl) H2.objs.size X.env)) (RR (.ref D) H2.objs.size) { s2 with heap:=pushCells h3 scope.names }:=by
  refine ST (fun n s'=>∃ i acc H' its k,Inv X' [] (capt σ map) H' s'/\tn i s'.heap/\(∀ b∈fp,H' b=none)/\H' D=none/\s'.heap.get? D=some { cls:=.type "list",data:=.seq (List.toArray its) k }/\Vals acc its/\W i n acc H') (B.fold _) ?_ m0
   ⟨0,[],H1,[],0,I4,T.keep _ _ _ st fun b hb o e=>pushCells_keeps _ _ _ _ (kC _ _ (kD _ _ e)),fun b hb=>(hf b hb).1,I.hok.fresh (by rw [hDd];exact Nat.le_refl _),hD4,.nil,w0⟩
  rintro n s5 ⟨i,acc,H5,its,k,I5,st5,fr5,hD5,oD5,rv5,w5⟩
  have pinD:Inv X' [(D,{ cls:=.type "list",data:=.seq (List.toArray its) k })] (capt σ map) H5 s5:=I5.pins_of fun p hp=>by
   have e:p=(D,{ cls:=.type "list",data:=.seq (List.toArray its) k }):=by simpa using hp
   subst e
   refine ⟨oD5,hD5,?_,nfsD,fun v=>noCell v⟩
   rw [eL,szD]
   exact Nat.ne_of_lt (Nat.lt_succ_self _)
  have plD:∀ p∈[(D,({ cls:=.type "list",data:=.seq (List.toArray its) k }:Obj))],p.1=D:=fun p hp=>by
   have e:p=(D,{ cls:=.type "list",data:=.seq (List.toArray its) k }):=by simpa using hp
   rw [e]
  have err:∀ {Z:Prop} e s',X'.xe e s'->Z:=fun {Z} e s' z=>by rw [exe] at z;exact z.elim
  rcases ht i n acc H5 w5 with ⟨stop,hsz,fin⟩|⟨go,NN,hNN,step⟩
  · have dn:=T.done X' eprog ew eK ecalm i _ s5 (capt σ map) H5 (fun _ _=>False) pinD (f4 fr5 plD) st5 stop
    rw [eA] at dn
    refine thn dn fun r s6 ⟨hr,I6⟩=>?_
    subst hr
    obtain ⟨oD6,hD6,_⟩:=I6.pin (D,_) (by rw [epn];exact List.mem_cons_self)
    obtain ⟨m,nsm,_⟩:=I6.loc
    rw [eL] at nsm
    have un:=I6.base
    rw [efs,eex,eH0,es0] at un
    have hok:=I6.hok
    rw [eprog,ew] at hok
    have os6:=I6.os
    rw [es0] at os6
    have fC:H5 H2.objs.size=none:=by rw [<- eL];exact I6.free
    have nDC:H2.objs.size≠D:=by rw [szD];exact Nat.ne_of_gt (Nat.lt_succ_self _)
    refine hOk D H2.objs.size acc H5 s6 m (I.call' (ch:=fp) os6 ?_ ?_ I6.bare fun b hb=>?_) hD5 nsm (by rw [V3 nDC];exact fC) ?_ ?_ ?_ ?_ fin
    · refine ⟨un.keep,un.slot,fun b o e n hx=>?_,un.there,fun b xs e=>?_,fun b o u e=>?_,fun b ps e=>?_⟩
      · rw [V3 (Nat.ne_of_lt (hDd▸B5 e))]
        exact un.free b o e n hx
      · have:=un.tups b xs e
        rw [V3 (Y2 this hD5)]
        exact this
      · have:=un.frzs b o u e
        rw [V3 (Y2 this hD5)]
        exact this
      · obtain ⟨more,this⟩:=un.tbls b ps e
        exact ⟨more,by rw [V3 (Y2 this hD5)];exact this⟩
    · intro b o e
      by_cases hb:b=D
      · subst hb
        rw [V8] at e
        cases e
        exact ⟨hsz,its,k,rv5,oD6⟩
      · rw [V3 hb] at e
        exact (hok b o e).stay (fun _ _ _ q=>q) (fun c q=>by rw [V3 (Y2 q hD5)];exact q) fun c xs q=>by rw [V3 (Y2 q hD5)];exact q
    · obtain ⟨f0,f1,f2,f3,f4',f5⟩:=hf b hb
      exact ⟨f3,f1,f4',f5⟩
    · have:=I.lt
      rw [hDd] at this
      intro z
      rw [<- z,szD] at this
      exact absurd (Nat.lt_of_succ_lt this) (Nat.lt_irrefl _)
    · have:=I.sz
      rw [hDd] at this
      omega
    · intro x c e z
      obtain ⟨v,o,ho,_⟩:=I.cell x c e
      have:=B5 ho
      rw [hDd,z,szD] at this
      exact absurd (Nat.lt_of_succ_lt this) (Nat.lt_irrefl _)
    · intro p hp z
      have:=B5 (I.pin p hp).1
      rw [hDd,z,szD] at this
      exact absurd (Nat.lt_of_succ_lt this) (Nat.lt_irrefl _)
  · have im:=T.item X' eprog ew eK ecalm i _ s5 (capt σ map) H5 (fun _ _=>False) pinD (f4 fr5 plD) st5 go
    rw [eA] at im
    refine thn im fun r s6 ⟨u,hr,h6⟩=>?_
    subst hr
    refine thn h6 fun _ s7 ⟨x,H7,I7,r7,y7,st7,fr7⟩=>?_
    have I7':=I7.pinned (f4 fr7 plD) (T.obj _ _ st7)
    have stp:=B.keep _ _ _ _ (step x H7 y7)
    have pgx:=pg _ s7 (capt σ map) H7 x u _ I7' r7 stp
    rw [eprog,ew,eA,eenv] at pgx
    refine wpAny_mono pgx (fun _ s8 ⟨σ8,H8,I8,⟨kl,k8⟩,q8⟩=>?_) fun e s' z=>err e s' z
    have pix:=pi2 _ s8 σ8 H8 _ I8 q8
    rw [eprog,ew,eA,eenv] at pix
    refine wpAny_mono pix (fun v s9 h9=>wpAny_mono h9 (fun itv s10 h10=>?_) fun e s' z=>err e s' z) fun e s' z=>err e s' z
    obtain ⟨it2,fp2,tn2,J2,H10,e,I10,T2,st10,f10,W2,⟨m2,w10⟩,tr2⟩:=h10
    subst e
    have pD10:=I10.pin (D,{ cls:=.type "list",data:=.seq (List.toArray its) k }) (List.mem_append_right _ (List.mem_append_left _ List.mem_cons_self))
    have dk:DOk X' (GU fp s7.heap) D:=⟨by rw [eL,szD];exact Nat.ne_of_lt (Nat.lt_succ_self _),nfsD,ncD,by rw [es0,hDd];exact Nat.le_refl _,fun p hp=>by
     rw [epn] at hp
     exact fD p.1 (QT (by simpa using hp)).1⟩
    have len8:(capt σ8 mp2).length=σ8.length:=by
     have h1:=IW B.sub
     have h2:(capt σ map).length=map.length:=by unfold capt;rw [List.length_map]
     have h3:(capt σ8 mp2).length=mp2.length:=by unfold capt;rw [List.length_map]
     omega
    have I11:Inv X' (GU fp s7.heap) (capt σ8 mp2) H10 s10:=(I10.pins_of (pins':=GU fp s7.heap) fun p hp=>I10.pin p (List.mem_append_right _ (List.mem_append_right _ hp))).weak len8 fun j v e=>by
     obtain ⟨i',hm,e'⟩:=PH e
     have:i'=j:=by have:=IP B.ids j i' hm;omega
     rw [<- this];exact e'
    have run:=J1x (g1:=⟨tg,iter,[],0⟩) (iter:=iter2) (scope:=scope) (pos:=pos) (X:=X') (σ:=σ8) (map:=mp2) (by rw [ecalm]) dk I11 pD10.2.1 pD10.1 rv5 T2 st10 (fun b hb=>by
     obtain ⟨z0,z1,z2,z3,z4,z5⟩:=f10 b hb
     exact ⟨z0,z1,z2,z3,z4,fun p hp=>(List.mem_append.mp hp).elim (fun q=>z5 p (List.mem_append_left _ q)) fun q=>z5 p (List.mem_append_right _ (List.mem_append_right _ q))⟩) (fun b hb=>by
     obtain ⟨z0,z1,z2,z3,z4,z5⟩:=f10 b hb
     exact (z5 (D,{ cls:=.type "list",data:=.seq (List.toArray its) k }) (List.mem_append_right _ (List.mem_append_left _ List.mem_cons_self))).symm) pg2 pif pel exe B.keep2 w10 tr2
    rw [eprog,ew,eA,eenv] at run
    have run':=codeAny_mono (R':=fun r s'=>r=.ok .next/\∃ m,m<n/\∃ i acc H' its k,Inv X' [] (capt σ map) H' s'/\tn i s'.heap/\(∀ b∈fp,H' b=none)/\H' D=none/\s'.heap.get? D=some { cls:=.type "list",data:=.seq (List.toArray its) k }/\Vals acc its/\W i m acc H') run fun r s' q=>by
     obtain ⟨rfl,acc',its',k',H',I',hD',oD',rv',nn⟩:=q
     obtain ⟨m',hm',w'⟩:=hNN _ _ nn
     refine ⟨rfl,m',hm',i+1,acc',H',its',k',(I'.pins_of (pins':=[]) fun p hp=>absurd hp (by simp)).weak (by rw [len8,kl]) fun j v e=>?_,T.keep _ _ _ st7 fun b hb o e=>(I'.pin (b,o) (List.mem_append_right _ (CA hb e))).1,fun b hb=>?_,hD',oD',rv',w'⟩
     · obtain ⟨i',hm,_⟩:=PH e
       obtain ⟨i2,hm2⟩:=IX B.sub j i' hm
       have:i2=j:=by have:=IP B.ids j i2 hm2;omega
       subst this
       exact Q0b hm2 (by rw [k8 _ i' hm];exact e)
     · obtain ⟨o,e,d⟩:=T.obj _ _ st7 b hb
       exact (I'.pin (b,o) (List.mem_append_right _ (CA hb e))).2.1
    have sf:=fun Q E=>T2.self X'.A 0 s10 Q E st10
    rw [eprog,ew,eA] at sf
    exact SS run' (sf _ _ run')
 exact codeAny_compStart_list loop (T.self _ 0 _ _ _ (T.keep _ _ _ st fun b hb o e=>pushCells_keeps _ _ _ _ (kC _ _ (kD _ _ e))) loop)
theorem Blk2.clos {pins:List (Addr×Obj)}{σ:St}{H:Hp}{s:Shared}(B:Blk2 X N' scope map mp2 tg tg2 iter2 elt ifs g wi2 g2 tt te)(I:Inv X pins σ H s) :
 ∃ cl,closureFor scope X.env=pure cl/\(∀ x c,cl.lookup x=some c->X.env.cells.lookup x=some c)/\∀ x,(x,NameKind.free)∈scope.names->(cl.lookup x).isSome=true:=B.one.clos I
def Q1z (wi:TI)(map mp2:List (Option Nat))(g:TG)(wi2:TI)(g2:TG)(tt:TT)(te:TE):TE:=fun σ H Q=>wi σ H fun J H1=>∃ W:Nat->Nat->List V->Hp->Prop,(∃ m,W 0 m [] H1) /\
 YI J g mp2 wi2 g2 tt te (capt σ map) (fun acc H'=>∀ D,H' D=none->Q (.ref D) (upd H' D (.lst acc))) W
theorem UL (B:Blk2 X N' scope map mp2 tg tg2 iter2 elt ifs g wi2 g2 tt te)(hi:PI X tg iter wi)(hs:∀ x,foldedSetIterable iter X.env x=pure x:=by intro _;rfl):PE X (.ListComp elt [⟨tg,iter,[],0⟩,⟨tg2,iter2,ifs,0⟩] scope pos) (Q1z wi map mp2 g wi2 g2 tt te):=by
 intro pins s σ H Q I h
 obtain ⟨cl,hcl,hsub,hhas⟩:=B.clos I
 rw [eval_ListComp]
 refine wpAny_comprehension_free (use:=none) rfl hs hcl B.kind B.loc (thn (hi pins s σ H _ I h) fun v s1 h1=>thn h1 fun itv s2 h2=>?_)
 obtain ⟨it,fp,tn,J,H2,e,I2,T,st2,f2,W,⟨m0,w0⟩,turn⟩:=h2
 subst e
 refine J6d (RR:=fun acc C=>compPost (model X.prog X.w) X.A X.xe none (EP X pins σ Q) acc C) I2 B hsub hhas T st2 f2 w0 turn fun D C acc H' s' m I' hD nsm fC c1 c2 c3 c4 fin=>?_
 refine ⟨m,nsm,fun h' sb=>⟨.ref D,_,?_,rfl,fin D hD⟩⟩
 exact I'.turned (t':=s'.toks) (fun b o hb e=>(sb.2 b hb).trans e) fC c1 (.inr c2) c3 c4
end
inductive compG (gd:D->Ev->(Ev->Prop)->Prop)(dt:DT)(de:DE)(ρc:Ev)(items acc0:List D)(P:List D->Prop):Prop
 | mk (I:Nat->List D->Prop) (h0:I 0 acc0) (hs:∀ (i:Nat) x acc,items[i]?=some x->I i acc->gd x ρc fun ρ1=>dt ρ1 fun c=>IfP c (de ρ1 fun y=>plain y=true/\I (i+1) (acc++[y])) (I (i+1) acc)) (hd:∀ acc,I items.length acc->P acc):compG gd dt de ρc items acc0 P
inductive compI2 (gd:D->Ev->(Ev->Prop)->Prop)(mp2:List (Option Nat))(di2:DA)(gd2:D->Ev->(Ev->Prop)->Prop)(dt:DT)(de:DE)(ρc:Ev)(items:List D)(P:List D->Prop):Prop
 | mk (I:Nat->List D->Prop) (h0:I 0 []) (hs:∀ (i:Nat) x acc,items[i]?=some x->I i acc->gd x ρc fun ρ1=>di2 ρ1 fun ys=>ys.length<=1000/\compG gd2 dt de (FL ρ1 mp2) ys acc (I (i+1))) (hd:∀ acc,I items.length acc->P acc):compI2 gd mp2 di2 gd2 dt de ρc items P
def Q4z (map mp2:List (Option Nat))(gd:D->Ev->(Ev->Prop)->Prop)(di:DA)(gd2:D->Ev->(Ev->Prop)->Prop)(di2:DA)(dt:DT)(de:DE):DE:=fun ρ P=>di ρ fun items=>items.length<=1000/\compI2 gd mp2 di2 gd2 dt de (FL ρ map) items fun acc=>P (.lst acc)
def J9u (map mp2:List (Option Nat))(gd:D->Ev->(Ev->Prop)->Prop)(di:DA)(gd2:D->Ev->(Ev->Prop)->Prop)(di2:DA)(dt:DT)(de:DE):DS:=fun F ρ=>di ρ fun items=>items.length<=1000/\compI2 gd mp2 di2 gd2 dt de (FL ρ map) items fun acc=>F.ro acc
theorem leM:2000000<=sizeLine:=by rw [sizeLine_eq];decide
theorem VP {W:Wd}{pn:List (D×V)}{M:Addr->Prop}{b:Option Addr}{H:Hp}{σ:St}{ρ:Ev}{J:It}{need:List (D×V)}{items ds0:List D}{acc0:List V}{g:TG}{gd:D->Ev->(Ev->Prop)->Prop}{dt:DT}{de:DE}{P:List D->Prop}{Fin:List V->Hp->Prop}
 (hG:GD W g gd) (st:Sta W pn M b H σ ρ) (hp:items.all plain=true) (hI:MI W J need items) (hn:∀ q∈need,RepX W M b H q.1 q.2) (r0:Reps W.K M H ds0 acc0) (hl:acc0.length+items.length<=2000000) (h:compG gd dt de ρ items ds0 P)
 (fin:∀ ds acc H',P ds->Reps W.K M H' ds acc->acc.length<=acc0.length+items.length->Kp b H H'->okB W.B b H'->Fin acc H'):∃ Wf:Nat->Nat->List V->Hp->Prop,(∃ m,Wf 0 m acc0 H)/\MR J g (dnT W dt) (dn W de) σ Fin Wf:=by
 obtain ⟨I,i0,istep,idone⟩:=h
 refine ⟨fun i m acc H2=>m=items.length - i/\i<=items.length/\acc.length<=acc0.length+i/\Kp b H H2/\okB W.B b H2/\∃ ds,Reps W.K M H2 ds acc/\I i ds,⟨items.length,by simp,Nat.zero_le _,Nat.le_refl _,Kp.refl _ _,st.ok,ds0,r0,i0⟩,?_⟩
 rintro i m acc H2 ⟨rfl,hi,ha,k2,o2,ds,r,q⟩
 have st2:=st.step k2 o2
 obtain ⟨hgo,hstop⟩:=hI M b H2 st2.toHs fun q hq=>(hn q hq).step st.bagM k2
 by_cases hlt:i<items.length
 · have ei:items[i]?=some items[i]:=List.getElem?_eq_getElem hlt
   replace q:=istep i _ ds ei q
   refine .inr ⟨(hgo i _ ei).1,by have:=leM;omega,fun acc' H'=>acc'.length<=acc0.length+(i+1)/\Kp b H H'/\okB W.B b H'/\∃ ds,Reps W.K M H' ds acc'/\I (i+1) ds,fun acc' H' n=>⟨items.length - (i+1),by omega,rfl,hlt,n⟩,fun x H3 y=>?_⟩
   obtain ⟨S3,rx⟩:=(hgo i _ ei).2 x H3 y
   have o3:okB W.B b H3:=fun p e=>W.B.st p H2 H3 (o2 p e) fun o e'=>S3 p o e'
   have k3:Kp b H2 H3:=Kp.same S3
   have st3:=st2.step k3 o3
   refine hG pn M b H3 σ ρ items[i] x _ _ st3 rx (List.all_eq_true.mp hp _ (List.getElem_mem hlt)) q fun ρ1 σ1 h1 st4 _=>?_
   refine ⟨pn,M,b,ρ1,_,st4,h1,fun c H5 h5 k5 o5=>?_⟩
   cases h5 with
   | t e h5 =>
     rw [if_pos e]
     refine ⟨pn,M,b,ρ1,_,st4.step k5 o5,h5,fun y v H6 h6 ry k6 o6=>?_⟩
     have kk:=((k3.trans k5).trans k6)
     refine ⟨by simp;omega,k2.trans kk,o6,ds++[y],Reps.append (Reps.keep (fun c o n e=>kk c o (fun z=>n (st.bagM c z)) e) _ _ r) ⟨v,[],rfl,ry.rep h6.1,rfl⟩,h6.2⟩
   | f e h5 =>
     rw [if_neg (by rw [e];exact Bool.false_ne_true)]
     have kk:=k3.trans k5
     exact ⟨by omega,k2.trans kk,o5,ds,Reps.keep (fun c o n e=>kk c o (fun z=>n (st.bagM c z)) e) _ _ r,h5⟩
 · have e:i=items.length:=by omega
   subst e
   exact .inl ⟨hstop _ (Nat.le_refl _),by have:=leM;omega,fin ds acc H2 (idone _ q) r ha k2 o2⟩
theorem MQ {W:Wd}{pn:List (D×V)}{M:Addr->Prop}{b:Option Addr}{H:Hp}{σ:St}{ρ:Ev}{J:It}{need:List (D×V)}{items:List D}{g g2:TG}{gd gd2:D->Ev->(Ev->Prop)->Prop}{mp2:List (Option Nat)}{di2:DA}{dt:DT}{de:DE}{P:List D->Prop}{Fin:List V->Hp->Prop}
 (hG:GD W g gd) (hG2:GD W g2 gd2) (st:Sta W pn M b H σ ρ) (hp:items.all plain=true) (hI:MI W J need items) (hn:∀ q∈need,RepX W M b H q.1 q.2) (hl:items.length<=1000) (h:compI2 gd mp2 di2 gd2 dt de ρ items P)
 (fin:∀ ds acc H',P ds->Reps W.K M H' ds acc->acc.length<=sizeLine->Kp b H H'->okB W.B b H'->Fin acc H'):∃ Wf:Nat->Nat->List V->Hp->Prop,(∃ m,Wf 0 m [] H)/\YI J g mp2 (dnI W false di2) g2 (dnT W dt) (dn W de) σ Fin Wf:=by
 obtain ⟨I,i0,istep,idone⟩:=h
 refine ⟨fun i m acc H2=>m=items.length - i/\i<=items.length/\acc.length<=1000*i/\Kp b H H2/\okB W.B b H2/\∃ ds,Reps W.K M H2 ds acc/\I i ds,⟨items.length,by simp,Nat.zero_le _,Nat.le_refl _,Kp.refl _ _,st.ok,[],rfl,i0⟩,?_⟩
 rintro i m acc H2 ⟨rfl,hi,ha,k2,o2,ds,r,q⟩
 have st2:=st.step k2 o2
 obtain ⟨hgo,hstop⟩:=hI M b H2 st2.toHs fun q hq=>(hn q hq).step st.bagM k2
 by_cases hlt:i<items.length
 · have ei:items[i]?=some items[i]:=List.getElem?_eq_getElem hlt
   replace q:=istep i _ ds ei q
   refine .inr ⟨(hgo i _ ei).1,fun acc' H'=>acc'.length<=1000*(i+1)/\Kp b H H'/\okB W.B b H'/\∃ ds,Reps W.K M H' ds acc'/\I (i+1) ds,fun acc' H' n=>⟨items.length - (i+1),by omega,rfl,hlt,n⟩,fun x H3 y=>?_⟩
   obtain ⟨S3,rx⟩:=(hgo i _ ei).2 x H3 y
   have o3:okB W.B b H3:=fun p e=>W.B.st p H2 H3 (o2 p e) fun o e'=>S3 p o e'
   have k3:Kp b H2 H3:=Kp.same S3
   have st3:=st2.step k3 o3
   refine hG pn M b H3 σ ρ items[i] x _ _ st3 rx (List.all_eq_true.mp hp _ (List.getElem_mem hlt)) q fun ρ1 σ1 h1 st4 _=>?_
   refine ⟨pn,M,b,ρ1,_,st4,h1,fun ys J2 need2 H5 hys hp2 hI2 hn2 k5 o5=>?_⟩
   have st5:=(st4.step k5 o5).capt mp2
   have kk:=k3.trans k5
   have hy:=hys.1
   exact VP hG2 st5 hp2 hI2 (fun q hq=>(hn2 q hq).1) (Reps.keep (fun c o n e=>kk c o (fun z=>n (st.bagM c z)) e) _ _ r) (by omega) hys.2 fun ds acc H' hP r hl' k o=>⟨by omega,(k2.trans kk).trans k,o,ds,r,hP⟩
 · have e:i=items.length:=by omega
   subst e
   exact .inl ⟨hstop _ (Nat.le_refl _),by have:=leM;omega,fin ds acc H2 (idone _ q) r (by have:=leM;omega) k2 o2⟩
section
variable {X:Cx}{W:Wd}{elt iter tg tg2 iter2:Expr}{ifs:List Expr}{scope:Scope}{pos:Pos}{N':List Str}{map mp2:List (Option Nat)}{g g2:TG}{gd gd2:D->Ev->(Ev->Prop)->Prop}{di di2:DA}{dt:DT}{de:DE}
theorem GH (hG:GD W g gd)(hG2:GD W g2 gd2)(B:Blk2 X N' scope map mp2 tg tg2 iter2 elt ifs g (dnI W false di2) g2 (dnT W dt) (dn W de))(hi:JI X W false tg iter di)(hs:∀ x,foldedSetIterable iter X.env x=pure x:=by intro _;rfl):JE X W (.ListComp elt [⟨tg,iter,[],0⟩,⟨tg2,iter2,ifs,0⟩] scope pos) (Q4z map mp2 gd di gd2 di2 dt de):=⟨(UL B hi.h hs).mono fun σ H Q hh=>hh.elim fun pn M b ρ P st h k=>by
 refine ⟨pn,M,b,ρ,_,st,h,fun items J need H1 hx hp hI hn k1 o1=>?_⟩
 have st1:=st.step k1 o1
 refine MQ hG hG2 (st1.capt map) hp hI (fun q hq=>(hn q hq).1) hx.1 hx.2 fun ds acc H' hP r hl k2 o2 D hD=>?_
 exact k _ _ _ hP (DD (st1.step k2 o2).toHs r hD) ((k1.trans k2).trans (Kp.upd hD)) ((st1.step k2 o2).okU hD)⟩
theorem XX {cpos:Pos}(hG:GD W g gd)(hG2:GD W g2 gd2)(B:Blk2 X N' scope map mp2 tg tg2 iter2 elt ifs g (dnI W false di2) g2 (dnT W dt) (dn W de))(hi:JI X W false tg iter di)(hs:∀ x,foldedSetIterable iter X.env x=pure x:=by intro _;rfl):JS X W (.Return (some (.ListComp elt [⟨tg,iter,[],0⟩,⟨tg2,iter2,ifs,0⟩] scope cpos)) pos) (J9u map mp2 gd di gd2 di2 dt de):=⟨(FY (UL B hi.h hs)).mono fun E σ H hh=>hh.elim fun pn M b ρ F s l h=>by
 refine ⟨pn,M,b,ρ,_,s.toSta,h,fun items J need H1 hx hp hI hn k1 o1=>?_⟩
 have s1:=s.step k1 o1
 refine MQ hG hG2 (s1.toSta.capt map) hp hI (fun q hq=>(hn q hq).1) hx.1 hx.2 fun ds acc H' hP r hl k2 o2 q hq=>?_
 exact YY (s1.step k2 o2).toSta l hq r hP⟩
theorem RK (calm:X.calm=true) (kind:scope.kind=.function) (loc:∀ x∈scope.names,x.2=.local->scope.names.lookup x.1=some .local) (free:(scope.names.all fun p=>!(p.2==NameKind.free)||(X.env.kindOf p.1==some .cell||X.env.kindOf p.1==some .free))=true) (cap:CapOk X scope map N') (keep:IE g map) (keep2:IE g2 mp2) (ids:RA 0 mp2=true) (sub:FP map mp2=true)
 (run:∀ cells C fp s H,PG (Q0 X N' scope cells C fp s H).nox tg g/\JI (Q0 X N' scope cells C fp s H).nox W false tg2 iter2 di2/\PG (Q0 X N' scope cells C fp s H).nox tg2 g2/\JIf (Q0 X N' scope cells C fp s H).nox W ifs dt/\JE (Q0 X N' scope cells C fp s H).nox W elt de)
 (fold:∀ env x,foldedSetIterable iter2 env x=pure x:=by intro _ _;rfl):Blk2 X N' scope map mp2 tg tg2 iter2 elt ifs g (dnI W false di2) g2 (dnT W dt) (dn W de) :=
 ⟨calm,kind,loc,free,cap,keep,keep2,ids,sub,fold,fun cells C fp s H=>by
  obtain ⟨a,b,c,d,e⟩:=run cells C fp s H
  exact ⟨a,b.h,c,d.h,e.h⟩⟩
end
def RowsR (K:Fg)(M:Addr->Prop)(H:Hp):List Addr->List (List D)->Prop
 | [],rows=>rows=[]
 | r::rs,rows=>∃ row rest us,rows=row::rest/\H r=some (.lst us)/\Reps K M H row us/\RowsR K M H rs rest
section
variable {K:Fg}{M M':Addr->Prop}{H H':Hp}
theorem RowsR.keep:∀ (rs:List Addr) (rows:List (List D)),(∀ c o,(¬ M c\/c∈rs)->H c=some o->H' c=some o)->RowsR K M H rs rows->RowsR K M H' rs rows
 | [],_,_,h=>h
 | r::rs,rows,k,h=>by
   obtain ⟨row,rest,us,e,h1,h2,h3⟩:=h
   exact ⟨row,rest,us,e,k _ _ (.inr (List.mem_cons_self ..)) h1,Reps.keep (fun c o n e=>k c o (.inl n) e) _ _ h2,RowsR.keep rs rest (fun c o q e=>k c o (q.imp id (List.mem_cons_of_mem _)) e) h3⟩
theorem RowsR.avoid (k:∀ c,M' c->M c\/H c=none):∀ (rs:List Addr) (rows:List (List D)),RowsR K M H rs rows->RowsR K M' H rs rows
 | [],_,h=>h
 | r::rs,rows,h=>by
   obtain ⟨row,rest,us,e,h1,h2,h3⟩:=h
   exact ⟨row,rest,us,e,h1,Reps.avoid k _ _ h2,RowsR.avoid k rs rest h3⟩
theorem RowsR.length:∀ {rs:List Addr} {rows:List (List D)},RowsR K M H rs rows->rows.length=rs.length
 | [],_,h=>by rw [show _=[] from h];rfl
 | r::rs,rows,h=>by
   obtain ⟨row,rest,us,rfl,h1,h2,h3⟩:=h
   simp [RowsR.length h3]
theorem RowsR.lst:∀ {rs:List Addr} {rows:List (List D)},RowsR K M H rs rows->∀ r∈rs,∃ us,H r=some (.lst us)
 | [],_,_,r,m=>by cases m
 | r::rs,rows,h,r',m=>by
   obtain ⟨row,rest,us,rfl,h1,h2,h3⟩:=h
   rcases List.mem_cons.mp m with z|z
   · rw [z];exact ⟨us,h1⟩
   · exact RowsR.lst h3 r' z
theorem RowsR.at:∀ {rs:List Addr} {rows:List (List D)} {k:Nat} {r:Addr},RowsR K M H rs rows->rs[k]?=some r->∃ row us,rows[k]?=some row/\H r=some (.lst us)/\Reps K M H row us
 | [],_,_,_,_,e=>by simp at e
 | _::rs,rows,0,r,h,e=>by
   obtain ⟨row,rest,us,rfl,h1,h2,h3⟩:=h
   simp at e;subst e
   exact ⟨row,us,rfl,h1,h2⟩
 | _::rs,rows,k+1,r,h,e=>by
   obtain ⟨row,rest,us,rfl,h1,h2,h3⟩:=h
   obtain ⟨row',us',e1,e2⟩:=RowsR.at (k:=k) h3 (by simpa using e)
   exact ⟨row',us',by simpa using e1,e2⟩
theorem RowsR.set:∀ {rs:List Addr} {rows:List (List D)} {k:Nat} {r:Addr} {row:List D} {us:List V},rs.Nodup->(∀ c∈rs,M c)->RowsR K M H rs rows->rs[k]?=some r->Reps K M H row us->RowsR K M (upd H r (.lst us)) rs (rows.set k row)
 | [],_,_,_,_,_,_,_,_,e,_=>by simp at e
 | r0::rs,rows,0,r,row,us,nd,hm,h,e,hr=>by
   obtain ⟨row0,rest,us0,rfl,h1,h2,h3⟩:=h
   simp at e;subst e
   have kk:∀ c o,¬ M c->H c=some o->upd H r0 (.lst us) c=some o:=fun c o n q=>by rw [V3 (fun z=>n (by rw [z];exact hm r0 (List.mem_cons_self ..)))];exact q
   refine ⟨row,rest,us,rfl,V8,Reps.keep kk _ _ hr,RowsR.keep rs rest (fun c o q e=>?_) h3⟩
   rcases q with q|q
   · exact kk c o q e
   · rw [V3 (fun z=>(List.nodup_cons.mp nd).1 (by rw [<- z];exact q))];exact e
 | r0::rs,rows,k+1,r,row,us,nd,hm,h,e,hr=>by
   obtain ⟨row0,rest,us0,rfl,h1,h2,h3⟩:=h
   have er:rs[k]?=some r:=by simpa using e
   have ne:r0≠r:=fun z=>(List.nodup_cons.mp nd).1 (by rw [z];exact List.mem_of_getElem? er)
   have kk:∀ c o,¬ M c->H c=some o->upd H r (.lst us) c=some o:=fun c o n q=>by rw [V3 (fun z=>n (by rw [z];exact hm r (List.mem_cons_of_mem _ (List.mem_of_getElem? er))))];exact q
   exact ⟨row0,rest.set k row,us0,rfl,by rw [V3 ne];exact h1,Reps.keep kk _ _ h2,RowsR.set (List.nodup_cons.mp nd).2 (fun c m=>hm c (List.mem_cons_of_mem _ m)) h3 er hr⟩
theorem RowsR.reps {A:List Addr}:∀ (rs:List Addr) (rows:List (List D)),(∀ r∈rs,r∈A)->RowsR K M H rs rows->Reps K (fun c=>M c/\c∉A) H (rows.map D.lst) (rs.map V.ref)
 | [],rows,_,h=>by rw [show rows=[] from h];exact rfl
 | r::rs,rows,hA,h=>by
   obtain ⟨row,rest,us,rfl,h1,h2,h3⟩:=h
   exact ⟨.ref r,_,rfl,⟨r,us,rfl,⟨fun m=>m.2 (hA r (List.mem_cons_self ..)),h1⟩,Reps.avoid (fun c m=>.inl m.1) _ _ h2⟩,RowsR.reps rs rest (fun c m=>hA c (List.mem_cons_of_mem _ m)) h3⟩
end
def OT (K:Fg)(a:Addr)(rs:List Addr)(rows:List (List D)):Frg where
 ads:=a::rs
 R:=fun M H v=>v=.ref a/\(a::rs).Nodup/\H a=some (.lst (rs.map V.ref))/\RowsR K M H rs rows
 keep:=fun M H H' v k h=>⟨h.1,h.2.1,k _ _ (.inr (List.mem_cons_self ..)) h.2.2.1,RowsR.keep rs rows (fun c o q e=>k c o (q.imp id (List.mem_cons_of_mem _)) e) h.2.2.2⟩
 avoid:=fun M M' H v k h=>⟨h.1,h.2.1,h.2.2.1,RowsR.avoid k rs rows h.2.2.2⟩
 ref:=fun M H v h=>⟨a,h.1⟩
 nt:=fun M H v h c m=>by
  rcases List.mem_cons.mp m with z|z
  · rw [z];exact ⟨_,h.2.2.1,fun _ y=>by cases y⟩
  · obtain ⟨us,e⟩:=h.2.2.2.lst c z
    exact ⟨_,e,fun _ y=>by cases y⟩
def CC (rows:List (List D)):D:=.lst (rows.map D.lst)
def grd (K:Fg)(a:Addr)(rs:List Addr)(rows:List (List D)):D:=.frg (OT K a rs rows) (CC rows)
theorem SL {W:Wd} {H:Hp}{a:Addr}{rs:List Addr}{rows:List (List D)}(ho:∀ c∈a::rs,M c/\b≠some c/\W.H0 c=none/\¬ W.M0 c)(nd:(a::rs).Nodup)(ha:H a=some (.lst (rs.map V.ref)))(hr:RowsR W.K M H rs rows):RepX W M b H (grd W.K a rs rows) (.ref a) :=
 ⟨ho,⟨rfl,nd,ha,hr⟩,⟨a,_,rfl,⟨fun m=>m.2 (List.mem_cons_self ..),ha⟩,RowsR.reps (A:=a::rs) rs rows (fun r m=>List.mem_cons_of_mem _ m) hr⟩⟩
theorem OU {W:Wd} {H:Hp}{a:Addr}{rs:List Addr}{rows:List (List D)}{v:V}(h:RepX W M b H (grd W.K a rs rows) v):v=.ref a/\(∀ c∈a::rs,M c/\b≠some c/\W.H0 c=none/\¬ W.M0 c)/\(a::rs).Nodup/\H a=some (.lst (rs.map V.ref))/\RowsR W.K M H rs rows:=⟨h.2.1.1,h.1,h.2.1.2.1,h.2.1.2.2.1,h.2.1.2.2.2⟩
theorem StS.setFrg {W:Wd}{pn:List (D×V)} {H:Hp}{σ:St}{ρ:Ev}{f f':Frg}{d d':D}{v:V}{a:Addr}{o:HO}(s:StS W pn M b H σ ρ)(i:Nat)(e:ρ[i]?=some (some (.frg f d)))(ev:σ[i]?=some (some v))(ha:a∈f.ads)(hads:∀ c,c∈f'.ads->c∈f.ads)(r:RepX W M b (upd H a o) (.frg f' d') v) :
 StS W pn M b (upd H a o) σ (ρ.set i (some (.frg f' d'))):=by
 obtain ⟨v0,e1,r0⟩:=s.env i _ e
 rw [ev] at e1;cases e1
 obtain ⟨m1,m2,m3,m4⟩:=r0.1 a ha
 have kk:∀ c u,¬ M c->H c=some u->upd H a o c=some u:=fun c u n q=>by rw [V3 (show c≠a from fun z=>n (by rw [z];exact m1))];exact q
 have kb:∀ c u,c≠a->H c=some u->upd H a o c=some u:=fun c u n q=>by rw [V3 n];exact q
 refine s.of2 ⟨⟨fun q z=>W.B.st q H _ (s.ok q z) fun u h=>kb q u (fun w=>m2 (w▸z)) h,s.bagM,fun c hc=>?_,s.m0⟩,fun c u n q=>kb c u (fun z=>by rw [z,m3] at q;cases q) (s.kp c u n q),s.new,fun j d2 e'=>?_,by simp [s.len],fun q hq=>(s.pin q hq).to (fun _ _ r=>Rep.keep kk _ _ r) (fun _ _ r=>Reps.keep kk _ _ r) fun zs a2 us ed ev2 m n hh2=>⟨m,n,kb _ _ (fun y=>s.lj zs a2 (by rw [<- ed,<- ev2];exact hq) i _ _ e ev (show a2∈f.ads by rw [y];exact ha)) hh2⟩⟩ (fun _ _ q=>q) fun j d2 v2 c e' e2 m=>?_
 · by_cases z:c=a
   · rw [z];exact ⟨_,V8⟩
   · obtain ⟨u,q⟩:=s.dom c hc;exact ⟨u,kb c u z q⟩
 · by_cases z:i=j
   · subst z
     rw [List.getElem?_set] at e'
     simp at e'
     obtain ⟨hl,rfl⟩:=e'
     exact ⟨v,ev,r⟩
   · rw [List.getElem?_set_ne z] at e'
     obtain ⟨w,e1,r1⟩:=s.env j d2 e'
     refine ⟨w,e1,?_⟩
     have na:¬ GF d2 w a:=fun y=>z (s.dj i j _ _ _ _ a e e' ev e1 ha y)
     cases d2
     case own zs =>
      obtain ⟨a2,us2,rfl,n1,n2,n3,n4,hh2,r2⟩:=r1
      exact ⟨a2,us2,rfl,n1,n2,n3,n4,kb _ _ (fun y=>na (by rw [y];rfl)) hh2,Reps.keep kk _ _ r2⟩
     case bag=>exact r1
     case frg f2 _=>exact RepX.move r1 (fun c _ m n=>⟨m,n⟩) (fun c u q h=>kb c u (fun y=>q.elim (fun n=>n (by rw [y];exact m1)) (fun n=>na (by show a∈f2.ads;rw [<- y];exact n))) h) fun c m=>.inl m
     all_goals exact Rep.keep kk _ _ r1
 · by_cases z:i=j
   · subst z
     rw [List.getElem?_set] at e'
     simp at e'
     obtain ⟨_,rfl⟩:=e'
     exact ⟨_,e,e2,hads c m⟩
   · rw [List.getElem?_set_ne z] at e'
     exact ⟨d2,e',e2,m⟩
theorem RepX.grow {W:Wd}{M M':Addr->Prop} {H H':Hp}{d:D}{v:V}(hM:∀ c,M' c->M c\/H c=none)(sub:∀ c,M c->M' c)(hb:∀ p,b=some p->M p)(kp:Kp b H H')(r:RepX W M b H d v):RepX W M' b H' d v:=by
 have kk:∀ c o,¬ M' c->H c=some o->H' c=some o:=fun c o n e=>kp c o (fun z=>n (sub c (hb c z))) e
 cases d
 case own ys =>
  obtain ⟨a,us,rfl,m1,m2,m3,m4,hha,r'⟩:=r
  exact ⟨a,us,rfl,sub a m1,m2,m3,m4,kp _ _ m2 hha,Reps.keep kk _ _ (Reps.avoid hM _ _ r')⟩
 case bag=>exact r
 case frg f _=>exact RepX.move r (fun c _ m n=>⟨sub c m,n⟩) (fun c o q e=>q.elim (fun n=>kk c o n e) fun m=>kp c o (r.1 c m).2.1 e) hM
 all_goals exact Rep.keep kk _ _ (Rep.avoid hM _ _ r)
theorem Sta.grow {W:Wd}{pn:List (D×V)}{M M':Addr->Prop} {H H':Hp}{σ:St}{ρ:Ev}(s:Sta W pn M b H σ ρ)(hM:∀ c,M' c->M c\/H c=none)(sub:∀ c,M c->M' c)(kp:Kp b H H')(ok:okB W.B b H')(dom:∀ c,M' c->∃ o,H' c=some o):Sta W pn M' b H' σ ρ:=by
 have kk:∀ c o,¬ M' c->H c=some o->H' c=some o:=fun c o n e=>kp c o (fun z=>n (sub c (s.bagM c z))) e
 refine ⟨⟨ok,fun q e=>sub q (s.bagM q e),dom,fun c m=>sub c (s.m0 c m)⟩,(s.step kp ok).kp,s.new,fun j d e=>?_,s.len,fun q hq=>(s.pin q hq).to (fun _ _ r=>Rep.keep kk _ _ (Rep.avoid hM _ _ r)) (fun _ _ r=>Reps.keep kk _ _ (Reps.avoid hM _ _ r)) fun xs a vs _ _ m n hh'=>⟨sub a m,n,kp _ _ n hh'⟩⟩
 obtain ⟨w,e1,r1⟩:=s.env j d e
 exact ⟨w,e1,r1.grow hM sub s.bagM kp⟩
def dnF (W:Wd)(d:DA):TE:=fun σ H Q=>∃ pn M b ρ P,Sta W pn M b H σ ρ/\d ρ P/\∀ xs vs p H',P xs->H p=none->H' p=some (.lst vs)->Reps W.K (fun c=>M c\/c=p) H' xs vs->Kp b H H'->okB W.B b H'->Q (.ref p) H'
structure JF (X:Cx)(W:Wd)(e:Expr)(d:DA):Prop where
 h:PE X e (dnF W d)
theorem JX {B:BagT} {H H':Hp}{p:Addr}(k:Kp b H H')(o:okB B b H')(h:H' p=none):H p=none:=by
 cases q:H p with
 | none=>rfl
 | some u =>
   by_cases z:b=some p
   · obtain ⟨w,e⟩:=B.dm p H' (o p z)
     rw [h] at e;cases e
   · have:=k p u z q
     rw [h] at this;cases this
section
variable {X:Cx}{W:Wd}{elt iter tg:Expr}{ifs:List Expr}{scope:Scope}{pos:Pos}{N':List Str}{map:List (Option Nat)}{g:TG}{gd:D->Ev->(Ev->Prop)->Prop}{di:DA}{dt:DT}{de:DE}
def Q4y (map:List (Option Nat))(gd:D->Ev->(Ev->Prop)->Prop)(di:DA)(dt:DT)(de:DE):DA:=fun ρ P=>di ρ fun items=>items.length<=1000/\compI gd dt de (FL ρ map) items P
theorem J4p (hG:GD W g gd)(B:Blk X N' scope map tg elt ifs g (dnT W dt) (dn W de))(hi:JI X W false tg iter di)(hs:∀ x,foldedSetIterable iter X.env x=pure x:=by intro _;rfl):JF X W (.ListComp elt [⟨tg,iter,ifs,0⟩] scope pos) (Q4y map gd di dt de):=⟨(NE B hi.h hs).mono fun σ H Q hh=>by
 obtain ⟨pn,M,b,ρ,P,st,h,k⟩:=hh
 refine ⟨pn,M,b,ρ,_,st,h,fun items J need H1 hx hp hI hn k1 o1=>?_⟩
 have st1:=st.step k1 o1
 refine HE hG (st1.capt map) hp hI (fun q hq=>(hn q hq).1) hx.1 hx.2 fun ds acc H' hP r hl k2 o2 D hD=>?_
 exact k ds acc D _ hP (JX (k1.trans k2) o2 hD) V8 (Reps.keep (fun c o _ e=>Same.upd hD c o e) _ _ (Reps.avoid (fun c z=>z.imp id fun y=>by rw [y];exact hD) _ _ r)) ((k1.trans k2).trans (Kp.upd hD)) ((st1.step k2 o2).okU hD)⟩
end
inductive compR (gd:D->Ev->(Ev->Prop)->Prop)(dt:DT)(de:DA)(ρc:Ev)(items:List D)(P:List (List D)->Prop):Prop
 | mk (I:Nat->List (List D)->Prop) (h0:I 0 []) (hs:∀ (i:Nat) x acc,items[i]?=some x->I i acc->gd x ρc fun ρ1=>dt ρ1 fun c=>IfP c (de ρ1 fun y=>I (i+1) (acc++[y])) (I (i+1) acc)) (hd:∀ acc,I items.length acc->P acc):compR gd dt de ρc items P
theorem RowsR.append {H:Hp}{p:Addr}{row:List D}{us:List V}(hp:H p=some (.lst us))(hr:Reps K M H row us):∀ {rs:List Addr} {rows:List (List D)},RowsR K M H rs rows->RowsR K M H (rs++[p]) (rows++[row])
 | [],rows,h=>by rw [show rows=[] from h];exact ⟨row,[],us,rfl,hp,hr,rfl⟩
 | r::rs,rows,h=>by
   obtain ⟨row0,rest,us0,rfl,h1,h2,h3⟩:=h
   exact ⟨row0,rest++[row],us0,rfl,h1,h2,RowsR.append hp hr h3⟩
theorem MP {W:Wd}{pn:List (D×V)}{M:Addr->Prop}{b:Option Addr}{H:Hp}{σ:St}{ρ:Ev}{J:It}{need:List (D×V)}{items:List D}{g:TG}{gd:D->Ev->(Ev->Prop)->Prop}{dt:DT}{de:DA}{P:List (List D)->Prop}{Fin:List V->Hp->Prop}
 (hG:GD W g gd) (st:Sta W pn M b H σ ρ) (hp:items.all plain=true) (hI:MI W J need items) (hn:∀ q∈need,RepX W M b H q.1 q.2) (hl:items.length<=1000) (h:compR gd dt de ρ items P)
 (fin:∀ rows rs H',P rows->RowsR W.K (fun c=>M c\/c∈rs) H' rs rows->rs.Nodup->(∀ r∈rs,H r=none)->rs.length<=1000->Kp b H H'->okB W.B b H'->Fin (rs.map V.ref) H'):∃ Wf:Nat->Nat->List V->Hp->Prop,(∃ m,Wf 0 m [] H)/\MR J g (dnT W dt) (dnF W de) σ Fin Wf:=by
 obtain ⟨I,i0,istep,idone⟩:=h
 refine ⟨fun i m acc H2=>m=items.length - i/\i<=items.length/\∃ rs rows,acc=rs.map V.ref/\rs.length<=i/\Kp b H H2/\okB W.B b H2/\rs.Nodup/\(∀ r∈rs,H r=none)/\RowsR W.K (fun c=>M c\/c∈rs) H2 rs rows/\I i rows,⟨items.length,by simp,Nat.zero_le _,[],[],rfl,Nat.le_refl _,Kp.refl _ _,st.ok,List.nodup_nil,(fun r m=>by cases m),rfl,i0⟩,?_⟩
 rintro i m acc H2 ⟨rfl,hi,rs,rows,rfl,ha,k2,o2,nd,hnew,hr,q⟩
 have hM:∀ c,(M c\/c∈rs)->M c\/H c=none:=fun c z=>z.imp id (hnew c)
 have st2:Sta W pn (fun c=>M c\/c∈rs) b H2 σ ρ:=st.grow hM (fun c z=>.inl z) k2 o2 fun c z=>z.elim ((st.step k2 o2).dom c) fun y=>by
  obtain ⟨us,e⟩:=hr.lst c y
  exact ⟨_,e⟩
 have le:=BQ
 obtain ⟨hgo,hstop⟩:=hI (fun c=>M c\/c∈rs) b H2 st2.toHs fun q hq=>(hn q hq).grow hM (fun c z=>.inl z) st.bagM k2
 by_cases hlt:i<items.length
 · have ei:items[i]?=some items[i]:=List.getElem?_eq_getElem hlt
   replace q:=istep i _ rows ei q
   refine .inr ⟨(hgo i _ ei).1,by rw [List.length_map];omega,fun acc' H'=>∃ rs rows,acc'=rs.map V.ref/\rs.length<=i+1/\Kp b H H'/\okB W.B b H'/\rs.Nodup/\(∀ r∈rs,H r=none)/\RowsR W.K (fun c=>M c\/c∈rs) H' rs rows/\I (i+1) rows,fun acc' H' n=>⟨items.length - (i+1),by omega,rfl,hlt,n⟩,fun x H3 y=>?_⟩
   obtain ⟨S3,rx⟩:=(hgo i _ ei).2 x H3 y
   have o3:okB W.B b H3:=fun p e=>W.B.st p H2 H3 (o2 p e) fun o e'=>S3 p o e'
   have k3:Kp b H2 H3:=Kp.same S3
   have st3:=st2.step k3 o3
   have nb:∀ r∈rs,b≠some r:=fun r hr' z=>by
    obtain ⟨w,e⟩:=W.B.dm r H (st.ok r z)
    rw [hnew r hr'] at e;cases e
   have kR:∀ {H'},Kp b H2 H'->RowsR W.K (fun c=>M c\/c∈rs) H' rs rows:=fun kk=>RowsR.keep rs rows (fun c o z e=>kk c o (fun w=>z.elim (fun n=>n (.inl (st.bagM c w))) fun n=>nb c n w) e) hr
   refine hG pn _ b H3 σ ρ items[i] x _ _ st3 rx (List.all_eq_true.mp hp _ (List.getElem_mem hlt)) q fun ρ1 σ1 h1 st4 _=>?_
   refine ⟨pn,_,b,ρ1,_,st4,h1,fun c H5 h5 k5 o5=>?_⟩
   cases h5 with
   | t e h5 =>
     rw [if_pos e]
     refine ⟨pn,_,b,ρ1,_,st4.step k5 o5,h5,fun xs vs p H6 h6 p0 p1 r6 k6 o6=>?_⟩
     have k25:=k3.trans k5
     have p2:H2 p=none:=JX k25 o5 p0
     have pH:H p=none:=JX k2 o2 p2
     have np:p∉rs:=fun z=>by
      obtain ⟨us,e⟩:=hr.lst p z
      rw [p2] at e;cases e
     have hm':∀ c,(M c\/c∈rs++[p])->(M c\/c∈rs)\/c=p:=fun c z=>z.elim (fun y=>.inl (.inl y)) fun y=>(List.mem_append.mp y).elim (fun w=>.inl (.inr w)) fun w=>.inr (List.mem_singleton.mp w)
     refine ⟨rs++[p],rows++[xs],by rw [List.map_append];rfl,by simp;omega,k2.trans (k25.trans k6),o6,?_,fun r z=>?_,?_,h6⟩
     · rw [List.nodup_append]
       refine ⟨nd,by simp,fun a ha' b' hb' e=>?_⟩
       rw [List.mem_singleton.mp hb'] at e
       rw [e] at ha';exact np ha'
     · rcases List.mem_append.mp z with w|w
       · exact hnew r w
       · rw [List.mem_singleton.mp w];exact pH
     · refine RowsR.append p1 (Reps.avoid (fun c z=>.inl (hm' c z)) _ _ r6) ?_
       have r1:=RowsR.avoid (M':=fun c=>M c\/c∈rs++[p]) (fun c z=>(hm' c z).imp id fun w=>by rw [w];exact p2) rs rows hr
       exact RowsR.keep rs rows (fun c o z e=>(k25.trans k6) c o (fun w=>z.elim (fun n=>n (.inl (st.bagM c w))) fun n=>nb c n w) e) r1
   | f e h5 =>
     rw [if_neg (by rw [e];exact Bool.false_ne_true)]
     have kk:=k3.trans k5
     exact ⟨rs,rows,rfl,by omega,k2.trans kk,o5,nd,hnew,kR kk,h5⟩
 · have e:i=items.length:=by omega
   subst e
   exact .inl ⟨hstop _ (Nat.le_refl _),by rw [List.length_map];omega,fin rows rs H2 (idone _ q) hr nd hnew (by omega) k2 o2⟩
abbrev DSG:=List D->(List (List D)->Prop)->(Addr->Prop)->Prop
structure GNew (K:Fg)(M:Addr->Prop)(H H':Hp)(a:Addr)(rs:List Addr)(rows:List (List D)):Prop where
 a0:H a=none
 r0:∀ r∈rs,H r=none
 nd:(a::rs).Nodup
 ha:H' a=some (.lst (rs.map V.ref))
 hr:RowsR K (fun c=>M c\/c∈a::rs) H' rs rows
def AX (K:Fg)(B:BagT)(S:DSG):Sp:=fun vs H Q E=>∃ (M:Addr->Prop) (b:Option Addr) (ds:List D) (P:List (List D)->Prop) (Ed:Addr->Prop),S ds P Ed/\RepAs K M b H ds vs/\okB B b H/\(∀ p,b=some p->M p)/\(∀ c,M c->∃ o,H c=some o) /\
 (∀ rows a rs H',P rows->GNew K M H H' a rs rows->Kp b H H'->okB B b H'->Q (.ref a) H')/\∀ C H',Ed C->Kp b H H'->okB B b H'->E (.ref C) none H'
theorem AX.len {B:BagT}{S:DSG}{n:Nat}(h:∀ ds P Ed,S ds P Ed->ds.length=n):∀ vs H Q E,AX K B S vs H Q E->vs.length=n:=fun vs H Q E ⟨M,b,ds,P,Ed,hS,hr,_⟩=>by rw [hr.length];exact h _ _ _ hS
abbrev DG:=(List (List D)->Prop)->DS
def snG (W:Wd)(d:DG):TS:=fun E σ H=>∃ pn M b ρ F P,StS W pn M b H σ ρ/\Link W pn E F/\(∀ rows a rs H',P rows->GNew W.K W.M0 W.H0 H' a rs rows->Kp W.b0 W.H0 H'->okB W.B W.b0 H'->E.rt (.ref a) H')/\d P F ρ
structure JGs (X:Cx)(W:Wd)(sts:List Stmt)(d:DG):Prop where
 h:PSs X sts (snG W d)
theorem HU {X:Cx}{W:Wd}{st:Stmt}{rest:List Stmt}{d1:DS}{d2:DG}(h1:JS X W st d1)(h2:JGs X W rest d2):JGs X W (st::rest) (fun P F=>d1 { F with nx:=d2 P F }):=⟨(BI h1.h h2.h).mono fun E σ H hh=>by
 obtain ⟨pn,M,b,ρ,F,P,s,l,lg,h⟩:=hh
 exact ⟨pn,M,b,ρ,{ F with nx:=d2 P F },s,⟨fun M b ρ σ H s' h'=>⟨pn,M,b,ρ,F,P,s',l,lg,h'⟩,l.rt,l.bk,l.ct,l.ro⟩,h⟩⟩
theorem Q5h {X:Cx} {W:Wd} {N':List Str} {scope:Scope} {map:List (Option Nat)} {tg elt:Expr} {ifs:List Expr} {g:TG} {dt:DT} {de:DA} (calm:X.calm=true) (kind:scope.kind=.function) (loc:∀ x∈scope.names,x.2=.local->scope.names.lookup x.1=some .local) (free:(scope.names.all fun p=>!(p.2==NameKind.free)||(X.env.kindOf p.1==some .cell||X.env.kindOf p.1==some .free))=true) (cap:CapOk X scope map N') (keep:IE g map)
 (run:∀ cells C fp s H,PG (Q0 X N' scope cells C fp s H) tg g/\JIf (Q0 X N' scope cells C fp s H) W ifs dt/\JF (Q0 X N' scope cells C fp s H) W elt de):Blk X N' scope map tg elt ifs g (dnT W dt) (dnF W de) :=
 ⟨calm,kind,loc,free,cap,keep,fun cells C fp s H=>⟨(run cells C fp s H).1,(run cells C fp s H).2.1.h,(run cells C fp s H).2.2.h⟩⟩
def Q8a (map:List (Option Nat))(gd:D->Ev->(Ev->Prop)->Prop)(di:DA)(dt:DT)(de:DA):DG:=fun P F ρ=>di ρ fun items=>items.length<=1000/\compR gd dt de (FL ρ map) items P
theorem ZJ {X:Cx}{W:Wd}{elt iter tg:Expr}{ifs:List Expr}{scope:Scope}{pos:Pos}{N':List Str}{map:List (Option Nat)}{g:TG}{gd:D->Ev->(Ev->Prop)->Prop}{di:DA}{dt:DT}{de:DA}{cpos:Pos}(hG:GD W g gd)(B:Blk X N' scope map tg elt ifs g (dnT W dt) (dnF W de))(hi:JI X W false tg iter di)
 (hs:∀ x,foldedSetIterable iter X.env x=pure x:=by intro _;rfl):JGs X W [.Return (some (.ListComp elt [⟨tg,iter,ifs,0⟩] scope cpos)) pos] (Q8a map gd di dt de):=⟨(DB (FY (NE B hi.h hs))).mono fun E σ H hh=>by
 obtain ⟨pn,M,b,ρ,F,P,s,l,lg,h⟩:=hh
 refine ⟨pn,M,b,ρ,_,s.toSta,h,fun items J need H1 hx hp hI hn k1 o1=>?_⟩
 have s1:=s.step k1 o1
 refine MP hG (s1.toSta.capt map) hp hI (fun q hq=>(hn q hq).1) hx.1 hx.2 fun rows rs H' hP hr nd hnew hl k2 o2 q hq=>?_
 have s2:=s1.step k2 o2
 have nq:q∉rs:=fun z=>by
  obtain ⟨us,e⟩:=hr.lst q z
  rw [hq] at e;cases e
 have s3:=s2.step (Kp.upd (o:=.lst (rs.map V.ref)) hq) (s2.toHs.okU hq)
 refine lg rows q rs _ hP ⟨(s2.toSta.fresh0 hq).1,fun r z=>(s1.toSta.fresh0 (hnew r z)).1,List.nodup_cons.mpr ⟨nq,nd⟩,V8,?_⟩ s3.kp s3.ok0
 refine RowsR.keep rs rows (fun c o z e=>Same.upd hq c o e) (RowsR.avoid (fun c z=>?_) rs rows hr)
 rcases z with z|z
 · exact .inl (.inl (s2.m0 c z))
 · rcases List.mem_cons.mp z with y|y
   · exact .inr (by rw [y];exact hq)
   · exact .inl (.inr y)⟩
theorem Fun.okDXG {P:Program}{w:World} {mg:Str->Option Value}{base:Heap}{CX:CXT}{x qual:Str}{st:Stmt}{f:Addr} {N ps:List Str}{k:Nat}{B:BagT}{Sd:DSG}(F:Fun K x qual st f fd)(S:FnScope N ps (J3 st))(len:∀ ds PP Ed,Sd ds PP Ed->ds.length=ps.length)
 (hbody:∀ (cdv:Value) (A:Around) (outer:List Env) (s:Shared) (H:Hp) (E:XK) (M:Addr->Prop) (bg:Option Addr) (ds:List D) (PP:List (List D)->Prop) (Ed:Addr->Prop),Room k (A.deeper (envOfC qual (J3 st) s.heap.objs.size f cdv))->FM ⟨K,B,H,M,bg⟩ E Ed->Sd ds PP Ed ->
  ∃ d:DG,JGs (V1 CX P w K mg base N qual (J3 st) f cdv A outer s H E) ⟨K,B,H,M,bg⟩ (BV st) d/\d PP { nx:=fun _=>False,rt:=fun _=>False } (BH N ds)):FnOk P w K mg base CX (k+1) f fd ps (AX K B Sd) :=
 F.okX S (AX.len len) fun cdv A outer s H vs Q E hr h=>by
  obtain ⟨M,bg,ds,PP,Ed,hS,hR,ho,hb,hd,hq,hx⟩:=h
  obtain ⟨d,J,q⟩:=hbody cdv A outer s H E M bg ds PP Ed hr (fun C H' e k o=>hx C H' e k o) hS
  exact ⟨_,J.h,[],M,bg,BH N ds,{ nx:=fun _=>False,rt:=fun _=>False },PP,J5a hR ho hb hd,⟨fun _ _ _ _ _ _ h=>h.elim,fun _ _ _ h=>h.elim,fun _ _ _ _ _ _ h=>h.elim,fun _ _ _ _ _ _ h=>h.elim,fun _ _ _ _ h=>h.elim⟩,fun rows a rs H' hp gn k o=>hq rows a rs H' hp gn k o,q⟩
theorem RowsR.unbor {M M':Addr->Prop}{H:Hp}(k:∀ c,M c->M' c\/∃ o,H c=some o/\∀ vs,o≠.tup vs):∀ (rs:List Addr) (rows:List (List D)),(∀ r∈rows,KM r=true)->RowsR K M' H rs rows->RowsR K M H rs rows
 | [],_,_,h=>h
 | r::rs,rows,n,h=>by
   obtain ⟨row,rest,us,rfl,h1,h2,h3⟩:=h
   exact ⟨row,rest,us,rfl,h1,Reps.unbor k _ _ (n row (List.mem_cons_self ..)) h2,RowsR.unbor k rs rest (fun r m=>n r (List.mem_cons_of_mem _ m)) h3⟩
section
variable {X:Cx}{W:Wd}{e a b c l:Expr}{es:List Expr}{pos p:Pos}{dA:DA}{x:Str}{k:Nat}{ps:List Str}{S:DSG}
theorem PK {pn:List (D×V)} {b:Option Addr}{H1:Hp}{σ:St}{ρ:Ev}{xs:List D}{vs:List V}{P:List (List D)->Prop}{Q:VK}{E:XK}{Ed:Addr->Prop}(hE:FM W E Ed)(st1:Sta W pn M b H1 σ ρ)(rx:RepXs W M b H1 xs vs)(hS:S (xs.map bor) (fun rows=>(∀ r∈rows,KM r=true)/\P rows) Ed)
 (k:∀ rows a rs H',P rows->GNew W.K M H1 H' a rs rows->Kp b H1 H'->okB W.B b H'->Q (.ref a) H'):AX W.K W.B S vs H1 Q E:=by
 refine ⟨fun c=>M c/\¬ BorAt xs vs c,b,xs.map bor,_,Ed,hS,RepXs.bor2 (fun c h=>h.1) _ _ (fun c h z=>z.2 h) rx,st1.ok,fun p h=>⟨st1.bagM p h,fun z=>(BorAt.lst xs vs rx z).1 h⟩,fun c hc=>st1.dom c hc.1,fun rows a rs H' hp gn k2 o2=>?_,fun C H' hC k2 o2=>?_⟩
 · refine k rows a rs H' hp.2 ⟨gn.a0,gn.r0,gn.nd,gn.ha,RowsR.unbor (fun c m=>?_) rs rows hp.1 gn.hr⟩ k2 o2
   rcases m with m|m
   · by_cases z:BorAt xs vs c
     · obtain ⟨nb,us',e,nt⟩:=BorAt.lst xs vs rx z
       exact .inr ⟨us',k2 c _ nb e,nt⟩
     · exact .inl (.inl ⟨m,z⟩)
   · exact .inl (.inr m)
 · have st2:=st1.step k2 o2
   exact hE C H' hC st2.kp st2.ok0
def J9w (S:DSG)(Ed:Addr->Prop)(dA:DA):DE:=fun ρ P=>dA ρ fun ds=>S (ds.map bor) (fun rows=>(∀ r∈rows,KM r=true)/\P (CC rows)) Ed
theorem J4w {H H':Hp}{a:Addr}{rs:List Addr}{rows:List (List D)}(gn:GNew K M H H' a rs rows)(dom:∀ c,M c->∃ o,H c=some o):Rep K M H' (CC rows) (.ref a):=by
 have nA:∀ c,M c->c∉a::rs:=fun c m z=>by
  obtain ⟨o,e⟩:=dom c m
  rcases List.mem_cons.mp z with y|y
  · rw [y,gn.a0] at e;cases e
  · rw [gn.r0 c y] at e;cases e
 exact ⟨a,_,rfl,⟨fun m=>nA a m (List.mem_cons_self ..),gn.ha⟩,Reps.avoid (fun c m=>.inl ⟨.inl m,nA c m⟩) _ _ (RowsR.reps (A:=a::rs) rs rows (fun r m=>List.mem_cons_of_mem _ m) gn.hr)⟩
theorem ES {CX:CXT}{E:XK}{Ed:Addr->Prop}(hE:FM W E Ed)(hp:FF CX X E)(G:Callee X.prog X.w X.K X.mg X.base CX x k ps (AX W.K W.B S))(hr:Room k X.A)(hg:Gl X x)(ha:JA X W (e::es) dA)(hdb:(x==("__debug__" : Str))=false:=by decide) (he:starEach (e::es) X.env=(false,eval e X.env)::starEach es X.env:=by rfl) (hpl:(backTo pos (starEach es X.env)).any (·.1)=false:=by rfl) :
 JE X W (.Call (.Name x p) (e::es) [] pos) (J9w S Ed dA):=⟨(ND hp G hr hg ha.h hdb he hpl).mono fun σ H Q hh=>hh.elim fun pn M b ρ P st h k=>by
 refine ⟨pn,M,b,ρ,_,st,h,fun xs vs H1 hx rx k1 o1=>?_⟩
 have st1:=st.step k1 o1
 show AX W.K W.B S (vs++[]) H1 Q E
 rw [List.append_nil]
 exact PK (P:=fun rows=>P (CC rows)) hE st1 rx hx fun rows a rs H' hp gn k2 o2=>k _ _ H' hp (Rep.x (J4w gn st1.dom)) (k1.trans k2) o2⟩
def Q4q (K:Fg)(i:Nat)(S:DSG)(Ed:Addr->Prop)(dA:DA):DS:=fun F ρ=>dA ρ fun ds=>S (ds.map bor) (fun rows=>(∀ r∈rows,KM r=true)/\∀ a rs,rs.length=rows.length->F.nx (ρ.set i (some (grd K a rs rows)))) Ed
theorem StS.gotGrid {pn:List (D×V)} {b:Option Addr}{H H':Hp}{σ:St}{ρ:Ev}{a:Addr}{rs:List Addr}{rows:List (List D)}(s:StS W pn M b H σ ρ)(i:Nat)(kp:Kp b H H')(ok:okB W.B b H')(gn:GNew W.K M H H' a rs rows):StS W pn (fun c=>M c\/c∈a::rs) b H' (σ.set i (some (.ref a))) (ρ.set i (some (grd W.K a rs rows))):=by
 have new:∀ c,c∈a::rs->H c=none:=fun c m=>by
  rcases List.mem_cons.mp m with z|z
  · rw [z];exact gn.a0
  · exact gn.r0 c z
 have t:Sta W pn (fun c=>M c\/c∈a::rs) b H' σ ρ:=s.toSta.grow (fun c z=>z.imp id (new c)) (fun c z=>.inl z) kp ok fun c z=>z.elim ((s.toSta.step kp ok).dom c) fun y=>by
  rcases List.mem_cons.mp y with w|w
  · rw [w];exact ⟨_,gn.ha⟩
  · obtain ⟨us,e⟩:=gn.hr.lst c w
    exact ⟨_,e⟩
 refine s.add i (t.set i (SL (fun c m=>?_) gn.nd gn.ha gn.hr)) fun c m=>s.toHs.new (new c m)
 refine ⟨.inr m,fun z=>?_,s.toSta.fresh0 (new c m)⟩
 obtain ⟨o,e⟩:=W.B.dm c H (s.ok c z)
 rw [new c m] at e;cases e
theorem LS {CX:CXT}{E:XK}{Ed:Addr->Prop}(hE:FM W E Ed)(hp:FF CX X E){i:Nat}{y:Str}{pos' cpos:Pos}(hN:X.N.Nodup)(hi:X.N[i]?=some y)(hx:Loc X.env.scope y)(G:Callee X.prog X.w X.K X.mg X.base CX x k ps (AX W.K W.B S))(hr:Room k X.A)(hg:Gl X x)(ha:JA X W (e::es) dA)
 (hs:swapsWith (.Call (.Name x p) (e::es) [] cpos) (some (.Name y pos')) pos.line X.env=pure false:=by rfl) (hf:X.fn y=true\/X.env.scope.names.lookup y=some .local:=by first|exact .inl rfl|exact .inr rfl|assumption)
 (hdb:(x==("__debug__" : Str))=false:=by decide) (he:starEach (e::es) X.env=(false,eval e X.env)::starEach es X.env:=by rfl) (hpl:(backTo cpos (starEach es X.env)).any (·.1)=false:=by rfl) :
 JS X W (.Assign [.Name y pos'] (.Call (.Name x p) (e::es) [] cpos) pos) (Q4q W.K i S Ed dA):=⟨(EF hN hi hx (ND hp G hr hg ha.h hdb he hpl) hs hf).mono fun E' σ H hh=>hh.elim fun pn M b ρ F s l h=>by
 refine ⟨pn,M,b,ρ,_,s.toSta,h,fun xs vs H1 hx rx k1 o1=>?_⟩
 have s1:=s.step k1 o1
 show AX W.K W.B S (vs++[]) H1 _ E
 rw [List.append_nil]
 exact PK (P:=fun rows=>∀ a rs,rs.length=rows.length->F.nx (ρ.set i (some (grd W.K a rs rows)))) hE s1.toSta rx hx fun rows a rs H' hp gn k2 o2=>l.nx _ _ _ _ _ (s1.gotGrid i k2 o2 gn) (hp a rs gn.hr.length.symm)⟩
end
structure Pc where
 (a:Addr) (f:Frg) (d:D)
abbrev Pc.g (p:Pc):D:=.frg p.f p.d
def Pc.at (p:Pc):Prop:=∀ M H v,p.f.R M H v->v=.ref p.a
structure RepP (K:Fg)(M:Addr->Prop)(b:Option Addr)(H:Hp)(p:Pc):Prop where
 at':p.at
 ow:∀ c∈p.f.ads,M c/\b≠some c
 r:p.f.R M H (.ref p.a)
 d:Rep K (fun c=>M c/\c∉p.f.ads) H p.d (.ref p.a)
def KY (ps:List Pc):List Addr:=ps.flatMap fun p=>p.f.ads
theorem UU {ps:List Pc}{p:Pc}{c:Addr}(h:p∈ps)(m:c∈p.f.ads):c∈KY ps:=List.mem_flatMap.mpr ⟨p,h,m⟩
def KO (ps ps':List Pc):Prop:=ps'.map (fun p=>(p.a,p.f.ads))=ps.map fun p=>(p.a,p.f.ads)
theorem KO.get {ps ps':List Pc}{i:Nat}{p':Pc}(h:KO ps ps')(e:ps'[i]?=some p'):∃ p,ps[i]?=some p/\p'.a=p.a/\p'.f.ads=p.f.ads:=by
 have q:=congrArg (fun l=>l[i]?) h
 simp only [List.getElem?_map,e,Option.map_some] at q
 obtain ⟨p,e1,e2⟩:=Option.map_eq_some_iff.mp q.symm
 simp only [Prod.mk.injEq] at e2
 exact ⟨p,e1,e2.1.symm,e2.2.symm⟩
theorem KO.back {ps ps':List Pc}{i:Nat}{p:Pc}(h:KO ps ps')(e:ps[i]?=some p):∃ p',ps'[i]?=some p'/\p'.a=p.a/\p'.f.ads=p.f.ads:=by
 obtain ⟨q,e1,e2,e3⟩:=KO.get (show KO ps' ps from h.symm) e
 exact ⟨q,e1,e2.symm,e3.symm⟩
def J5h (ps:List Pc):Prop:=∀ (i j:Nat) p q c,ps[i]?=some p->ps[j]?=some q->c∈p.f.ads->c∈q.f.ads->i=j
def KpA (A:List Addr)(b:Option Addr)(H H':Hp):Prop:=∀ c o,c∉A->b≠some c->H c=some o->H' c=some o
abbrev DSU:=List Pc->List D->(List Pc->D->Prop)->Prop
def CL (K:Fg)(B:BagT)(S:DSU):Sp:=fun vs H Q E=>∃ (M:Addr->Prop) (b:Option Addr) (ps:List Pc) (ds:List D) (P:List Pc->D->Prop) (dvs:List V),vs=ps.map (fun p=>.ref p.a)++dvs/\S ps ds P/\(∀ p∈ps,RepP K M b H p)/\J5h ps/\RepAs K M b H ds dvs/\okB B b H/\(∀ p,b=some p->M p)/\(∀ c,M c->∃ o,H c=some o) /\
 ∀ ps' r v H',P ps' r->KO ps ps'->(∀ p∈ps',RepP K M b H' p)->Rep K M H' r v->KpA (KY ps) b H H'->okB B b H'->Q v H'
theorem CL.len {B:BagT}{S:DSU}{n:Nat}(h:∀ ps ds P,S ps ds P->ps.length+ds.length=n):∀ vs H Q E,CL K B S vs H Q E->vs.length=n:=fun vs H Q E ⟨M,b,ps,ds,P,dvs,e,hS,_,_,hr,_⟩=>by
 rw [e,List.length_append,List.length_map,hr.length];exact h _ _ _ hS
open Classical in
noncomputable def OF (A:List Addr) (H:Hp):Hp:=fun c=>if c∈A then none else H c
theorem UW {A:List Addr}{H:Hp}{c:Addr}(h:c∈A):OF A H c=none:=by unfold OF;rw [if_pos h]
theorem QW {A:List Addr}{H:Hp}{c:Addr}(h:c∉A):OF A H c=H c:=by unfold OF;rw [if_neg h]
noncomputable abbrev WU (K:Fg) (B:BagT) (H:Hp) (M:Addr->Prop) (b:Option Addr) (A:List Addr):Wd:=⟨K,B,OF A H,fun c=>M c/\c∉A,b⟩
theorem Q3r {B:BagT} {N:List Str}{ps:List Pc}{ds:List D}{dvs:List V}{H:Hp}(hp:∀ p∈ps,RepP K M b H p)(nd:J5h ps)(hr:RepAs K M b H ds dvs)(ho:okB B b H)(hb:∀ p,b=some p->M p)(hd:∀ c,M c->∃ o,H c=some o) :
 StS (WU K B H M b (KY ps)) [] M b H (DM N (ps.map (fun p=>.ref p.a)++dvs)) (BH N (ps.map Pc.g++ds)):=by
 have get:∀ (i:Nat) d,(BH N (ps.map Pc.g++ds))[i]?=some (some d)->(∃ p,ps[i]?=some p/\d=p.g/\(ps.map (fun p=>V.ref p.a)++dvs)[i]?=some (.ref p.a))\/∃ v,(ps.map (fun p=>V.ref p.a)++dvs)[i]?=some v/\J6v K M b H d v:=fun i d e=>by
  have e:=IY e
  by_cases hi:i<ps.length
  · rw [List.getElem?_append_left (by simpa using hi),List.getElem?_map] at e
    obtain ⟨p,e1,e2⟩:=Option.map_eq_some_iff.mp e
    exact .inl ⟨p,e1,e2.symm,by rw [List.getElem?_append_left (by simpa using hi),List.getElem?_map,e1];rfl⟩
  · rw [List.getElem?_append_right (by simpa using Nat.le_of_not_lt hi),List.length_map] at e
    obtain ⟨v,e1,r⟩:=hr.get e
    exact .inr ⟨v,by rw [List.getElem?_append_right (by simpa using Nat.le_of_not_lt hi),List.length_map];exact e1,r⟩
 have st:∀ (i:Nat) v,(ps.map (fun p=>V.ref p.a)++dvs)[i]?=some v->(DM N (ps.map (fun p=>.ref p.a)++dvs))[i]?=some (some v):=fun i v e=>by
  unfold DM
  rw [List.getElem?_append_left (by simpa using (List.getElem?_eq_some_iff.mp e).1),List.getElem?_map,e];rfl
 refine ⟨⟨⟨ho,hb,hd,fun _ m=>m.1⟩,fun c o n e=>?_,.inl rfl,fun i d e=>?_,by simp [DM,BH,hr.length],fun _ hq=>by cases hq⟩,fun i j d e v u c e0 e1 e2 e3 m1 m2=>?_,fun _ _ hq=>by cases hq⟩
 · have e:OF (KY ps) H c=some o:=e
   by_cases z:c∈KY ps
   · rw [UW z] at e;cases e
   · rw [QW z] at e;exact e
 · rcases get i d e with ⟨p,e1,rfl,e2⟩|⟨v,e1,r⟩
   · have P:=hp p (List.mem_of_getElem? e1)
     exact ⟨_,st i _ e2,fun c m=>⟨(P.ow c m).1,(P.ow c m).2,UW (UU (List.mem_of_getElem? e1) m),fun z=>z.2 (UU (List.mem_of_getElem? e1) m)⟩,P.r,P.d⟩
   · refine ⟨v,st i v e1,?_⟩
     cases d<;>first|exact r|exact r.elim
 · rcases get i d e0 with ⟨p,q1,rfl,_⟩|⟨v',_,r⟩
   · rcases get j e e1 with ⟨p',q1',rfl,_⟩|⟨v',_,r⟩
     · exact nd i j p p' c q1 q1' m1 m2
     · cases e<;>first|exact m2.elim|exact r.elim
   · cases d<;>first|exact m1.elim|exact r.elim
def ZQ (ps:List Pc)(ρ:Ev)(ps':List Pc):Prop:=KO ps ps'/\(∀ p∈ps',p.at)/\∀ (i:Nat) p',ps'[i]?=some p'->ρ[i]?=some (some p'.g)
theorem J4g {B:BagT}{M M':Addr->Prop}{b b':Option Addr}{ps ps':List Pc}{H H':Hp}{pn:List (D×V)}{σ:St}{ρ:Ev}(hp:∀ p∈ps,RepP K M b H p)(s:StS (WU K B H M b (KY ps)) pn M' b' H' σ ρ)(he:ZQ ps ρ ps'):(∀ p∈ps',RepP K M b H' p)/\KpA (KY ps) b H H'/\okB B b H'/\∀ c,M c->M' c:=by
 obtain ⟨hl,ha,hρ⟩:=he
 have sub:∀ c,M c->M' c:=fun c m=>by
  by_cases z:c∈KY ps
  · obtain ⟨p,mp,mc⟩:=List.mem_flatMap.mp z
    obtain ⟨i,ei⟩:=List.getElem?_of_mem mp
    obtain ⟨p',e1,_,e3⟩:=hl.back ei
    obtain ⟨v,_,r⟩:=s.env i _ (hρ i p' e1)
    exact (r.1 c (by rw [e3];exact mc)).1
  · exact s.m0 c ⟨m,z⟩
 refine ⟨fun p' mp'=>?_,fun c o n nb e=>s.kp c o nb (by show OF (KY ps) H c=some o;rw [QW n];exact e),s.ok0,sub⟩
 obtain ⟨i,ei⟩:=List.getElem?_of_mem mp'
 obtain ⟨p,e1,e2,e3⟩:=hl.get ei
 obtain ⟨v,ev,r⟩:=s.env i _ (hρ i p' ei)
 have hv:=ha p' mp' _ _ _ r.2.1
 subst hv
 have P:=hp p (List.mem_of_getElem? e1)
 exact ⟨ha p' mp',fun c m=>P.ow c (by rw [<- e3];exact m),p'.f.avoid M' M H' _ (fun c m=>.inl (sub c m)) r.2.1,Rep.avoid (fun c m=>.inl ⟨sub c m.1,m.2⟩) _ _ r.2.2⟩
abbrev DU:=(D->Ev->Prop)->DS
def snU (W:Wd)(d:DU):TS:=fun E σ H=>∃ pn M b ρ F U,StS W pn M b H σ ρ/\Link W pn E F/\(∀ r v M b ρ σ H,StS W pn M b H σ ρ->U r ρ->Rep W.K M H r v->E.rt v H)/\(∀ M b ρ σ H,StS W pn M b H σ ρ->U .non ρ->E.nx σ H)/\d U F ρ
structure JUs (X:Cx)(W:Wd)(sts:List Stmt)(d:DU):Prop where
 h:PSs X sts (snU W d)
theorem HS {X:Cx}{W:Wd}{st:Stmt}{rest:List Stmt}{d1:DS}{d2:DU}(h1:JS X W st d1)(h2:JUs X W rest d2):JUs X W (st::rest) (fun U F=>d1 { F with nx:=d2 U F }):=⟨(BI h1.h h2.h).mono fun E σ H hh=>by
 obtain ⟨pn,M,b,ρ,F,U,s,l,lr,ln,h⟩:=hh
 exact ⟨pn,M,b,ρ,{ F with nx:=d2 U F },s,⟨fun M b ρ σ H s' h'=>⟨pn,M,b,ρ,F,U,s',l,lr,ln,h'⟩,l.rt,l.bk,l.ct,l.ro⟩,h⟩⟩
theorem ZI {X:Cx}{W:Wd}:JUs X W [] (fun U _ ρ=>U .non ρ):=⟨KE.mono fun E σ H hh=>by
 obtain ⟨pn,M,b,ρ,F,U,s,l,lr,ln,h⟩:=hh
 exact ln M b ρ σ H s h⟩
theorem J8m {X:Cx}{W:Wd}{e:Expr}{de:DE}{pos:Pos}(he:JE X W e de):JUs X W [.Return (some e) pos] (fun U _ ρ=>de ρ fun r=>plain r=true/\U r ρ):=⟨(DB (FY he.h)).mono fun E σ H hh=>by
 obtain ⟨pn,M,b,ρ,F,U,s,l,lr,ln,h⟩:=hh
 exact ⟨pn,M,b,ρ,_,s.toSta,h,fun x v H1 hx rx k1 o1=>lr x v M b ρ σ H1 (s.step k1 o1) hx.2 (RepX.rep rx hx.1)⟩⟩
theorem Fun.okDU {P:Program}{w:World} {mg:Str->Option Value}{base:Heap}{x qual:Str}{st:Stmt}{f:Addr} {N ps:List Str}{k:Nat}{B:BagT}{Sd:DSU}(F:Fun K x qual st f fd)(S:FnScope N ps (J3 st))(len:∀ qs ds PP,Sd qs ds PP->qs.length+ds.length=ps.length)
 (hbody:∀ (cdv:Value) (A:Around) (outer:List Env) (s:Shared) (H:Hp) (E:XK) (M:Addr->Prop) (bg:Option Addr) (qs:List Pc) (ds:List D) (PP:List Pc->D->Prop),Room k (A.deeper (envOfC qual (J3 st) s.heap.objs.size f cdv))->Sd qs ds PP->(∀ q∈qs,q.at) ->
  ∃ d:DU,JUs (V1 CX0 P w K mg base N qual (J3 st) f cdv A outer s H E).nox (WU K B H M bg (KY qs)) (BV st) d/\d (fun r ρ=>∃ qs',ZQ qs ρ qs'/\PP qs' r) { nx:=fun _=>False,rt:=fun _=>False } (BH N (qs.map Pc.g++ds))):FnOk P w K mg base CX0 (k+1) f fd ps (CL K B Sd) :=
 F.ok S (CL.len len) fun cdv A outer s H vs Q E hr h=>by
  obtain ⟨M,bg,qs,ds,PP,dvs,rfl,hS,hp,nd,hR,ho,hb,hd,hq⟩:=h
  obtain ⟨d,J,q⟩:=hbody cdv A outer s H E M bg qs ds PP hr hS fun p m=>(hp p m).at'
  refine ⟨_,J.h,[],M,bg,BH N (qs.map Pc.g++ds),{ nx:=fun _=>False,rt:=fun _=>False },_,Q3r hp nd hR ho hb hd,⟨fun _ _ _ _ _ _ h=>h.elim,fun _ _ _ h=>h.elim,fun _ _ _ _ _ _ h=>h.elim,fun _ _ _ _ _ _ h=>h.elim,fun _ _ _ _ h=>h.elim⟩,fun r v M' b' ρ σ H' s' hu hr'=>?_,fun M' b' ρ σ H' s' hu=>?_,q⟩
  · obtain ⟨qs',he,hP⟩:=hu
    obtain ⟨r1,r2,r3,r4⟩:=J4g hp s' he
    exact hq qs' r v H' hP he.1 r1 (Rep.avoid (fun c m=>.inl (r4 c m)) _ _ hr') r2 r3
  · obtain ⟨qs',he,hP⟩:=hu
    obtain ⟨r1,r2,r3,r4⟩:=J4g hp s' he
    exact hq qs' .non .non H' hP he.1 r1 rfl r2 r3
theorem NL:∀ (js:List Nat) (xs:List D) (ρ:Ev),(FQ js xs ρ).length=ρ.length
 | [],_,_=>rfl
 | _::_,[],_=>rfl
 | j::js,x::xs,ρ=>by
   show (FQ js xs (ρ.set j (some x))).length=_
   rw [NL];simp
theorem IZ:∀ (js:List Nat) (xs:List D) (ρ:Ev) (j:Nat) (d:D),(FQ js xs ρ)[j]?=some (some d)->(∃ k:Nat,js[k]?=some j/\xs[k]?=some d)\/((∀ k:Nat,js[k]?=some j->xs.length<=k)/\ρ[j]?=some (some d))
 | [],xs,ρ,j,d,h=>.inr ⟨fun k e=>by simp at e,h⟩
 | _::_,[],ρ,j,d,h=>.inr ⟨fun k e=>Nat.zero_le _,h⟩
 | j0::js,x::xs,ρ,j,d,h=>by
   rcases IZ js xs (ρ.set j0 (some x)) j d h with ⟨k,e1,e2⟩|⟨h1,h2⟩
   · exact .inl ⟨k+1,by simpa using e1,by simpa using e2⟩
   · by_cases z:j0=j
     · subst z
       rw [List.getElem?_set] at h2
       simp at h2
       exact .inl ⟨0,rfl,by rw [<- h2.2];rfl⟩
     · rw [List.getElem?_set_ne z] at h2
       refine .inr ⟨fun k e=>?_,h2⟩
       cases k with
       | zero=>simp at e;exact absurd e z
       | succ k=>have:=h1 k (by simpa using e);simpa using this
section
variable {W:Wd}{pn:List (D×V)}{M:Addr->Prop}{b:Option Addr}{H H':Hp}{σ:St}{ρ:Ev}{js:List Nat}{ps ps':List Pc}
def IV (js:List Nat)(ps:List Pc)(ρ:Ev):Prop:=js.length=ps.length/\∀ (k:Nat) p,ps[k]?=some p->p.at/\∃ j,js[k]?=some j/\ρ[j]?=some (some p.g)
theorem IV.ads (s:StS W pn M b H σ ρ)(h:IV js ps ρ){c:Addr}(m:c∈KY ps):∃ (k j:Nat) (p:Pc),ps[k]?=some p/\js[k]?=some j/\ρ[j]?=some (some p.g)/\c∈p.f.ads/\σ[j]?=some (some (.ref p.a))/\RepX W M b H p.g (.ref p.a):=by
 obtain ⟨p,mp,mc⟩:=List.mem_flatMap.mp m
 obtain ⟨k,ek⟩:=List.getElem?_of_mem mp
 obtain ⟨pa,j,ej,er⟩:=h.2 k p ek
 obtain ⟨v,ev,r⟩:=s.env j _ er
 have hv:=pa _ _ _ r.2.1
 subst hv
 exact ⟨k,j,p,ek,ej,er,mc,ev,r⟩
theorem IV.rep (s:StS W pn M b H σ ρ)(h:IV js ps ρ):∀ p∈ps,RepP W.K M b H p:=fun p mp=>by
 obtain ⟨k,ek⟩:=List.getElem?_of_mem mp
 obtain ⟨pa,j,ej,er⟩:=h.2 k p ek
 obtain ⟨v,ev,r⟩:=s.env j _ er
 have hv:=pa _ _ _ r.2.1
 subst hv
 exact ⟨pa,fun c m=>⟨(r.1 c m).1,(r.1 c m).2.1⟩,r.2.1,r.2.2⟩
theorem QU:∀ {l:List Nat} {i k x:Nat},l.Nodup->l[i]?=some x->l[k]?=some x->i=k
 | [],_,_,_,_,e,_=>by simp at e
 | y::l,0,0,_,_,_,_=>rfl
 | y::l,0,k+1,x,nd,e1,e2=>by
   simp at e1 e2
   subst e1
   exact absurd (List.mem_of_getElem? e2) (List.nodup_cons.mp nd).1
 | y::l,i+1,0,x,nd,e1,e2=>by
   simp at e1 e2
   subst e2
   exact absurd (List.mem_of_getElem? e1) (List.nodup_cons.mp nd).1
 | y::l,i+1,k+1,x,nd,e1,e2=>by
   simp at e1 e2
   exact congrArg (· + 1) (QU (List.nodup_cons.mp nd).2 e1 e2)
theorem IV.disj (s:StS W pn M b H σ ρ)(h:IV js ps ρ)(nd:js.Nodup):J5h ps:=fun i k p q c e1 e2 m1 m2=>by
 obtain ⟨_,j,ej,er⟩:=h.2 i p e1
 obtain ⟨_,j',ej',er'⟩:=h.2 k q e2
 obtain ⟨v,ev,_⟩:=s.env j _ er
 obtain ⟨v',ev',_⟩:=s.env j' _ er'
 have z:=s.dj j j' _ _ v v' c er er' ev ev' m1 m2
 subst z
 exact QU nd ej ej'
theorem StS.swapP (s:StS W pn M b H σ ρ)(h:IV js ps ρ)(lk:KO ps ps')(r':∀ p∈ps',RepP W.K M b H' p)(kp:KpA (KY ps) b H H')(ok:okB W.B b H'):StS W pn M b H' σ (FQ js (ps'.map Pc.g) ρ):=by
 have kk:∀ c u,¬ M c->H c=some u->H' c=some u:=fun c u n q=>kp c u (fun z=>by
  obtain ⟨k,j,p,_,_,_,mc,_,r⟩:=h.ads s z
  exact n (r.1 c mc).1) (fun z=>n (s.bagM c z)) q
 have hlen:ps'.length=ps.length:=by have:=congrArg List.length lk;simpa using this
 have notM:∀ (j:Nat) d2 w,ρ[j]?=some (some d2)->σ[j]?=some (some w)->(∀ k:Nat,js[k]?=some j->(ps'.map Pc.g).length<=k)->∀ c∈KY ps,¬ GF d2 w c:=fun j d2 w e1 e2 hn c mc y=>by
  obtain ⟨k,j',p,ek,ej,er,mc',ev,_⟩:=h.ads s mc
  have z:=s.dj j' j _ _ _ _ c er e1 ev e2 mc' y
  subst z
  have:=hn k ej
  rw [List.length_map,hlen] at this
  have:=(List.getElem?_eq_some_iff.mp ek).1
  omega
 have old:∀ (k j:Nat) (p':Pc),js[k]?=some j->ps'[k]?=some p'->∃ p:Pc,ρ[j]?=some (some p.g)/\p'.f.ads=p.f.ads/\σ[j]?=some (some (.ref p'.a))/\RepX W M b H p.g (.ref p'.a):=fun k j p' ej ep=>by
  obtain ⟨p,e1,e2,e3⟩:=lk.get ep
  obtain ⟨pa,j',ej',er⟩:=h.2 k p e1
  rw [ej] at ej';cases ej'
  obtain ⟨v,ev,r⟩:=s.env j _ er
  have hv:=pa _ _ _ r.2.1
  subst hv
  rw [<- e2] at ev r
  exact ⟨p,er,e3,ev,r⟩
 refine s.of2 ⟨⟨ok,s.bagM,fun c hc=>?_,s.m0⟩,fun c u n q=>?_,s.new,fun j d2 e'=>?_,by rw [NL];exact s.len,fun q hq=>(s.pin q hq).to (fun _ _ r=>Rep.keep kk _ _ r) (fun _ _ r=>Reps.keep kk _ _ r) fun zs a2 us ed ev2 m n hh2=>⟨m,n,kp _ _ (fun z=>?_) n hh2⟩⟩ (fun _ _ q=>q) fun j d2 v2 c e' e2 m=>?_
 · by_cases z:c∈KY ps
   · obtain ⟨p,mp,mc⟩:=List.mem_flatMap.mp z
     obtain ⟨k,ek⟩:=List.getElem?_of_mem mp
     obtain ⟨p',e1,_,e3⟩:=lk.back ek
     obtain ⟨o,q,_⟩:=p'.f.nt M H' _ (r' p' (List.mem_of_getElem? e1)).r c (by rw [e3];exact mc)
     exact ⟨o,q⟩
   · by_cases y:b=some c
     · exact W.B.dm c H' (ok c y)
     · obtain ⟨o,q⟩:=s.dom c hc
       exact ⟨o,kp c o z y q⟩
 · refine kp c u (fun z=>?_) (fun z=>?_) (s.kp c u n q)
   · obtain ⟨k,j,p,_,_,_,mc,_,r⟩:=h.ads s z
     rw [(r.1 c mc).2.2.1] at q;cases q
   · rcases s.new with y|y
     · exact n (y▸z)
     · rw [y.2 c z] at q;cases q
 · rcases IZ _ _ _ _ _ e' with ⟨k,ej,ed⟩|⟨hn,er⟩
   · rw [List.getElem?_map] at ed
     obtain ⟨p',ep,rfl⟩:=Option.map_eq_some_iff.mp ed
     obtain ⟨p,er,e3,ev,r⟩:=old k j p' ej ep
     have P:=r' p' (List.mem_of_getElem? ep)
     exact ⟨_,ev,fun c mc=>r.1 c (by rw [<- e3];exact mc),P.r,P.d⟩
   · obtain ⟨w,e1,r1⟩:=s.env j d2 er
     refine ⟨w,e1,?_⟩
     have na:=notM j d2 w er e1 hn
     cases d2
     case own zs =>
      obtain ⟨a2,us2,rfl,n1,n2,n3,n4,hh2,r2⟩:=r1
      exact ⟨a2,us2,rfl,n1,n2,n3,n4,kp _ _ (fun y=>na a2 y rfl) n2 hh2,Reps.keep kk _ _ r2⟩
     case bag=>exact r1
     case frg f2 _=>exact RepX.move r1 (fun c _ m n=>⟨m,n⟩) (fun c u q h=>q.elim (fun n=>kk c u n h) fun mc=>kp c u (fun y=>na c y mc) (r1.1 c mc).2.1 h) fun c m=>.inl m
     all_goals exact Rep.keep kk _ _ r1
 · obtain ⟨k,j,p,ek,ej,er,mc,ev,_⟩:=h.ads s z
   exact s.lj zs a2 (by rw [<- ed,<- ev2];exact hq) j _ _ er ev mc
 · rcases IZ _ _ _ _ _ e' with ⟨k,ej,ed⟩|⟨hn,er⟩
   · rw [List.getElem?_map] at ed
     obtain ⟨p',ep,rfl⟩:=Option.map_eq_some_iff.mp ed
     obtain ⟨p,er,e3,ev,r⟩:=old k j p' ej ep
     exact ⟨p.g,er,e2,by show c∈p.f.ads;rw [<- e3];exact m⟩
   · exact ⟨d2,er,e2,m⟩
end
section
variable {X:Cx}{W:Wd}{S:DSU}{dA:DA}{pos:Pos}
def RT:List Nat->TA->TA
 | [],t=>t
 | j::js,t=>Q0n (HK j) (RT js t)
def Q0l (js:List Nat)(S:DSU)(dA:DA)(ρ:Ev)(P:D->Ev->Prop):Prop:=∃ ps:List Pc,IV js ps ρ/\dA ρ fun ds=>ds.all AJ=true/\S ps ds fun ps' r=>P r (FQ js (ps'.map Pc.g) ρ)
theorem XI {js:List Nat}{ps:List Pc}{σ:St}{H:Hp}{t:TA}{Q:List V->Hp->Prop}(h:∀ (k:Nat) p,ps[k]?=some p->∃ j,js[k]?=some j/\σ[j]?=some (some (.ref p.a)))(hl:js.length=ps.length)(q:t σ H fun vs H1=>Q (ps.map (fun p=>V.ref p.a)++vs) H1):RT js t σ H Q:=by
 induction js generalizing ps Q with
 | nil =>
   obtain rfl:ps=[]:=List.eq_nil_of_length_eq_zero (by simpa using hl.symm)
   exact q
 | cons j js ih =>
   cases ps with
   | nil=>simp at hl
   | cons p ps =>
     obtain ⟨j',e1,e2⟩:=h 0 p rfl
     simp at e1
     subst e1
     exact ⟨.ref p.a,e2,ih (fun k q e=>by obtain ⟨j',e1,e2⟩:=h (k+1) q (by simpa using e);exact ⟨j',by simpa using e1,e2⟩) (by simpa using hl) q⟩
theorem J2s {js:List Nat}(nd:js.Nodup){pn:List (D×V)} {H:Hp}{σ:St}{ρ:Ev}{P:D->Ev->Prop}{Q:VK}(s:StS W pn M b H σ ρ)(h:Q0l js S dA ρ P)(k:∀ r v H' ρ',P r ρ'->StS W pn M b H' σ ρ'->Rep W.K M H' r v->Q v H'):QK (CL W.K W.B S) [] E0 (RT js (dnA W dA)) σ H Q:=by
 obtain ⟨ps,hp,hd⟩:=h
 refine XI (ps:=ps) (fun k p e=>?_) hp.1 ?_
 · obtain ⟨pa,j,ej,er⟩:=hp.2 k p e
   obtain ⟨v,ev,r⟩:=s.env j _ er
   have hv:=pa _ _ _ r.2.1
   subst hv
   exact ⟨j,ej,ev⟩
 · refine ⟨pn,M,b,ρ,_,s.toSta,hd,fun ds vs H1 hx rx k1 o1=>?_⟩
   have s1:=s.step k1 o1
   refine ⟨M,b,ps,ds,_,vs,by rw [List.append_nil],hx.2,hp.rep s1,hp.disj s1 nd,rx.args _ _ hx.1,o1,s1.bagM,s1.dom,fun ps' r v H' hP lk r' rr kp ok=>?_⟩
   exact k r v H' _ hP (s1.swapP hp lk r' kp ok) rr
theorem LV {js:List Nat}{e:Expr}(nd:js.Nodup)(h:PE X e (QK (CL W.K W.B S) [] E0 (RT js (dnA W dA))))(hs:swapsWith e none pos.line X.env=pure false:=by rfl):JS X W (.Expr e pos) (fun F ρ=>Q0l js S dA ρ fun _ ρ'=>F.nx ρ'):=⟨(GT h hs).mono fun E σ H hh=>hh.elim fun pn M b ρ F s l q=>J2s nd s q fun r v H' ρ' hP s' _=>l.nx _ _ _ _ _ s' hP⟩
end
def Q9n (K:Fg)(a:Addr)(t:Tg)(ks:List (List Int))(xs:List D)(M:Addr->Prop)(H:Hp)(v:V):Prop:=v=.ref a/\∃ vs:List V,H a=some (DOb a t.1 t.2)/\DctE K M H t.1 ks vs/\Reps K M H xs vs
def Q4o (K:Fg)(a:Addr)(t:Tg)(ks:List (List Int))(xs:List D):Frg where
 ads:=[a]
 R:=Q9n K a t ks xs
 keep:=fun M H H' v k ⟨e,vs,h,hE,r⟩=>⟨e,vs,k a _ (.inr (List.mem_cons_self ..)) h,hE.keep fun c o n q=>k c o (.inl n) q,Reps.keep (fun c o n q=>k c o (.inl n) q) _ _ r⟩
 avoid:=fun M M' H v k ⟨e,vs,h,hE,r⟩=>⟨e,vs,h,hE.avoid k,Reps.avoid k _ _ r⟩
 ref:=fun M H v h=>⟨a,h.1⟩
 nt:=fun M H v ⟨e,vs,h,hE,r⟩ c m=>by
  rw [List.mem_singleton.mp m]
  exact ⟨_,h,fun vs z=>by cases z⟩
abbrev dcp (K:Fg)(a:Addr)(t:Tg)(ks:List (List Int))(xs:List D):Pc:=⟨a,Q4o K a t ks xs,.dct t ks xs⟩
abbrev dcg (K:Fg)(a:Addr)(t:Tg)(ks:List (List Int))(xs:List D):D:=.frg (Q4o K a t ks xs) (.dct t ks xs)
theorem J5p {a:Addr}{t:Tg}{ks:List (List Int)}{xs:List D}:(dcp K a t ks xs).at:=fun M H v h=>h.1
abbrev grp (K:Fg)(a:Addr)(rs:List Addr)(rows:List (List D)):Pc:=⟨a,OT K a rs rows,CC rows⟩
theorem OS {a:Addr}{rs:List Addr}{rows:List (List D)}:(grp K a rs rows).at:=fun M H v h=>h.1
section
variable {W:Wd}{M:Addr->Prop}{b:Option Addr}{H:Hp}{a:Addr}{ks:List (List Int)}{xs:List D}{t:Tg}{vs:List V}
theorem ZU (ow:M a/\b≠some a/\W.H0 a=none/\¬ W.M0 a)(h:H a=some (DOb a t.1 t.2))(hE:DctE W.K M H t.1 ks vs)(r:Reps W.K M H xs vs):RepX W M b H (dcg W.K a t ks xs) (.ref a) :=
 ⟨fun c m=>by rw [List.mem_singleton.mp m];exact ow,⟨rfl,vs,h,hE,r⟩,a,vs,rfl,⟨fun z=>z.2 (List.mem_cons_self ..),h,hE.avoid fun c m=>.inl m.1⟩,Reps.avoid (fun c m=>.inl m.1) _ _ r⟩
theorem YC {v:V}(r:RepX W M b H (dcg W.K a t ks xs) v):v=.ref a/\(M a/\b≠some a/\W.H0 a=none/\¬ W.M0 a)/\∃ vs,H a=some (DOb a t.1 t.2)/\DctE W.K M H t.1 ks vs/\Reps W.K M H xs vs:=by
 obtain ⟨ow,⟨e,q⟩,_⟩:=r
 exact ⟨e,ow a (List.mem_cons_self ..),q⟩
def asD (K:Fg)(d:D)(t:Tg)(ks:List (List Int))(xs:List D):Prop:=d=.dct t ks xs\/∃ a,d=dcg K a t ks xs
theorem asD.rep {d:D}{v:V}(h:asD W.K d t ks xs)(r:RepX W M b H d v):∃ a vs,v=.ref a/\H a=some (DOb a t.1 t.2)/\DctE W.K M H t.1 ks vs/\Reps W.K M H xs vs:=by
 rcases h with rfl|⟨a,rfl⟩
 · obtain ⟨a,vs,e,⟨_,h,hE⟩,rr⟩:=r
   exact ⟨a,vs,e,h,hE,rr⟩
 · obtain ⟨e,_,vs,h,hE,rr⟩:=YC r
   exact ⟨a,vs,e,h,hE,rr⟩
end
def LK:List (List Int)->List D->List Int->D->List D
 | k::ks,x::xs,n,z=>(if k=n then z else x)::LK ks xs n z
 | _,xs,_,_=>xs
def FG (ks:List (List Int))(xs:List D)(n:List Int)(z:D):List (List Int)×List D:=if n∈ks then (ks,LK ks xs n z) else (ks++[n],xs++[z])
theorem UE {n:List Int}{z:D}:∀ (ks:List (List Int)) (xs:List D),(LK ks xs n z).length=xs.length
 | [],xs=>by unfold LK;rfl
 | k::ks,[]=>by unfold LK;rfl
 | k::ks,x::xs=>by unfold LK;simp [UE ks xs]
theorem J3g {n:List Int}{z:D}(ks:List (List Int))(xs:List D)(h:ks.length=xs.length):(FG ks xs n z).1.length=(FG ks xs n z).2.length:=by
 unfold FG
 split
 · rw [UE];exact h
 · simp [h]
theorem QP {n:List Int}{z:D}(ks:List (List Int))(xs:List D):(FG ks xs n z).1=if n∈ks then ks else ks++[n]:=by
 unfold FG
 split<;>rfl
theorem WR {n:List Int}{z:D}{ks:List (List Int)}{xs:List D}(h:ks.Nodup):(FG ks xs n z).1.Nodup:=by
 rw [QP]
 split
 · exact h
 · rename_i q
   exact List.nodup_append.mpr ⟨h,List.nodup_cons.mpr ⟨(fun m=>by cases m),List.nodup_nil⟩,fun a ha b hb e=>q (by rw [List.mem_singleton.mp hb] at e;rw [<- e];exact ha)⟩
theorem OY {m:List Int}:∀ {ks:List (List Int)} {xs:List D},ks.length=xs.length->m∈ks->∃ d,AT ks xs m=some d
 | [],_,_,h=>by cases h
 | k::ks,[],h,_=>by simp at h
 | k::ks,x::xs,h,m'=>by
   unfold AT
   by_cases e:k=m
   · rw [if_pos e];exact ⟨x,rfl⟩
   · rw [if_neg e]
     rcases List.mem_cons.mp m' with z|z
     · exact absurd z.symm e
     · exact OY (by simpa using h) z
theorem RB {m n:List Int}{z:D}:∀ {ks:List (List Int)} {xs:List D},ks.length=xs.length->n∉ks->AT (ks++[n]) (xs++[z]) m=if n=m then some z else AT ks xs m
 | [],[],_,_=>by simp [AT]
 | [],_::_,h,_=>by simp at h
 | _::_,[],h,_=>by simp at h
 | k::ks,x::xs,h,nm=>by
   rw [List.mem_cons,not_or] at nm
   have ih:=RB (m:=m) (z:=z) (ks:=ks) (xs:=xs) (by simpa using h) nm.2
   rw [List.cons_append,List.cons_append]
   unfold AT
   rw [ih]
   by_cases e:k=m
   · have:¬ n=m:=fun y=>nm.1 (by rw [y,e])
     simp [e,this]
   · simp [e]
theorem OZ {m n:List Int}{z:D}:∀ {ks:List (List Int)} {xs:List D},ks.length=xs.length->AT ks (LK ks xs n z) m=if n=m/\n∈ks then some z else AT ks xs m
 | [],[],_=>by simp [AT,LK]
 | [],_::_,h=>by simp at h
 | _::_,[],h=>by simp at h
 | k::ks,x::xs,h=>by
   have ih:=OZ (m:=m) (n:=n) (z:=z) (ks:=ks) (xs:=xs) (by simpa using h)
   unfold LK AT
   rw [ih]
   by_cases e:k=m
   · subst e
     by_cases y:k=n
     · subst y;simp
     · have y2:¬ n=k:=fun q=>y q.symm
       simp [y,y2]
   · rw [if_neg e,if_neg e]
     by_cases y:n=m
     · subst y
       have:¬ n=k:=fun q=>e q.symm
       simp [this]
     · simp [y]
theorem J1b {n m:List Int}{z:D}(ks:List (List Int))(xs:List D)(h:ks.length=xs.length):AT (FG ks xs n z).1 (FG ks xs n z).2 m=if n=m then some z else AT ks xs m:=by
 unfold FG
 by_cases q:n∈ks
 · rw [if_pos q]
   show AT ks (LK ks xs n z) m=_
   rw [OZ h]
   by_cases e:n=m
   · simp [e,e▸q]
   · simp [e]
 · rw [if_neg q]
   exact RB h q
section
variable {K:Fg}{M:Addr->Prop}{H:Hp}{n:List Int}{z:D}{v:V}{u:Value}{b:Addr}
theorem MH:∀ {es:Ens},(atKey es n).isSome=true↔n∈es.map (·.1)
 | []=>by simp [atKey]
 | e::es=>by
   rw [PL,List.map_cons,List.mem_cons]
   by_cases q:e.1=n
   · simp [q]
   · rw [if_neg q,MH]
     exact ⟨.inr,fun y=>y.elim (fun w=>absurd w.symm q) id⟩
theorem UJ:∀ (es:Ens),(es.map (putAt n u)).map (·.1)=es.map (·.1)
 | []=>rfl
 | e::es=>by
   rw [List.map_cons,List.map_cons,List.map_cons,UJ es]
   congr 1
   unfold putAt
   split<;>rfl
theorem YZ:∀ (es:Ens),(es.map (putAt n u)).map (fun e=>(e.1,e.2.1))=es.map fun e=>(e.1,e.2.1)
 | []=>rfl
 | e::es=>by
   rw [List.map_cons,List.map_cons,List.map_cons,YZ es]
   congr 1
   unfold putAt
   split<;>rfl
theorem UI (rv:RelV v u)(rz:Rep K M H z v):∀ {es:Ens} {vs:List V} {xs:List D},Vals vs (es.map (·.2.2))->Reps K M H xs vs->∃ vs',Vals vs' ((es.map (putAt n u)).map (·.2.2))/\Reps K M H (LK (es.map (·.1)) xs n z) vs'
 | [],vs,xs,hv,r=>by
   cases hv
   rw [List.map_nil]
   unfold LK
   exact ⟨[],.nil,r⟩
 | e::es,vs,[],hv,r=>by
   rw [show vs=[] from r] at hv
   cases hv
 | e::es,_,x::xs,hv,r=>by
   obtain ⟨v0,vs,rfl,rx,rr⟩:=r
   rw [List.map_cons] at hv
   cases hv with
   | cons h1 h2 =>
   obtain ⟨vs',i1,i2⟩:=UI rv rz h2 rr
   rw [List.map_cons,List.map_cons,List.map_cons]
   unfold LK
   by_cases q:e.1=n
   · refine ⟨v::vs',.cons ?_ i1,v,vs',rfl,?_,i2⟩
     · unfold putAt;rw [if_pos q];exact rv
     · rw [if_pos q];exact rz
   · refine ⟨v0::vs',.cons ?_ i1,v0,vs',rfl,?_,i2⟩
     · unfold putAt;rw [if_neg q];exact h1
     · rw [if_neg q];exact rx
theorem J7q {es:Ens}{ks:List (List Int)}{vs:List V}{xs:List D}(hb:TpA K M H b (n.map V.int))(rv:RelV v u)(rz:Rep K M H z v)(hE:DctE K M H es ks vs)(r:Reps K M H xs vs):∃ vs',DctE K M H (storedH es n b u) (FG ks xs n z).1 vs'/\Reps K M H (FG ks xs n z).2 vs':=by
 obtain ⟨e1,e2,e3⟩:=hE
 subst e1
 unfold storedH FG
 by_cases q:n∈es.map (·.1)
 · rw [if_pos (MH.mpr q),if_pos q]
   obtain ⟨vs',i1,i2⟩:=UI (n:=n) rv rz e3 r
   refine ⟨vs',⟨UJ es,fun e m=>?_,i1⟩,i2⟩
   have:(e.1,e.2.1)∈es.map fun e=>(e.1,e.2.1):=by rw [<- YZ (n:=n) (u:=u) es];exact List.mem_map.mpr ⟨e,m,rfl⟩
   obtain ⟨e',m',q'⟩:=List.mem_map.mp this
   have h:=e2 e' m'
   injection q' with q1 q2
   rw [q1,q2] at h
   exact h
 · rw [if_neg (fun y=>q (MH.mp y)),if_neg q]
   refine ⟨vs++[v],⟨by simp,fun e m=>?_,?_⟩,Reps.append r ⟨v,[],rfl,rz,rfl⟩⟩
   · rcases List.mem_append.mp m with y|y
     · exact e2 e y
     · rw [List.mem_singleton.mp y];exact hb
   · rw [List.map_append]
     exact Paired.snoc e3 rv
end
section
variable {X:Cx}{W:Wd}{pos:Pos}
def Q4s (K:Fg)(i:Nat):DS:=fun F ρ=>∀ a t,F.nx (ρ.set i (some (dcg K a t [] [])))
theorem J1r {i:Nat}{y:Str}{py dpos:Pos}(hN:X.N.Nodup)(hiN:X.N[i]?=some y)(hy:Loc X.env.scope y)
 (hs:swapsWith (.Dict [] [] dpos) (some (.Name y py)) pos.line X.env=pure false:=by rfl) (hf:X.fn y=true\/X.env.scope.names.lookup y=some .local:=by first|exact .inl rfl|exact .inr rfl|assumption) :
 JS X W (.Assign [.Name y py] (.Dict [] [] dpos) pos) (Q4s W.K i):=⟨(EF hN hiN hy J7z hs hf).mono fun E σ H hh=>hh.elim fun pn M b ρ F s l h=>by
 intro p hp
 have ok:=s.toHs.okU (o:=DOb p [] 0) hp
 have t:Sta W pn (fun c=>M c\/c=p) b (upd H p (DOb p [] 0)) σ ρ:=s.toSta.grow (fun c z=>z.imp id fun y=>by rw [y];exact hp) (fun c z=>.inl z) (Kp.upd hp) ok fun c z=>z.elim ((s.toSta.step (Kp.upd hp) ok).dom c) fun y=>by rw [y];exact ⟨_,V8⟩
 refine l.nx _ _ _ _ _ (s.add i (t.set (x:=dcg W.K p ([],0) [] []) (v:=.ref p) i (ZU ⟨.inr rfl,fun z=>?_,s.toSta.fresh0 hp⟩ V8 ⟨rfl,(fun _ m=>by cases m),.nil⟩ rfl)) fun c m=>?_) (h p ([],0))
 · obtain ⟨o,e⟩:=W.B.dm p H (s.ok p z)
   rw [hp] at e;cases e
 · have:c=p:=List.mem_singleton.mp m
   rw [this];exact s.toHs.new hp⟩
def Q1e (K:Fg)(i:Nat)(de dk:DE):DS:=fun F ρ=>∃ (a:Addr) (t:Tg) (ks:List (List Int)) (xs:List D),ρ[i]?=some (some (dcg K a t ks xs))/\de ρ fun z=>plain z=true/\dk ρ fun y=>∃ ns:List Int,y=.tup (ns.map D.int)/\ks.length<1000/\∀ t',F.nx (ρ.set i (some (dcg K a t' (FG ks xs ns z).1 (FG ks xs ns z).2)))
theorem J4k {i:Nat}{tg e:Expr}{de dk:DE}(hK:X.K=W.K)(he:JE X W e de)(hg:PG X tg (J2a (HK i) (dn W dk) (Q0o X.K)))(hs:swapsWithSole [tg] e pos.line X.env=pure false:=by rfl)(hw:swappedStores [tg] e X.env=pure none:=by rfl)
 (h1:(assignEach [tg] X.env).map (·.2)=[assign tg X.env]:=by rfl):JS X W (.Assign [tg] e pos) (Q1e W.K i de dk):=⟨(LM he.h hg hs hw h1).mono fun E σ H hh=>hh.elim fun pn M b ρ F s l q=>by
 rw [hK]
 obtain ⟨a,t,ks,xs,e1,q⟩:=q
 obtain ⟨v0,ev,rg⟩:=s.env i _ e1
 obtain ⟨rfl,_,_⟩:=YC rg
 refine ⟨pn,M,b,ρ,_,s.toSta,q,fun z v H1 hz rz k1 o1=>?_⟩
 have s1:=s.step k1 o1
 refine ⟨.ref a,ev,pn,M,b,ρ,_,s1.toSta,hz.2,fun y u H2 hy ry k2 o2=>?_⟩
 obtain ⟨ns,rfl,hl,hnx⟩:=hy
 have s2:=s1.step k2 o2
 obtain ⟨v2,ev2,rg2⟩:=s2.env i _ e1
 obtain ⟨rfl,ow,vs,hd,hE,rr⟩:=YC rg2
 obtain ⟨bk,us,rfl,hb,rks⟩:=(show Rep W.K M H2 (.tup (ns.map D.int)) u from ry)
 cases rks.ints
 have hes:t.1.length=ks.length:=by rw [<- hE.1];simp
 refine ⟨a,bk,t.1,t.2,ns,rfl,rfl,hd,hE.keys,hb.sq,by rw [hes];exact Nat.lt_of_lt_of_le hl BQ,fun uu ep' ru=>?_⟩
 have rz2:=((rz.step s.bagM k2).rep hz.1)
 obtain ⟨vs',hE',rr'⟩:=J7q (n:=ns) hb ru rz2 hE rr
 have kk:∀ c o,¬ M c->H2 c=some o->upd H2 a (DOb a (storedH t.1 ns bk uu) ep') c=some o:=fun c o n q=>by rw [V3 (fun z=>n (by rw [z];exact ow.1))];exact q
 exact l.nx _ _ _ _ _ (s2.setFrg (f':=Q4o W.K a (storedH t.1 ns bk uu,ep') (FG ks xs ns z).1 (FG ks xs ns z).2) (d':=.dct (storedH t.1 ns bk uu,ep') (FG ks xs ns z).1 (FG ks xs ns z).2) i e1 ev2 (List.mem_cons_self ..) (fun c m=>m) (ZU ow V8 (hE'.keep kk) (Reps.keep kk _ _ rr'))) (hnx _)⟩
end
section
variable {X:Cx}{W:Wd}{pos:Pos}
def Q1d (K:Fg)(i:Nat)(de dk dj:DE):DS:=fun F ρ=>∃ (a:Addr) (rs:List Addr) (rows:List (List D)),ρ[i]?=some (some (grd K a rs rows))/\rs.length=rows.length/\de ρ fun z=>plain z=true/\dk ρ fun y=>∃ (k:Nat) (row:List D),y=.int (k:Int)/\rows[k]?=some row/\dj ρ fun x=>∃ j:Nat,x=.int (j:Int)/\j<row.length/\F.nx (ρ.set i (some (grd K a rs (rows.set k (row.set j z)))))
theorem J8s {n j:Nat}(h:j<n):ixN n (j:Int)=some j:=by
 unfold ixN
 rw [if_pos (by omega)]
 simp;omega
theorem KP {i:Nat}{tg e:Expr}{de dk dj:DE}(hK:X.K=W.K)(he:JE X W e de)(hg:PG X tg (J2a (tOp (J1a X.K) (HK i) (dn W dk)) (dn W dj) UG))(hs:swapsWithSole [tg] e pos.line X.env=pure false:=by rfl)(hw:swappedStores [tg] e X.env=pure none:=by rfl)
 (h1:(assignEach [tg] X.env).map (·.2)=[assign tg X.env]:=by rfl):JS X W (.Assign [tg] e pos) (Q1d W.K i de dk dj):=⟨(LM he.h hg hs hw h1).mono fun E σ H hh=>hh.elim fun pn M b ρ F s l q=>by
 rw [hK]
 obtain ⟨a,rs,rows,e1,hl,q⟩:=q
 have at':∀ {H':Hp},StS W pn M b H' σ ρ->σ[i]?=some (some (.ref a))/\(∀ c∈a::rs,M c/\b≠some c/\W.H0 c=none/\¬ W.M0 c)/\(a::rs).Nodup/\H' a=some (.lst (rs.map V.ref))/\RowsR W.K M H' rs rows:=fun {H'} s=>by
  obtain ⟨v,ev,rg⟩:=s.env i _ e1
  obtain ⟨rfl,ho,nd,ha,hr⟩:=OU rg
  exact ⟨ev,ho,nd,ha,hr⟩
 obtain ⟨ev,_,_,_,_⟩:=at' s
 refine ⟨pn,M,b,ρ,_,s.toSta,q,fun z v H1 hz rz k1 o1=>?_⟩
 have s1:=s.step k1 o1
 refine ⟨.ref a,ev,pn,M,b,ρ,_,s1.toSta,hz.2,fun y u H2 hy ry k2 o2=>?_⟩
 obtain ⟨k,row,rfl,er,hy⟩:=hy
 cases (show _=_ from ry)
 have s2:=s1.step k2 o2
 obtain ⟨_,_,_,ha2,_⟩:=at' s2
 obtain ⟨r,ek⟩:∃ r,rs[k]?=some r:=by
  have:=(List.getElem?_eq_some_iff.mp er).1
  exact ⟨rs[k]'(by omega),List.getElem?_eq_getElem _⟩
 refine ⟨a,rs.map V.ref,k,.ref r,rfl,rfl,SqL.of ha2,EN (by rw [List.getElem?_map,ek];rfl),pn,M,b,ρ,_,s2.toSta,hy,fun x w H3 hx rx k3 o3=>?_⟩
 obtain ⟨j,rfl,hj,hnx⟩:=hx
 cases (show _=_ from rx)
 have s3:=s2.step k3 o3
 obtain ⟨ev3,ho,nd,ha,hr⟩:=at' s3
 obtain ⟨row',us,er',hh',rr⟩:=hr.at ek
 rw [er] at er';cases er'
 have mr:r∈rs:=List.mem_of_getElem? ek
 have nar:a≠r:=fun z=>(List.nodup_cons.mp nd).1 (by rw [z];exact mr)
 have rz3:=((rz.step s.bagM k2).step s.bagM k3).rep hz.1
 exact ⟨r,us,j,j,rfl,rfl,hh',by rw [rr.length];exact J8s hj,l.nx _ _ _ _ _ (s3.setFrg (f':=OT W.K a rs (rows.set k (row.set j z))) (d':=CC (rows.set k (row.set j z))) i (show ρ[i]?=some (some (.frg (OT W.K a rs rows) (CC rows))) from e1) ev3 (List.mem_cons_of_mem _ mr) (fun c m=>m) (SL ho nd (by rw [V3 nar];exact ha) (RowsR.set (List.nodup_cons.mp nd).2 (fun c m=>(ho c (List.mem_cons_of_mem _ m)).1) hr ek (Reps.set rz3 j rr)))) hnx⟩⟩
end
section
variable {X:Cx}{W:Wd}{pos:Pos}
variable {elt iter tg:Expr}{ifs:List Expr}{scope:Scope}{N':List Str}{map:List (Option Nat)}{g:TG}{gd:D->Ev->(Ev->Prop)->Prop}{di:DA}{dt:DT}{de:DA}
def Q4r (K:Fg)(i:Nat)(map:List (Option Nat))(gd:D->Ev->(Ev->Prop)->Prop)(di:DA)(dt:DT)(de:DA):DS:=fun F ρ=>di ρ fun items=>items.length<=1000/\compR gd dt de (FL ρ map) items fun rows=>∀ a rs,rs.length=rows.length->F.nx (ρ.set i (some (grd K a rs rows)))
theorem XW {i:Nat}{y:Str}{py spos:Pos}(hN:X.N.Nodup)(hiN:X.N[i]?=some y)(hy:Loc X.env.scope y)(hG:GD W g gd)(B:Blk X N' scope map tg elt ifs g (dnT W dt) (dnF W de))(hi:JI X W false tg iter di)
 (hsw:swapsWith (.ListComp elt [⟨tg,iter,ifs,0⟩] scope pos) (some (.Name y py)) spos.line X.env=pure true:=by rfl) (hfn:X.fn y=true\/X.env.scope.names.lookup y=some .local:=by first|exact .inl rfl|exact .inr rfl)
 (hs:∀ x,foldedSetIterable iter X.env x=pure x:=by intro _;rfl):JS X W (.Assign [.Name y py] (.ListComp elt [⟨tg,iter,ifs,0⟩] scope pos) spos) (Q4r W.K i map gd di dt de):=⟨(NT hN hiN hy B hi.h hsw hfn hs).mono fun E σ H hh=>hh.elim fun pn M b ρ F s l h=>by
 refine ⟨pn,M,b,ρ,_,s.toSta,h,fun items J need H1 hx hp hI hn k1 o1=>?_⟩
 have s1:=s.step k1 o1
 refine MP hG (s1.toSta.capt map) hp hI (fun q hq=>(hn q hq).1) hx.1 hx.2 fun rows rs H' hP hr nd hnew hl k2 o2 q hq=>?_
 have s2:=s1.step k2 o2
 have nq:q∉rs:=fun z=>by
  obtain ⟨us,e⟩:=hr.lst q z
  rw [hq] at e;cases e
 have hq1:H1 q=none:=JX k2 o2 hq
 have kq:Kp b H1 (upd H' q (.lst (rs.map V.ref))):=k2.trans (Kp.upd hq)
 refine l.nx _ _ _ _ _ (s1.gotGrid (a:=q) (rs:=rs) (rows:=rows) i kq (s2.toHs.okU hq) ⟨hq1,hnew,List.nodup_cons.mpr ⟨nq,nd⟩,V8,?_⟩) (hP q rs hr.length.symm)
 refine RowsR.keep rs rows (fun c o z e=>Same.upd hq c o e) (RowsR.avoid (fun c z=>?_) rs rows hr)
 rcases z with z|z
 · exact .inl (.inl z)
 · rcases List.mem_cons.mp z with y|y
   · exact .inr (by rw [y];exact hq)
   · exact .inl (.inr y)⟩
end
abbrev Om:=Nat->Prop
def Q9o (p:Addr)(H:Hp):Nat:=match H p with|some (.lst [_,_,.int st])=>st.toNat|_=>0
def cnt (b:Option Addr)(H:Hp):Nat:=match b with|none=>0|some p=>Q9o p H
abbrev DE3:=Ev->(D->Om)->Om
abbrev DT3:=Ev->(Bool->Om)->Om
abbrev DA3:=Ev->(List D->Om)->Om
def cn (W:Wd)(d:DE3):TE:=fun σ H Q=>∃ pn M b ρ P,Sta W pn M b H σ ρ/\d ρ P (cnt b H)/\∀ x v H',P x (cnt b H')->RepX W M b H' x v->Kp b H H'->okB W.B b H'->Q v H'
structure DEnds3 where
 nx:Ev->Om
 rt:D->Om
 bk:Ev->Om:=fun _ _=>False
 ct:Ev->Om:=fun _ _=>False
 ro:List D->Om:=fun _ _=>False
abbrev DS3:=DEnds3->Ev->Om
abbrev Q9y:=List D->(List D->Om)->Om
def rngN (a b c:Int):Nat:=if a<b then ((b - a - 1) / c+1).toNat else 0
theorem LI {a b c:Int}(hc:0<c):((rngN a b c:Nat):Int)=Builtin.Range.rangeSize a b c:=by
 unfold rngN Builtin.Range.rangeSize
 rw [if_pos hc]
 split
 · have:=Int.ediv_nonneg (show 0<=b - a - 1 by omega) (show 0<=c by omega)
   omega
 · rfl
theorem J7m {a b c:Int}(hc:0<c):(rngN a b c:Int)<=(b - a).toNat:=by
 unfold rngN
 split
 · have h1:=Int.ediv_nonneg (show 0<=b - a - 1 by omega) (show 0<=c by omega)
   have h2:=Int.ediv_le_self c (show 0<=b - a - 1 by omega)
   omega
 · omega
theorem RX {a b c:Int}(hc:0<c){i:Nat}:i<rngN a b c↔a+i*c<b:=by
 unfold rngN
 split
 · rename_i h
   have h1:=Int.ediv_nonneg (show 0<=b - a - 1 by omega) (show 0<=c by omega)
   have h2:=@Int.le_ediv_iff_mul_le (i:Int) (b - a - 1) c hc
   omega
 · rename_i h
   have:=Int.mul_nonneg (show (0:Int)<=i by omega) (show 0<=c by omega)
   omega
def Q0j (lo st:Int)(n:Nat):It:=⟨fun i _=>i<n,fun i H x H'=>H'=H/\x=.int (lo+i*st),fun i _=>n<=i⟩
theorem TW {tg:Expr}(it:Addr)(lo st:Int)(n:Nat):Turn P w K tg (Q0j lo st n) [it] it (fun i h=>IsRangeIter h it (lo+(i:Nat)*st) ((n:Int) - (i:Nat)) st) where
 mem:=by simp
 obj:=fun i h st b hb=>by
  have e:b=it:=by simpa using hb
  subst e
  exact ⟨_,st,fun v z=>by
   have z':Data.fields _=Data.cell v:=z
   cases z'⟩
 keep:=fun i h h' st k=>k it (by simp) _ st
 item:=by
  intro X hP hw hK hc i pins s σ H E I hf st' hg
  subst hP hw hK
  obtain ⟨f0,f1,f2,f3,f4,f5⟩:=hf it (by simp)
  have W:=Walks.range (prog:=X.prog) (w:=X.w) (I.ok.hd hc) it lo st n
  refine W.item i s _ _ hg st' fun v h' tk hv st' kk=>?_
  obtain ⟨t,rfl⟩:=hv
  have I1:Inv X pins σ H { s with heap:=h',toks:=tk }:=I.turned (fun b o hb e=>kk b o (by simpa using hb) e) f0 f1 f3 f4 f5
  exact ⟨_,rfl,VG (s:={ s with heap:=h',toks:=tk }) (n:="range_iterator") st' rfl rfl (by decide) ⟨.int (lo+i*st),H,I1,⟨t,rfl⟩,⟨rfl,rfl⟩,st',fun b hb=>(hf b hb).1⟩⟩
 done:=by
  intro X hP hw hK hc i pins s σ H E I hf st hg
  subst hP hw hK
  obtain ⟨f0,f1,f2,f3,f4,f5⟩:=hf it (by simp)
  exact wpAny_pyNext_range_end (I.ok.hd hc) st (by have:n<=i:=hg;omega) fun h' eb=>⟨rfl,I.turned (t':=s.toks) (fun b o hb e=>eb b o hb e) f0 f1 f3 f4 f5⟩
 self:=fun _ _ _ _ _ st h=>wpAny_pyIter_rangeiter st h
theorem WI {a b c:Int}(h1:0<=a)(h2:a<=1000)(h3:0<=b)(h4:b<=1000)(h5:1<=c)(h6:c<=1000):Builtin.Range.small a b c=true:=by
 have e:=LI (a:=a) (b:=b) (c:=c) (by omega)
 have l:=J7m (a:=a) (b:=b) (c:=c) (by omega)
 unfold Builtin.Range.small
 rw [<- e]
 simp only [Builtin.Range.rangeFitsLong,Bool.and_eq_true,Bool.or_eq_true,decide_eq_true_eq,beq_iff_eq,show c>0 by omega,if_true]
 clear e
 generalize rngN a b c=n at *
 omega
section
variable {X:Cx}{tg:Expr}
theorem J0z {pins:List (Addr×Obj)}{σ:St}{H:Hp}{s:Shared}{R:It->Hp->Prop}{E:Value->Shared->Prop}{lo hi st:Int}{t u v:Tok}{tk:Nat}(I:Inv X pins σ H s)(h1:0<=lo)(h2:lo<=1000)(h3:0<=hi)(h4:hi<=1000)(h5:1<=st)(h6:st<=1000)
 (q:R (Q0j lo st (rngN lo hi st)) H):wpAny (model X.prog X.w) X.A (pyIter (.ref s.heap.objs.size)) (PIE X pins σ tg R) E { s with heap:=s.heap.push { cls:=.type "range",data:=.fields #[.int lo t,.int hi u,.int st v] },toks:=tk }:=by
 refine wpAny_pyIter_range (IsRange.new ..) (WI h1 h2 h3 h4 h5 h6) ?_
 have I1:Inv X pins σ H { s with heap:=s.heap.push { cls:=.type "range",data:=.fields #[.int lo t,.int hi u,.int st v] },toks:=tk }:=I.kept fun b o e=>B4 _ e
 refine ⟨(s.heap.push { cls:=.type "range",data:=.fields #[.int lo t,.int hi u,.int st v] }).objs.size,[(s.heap.push { cls:=.type "range",data:=.fields #[.int lo t,.int hi u,.int st v] }).objs.size],_,_,H,rfl,
  I1.kept (t':=tk) fun b o e=>B4 _ e,TW _ lo st (rngN lo hi st),?_,fun b hb=>?_,q⟩
 · have e1:lo+((0:Nat):Int)*st=lo:=by simp
   have e2:((rngN lo hi st:Nat):Int) - ((0:Nat):Int)=Builtin.Range.rangeSize lo hi st:=by rw [LI (by omega)];simp
   show IsRangeIter _ _ (lo+((0:Nat):Int)*st) (((rngN lo hi st:Nat):Int) - ((0:Nat):Int)) st
   rw [e1,e2]
   exact Heap.get?_push_size _ rfl
 · have e:b=(s.heap.push { cls:=.type "range",data:=.fields #[.int lo t,.int hi u,.int st v] }).objs.size:=by simpa using hb
   subst e
   exact I1.fpOk (Nat.le_refl _) (I1.hok.fresh (Nat.le_refl _))
def Q7h (ta:TA):TI:=fun σ H R=>ta σ H fun vs H1=>∃ i j k:Int,vs=[.int i,.int j,.int k]/\(0<=i/\i<=1000/\0<=j/\j<=1000/\1<=k/\k<=1000)/\R (Q0j i k (rngN i j k)) H1
theorem J1e {a b c:Expr}{ta:TA}{p pos:Pos}(hg:Gl X "range") (hm:X.mg "range" = none) (ha:PA X [a,b,c] ta) (hs:starEach [a,b,c] X.env=[(false,eval a X.env),(false,eval b X.env),(false,eval c X.env)]:=by rfl) (hs2:starEach [b,c] X.env=[(false,eval b X.env),(false,eval c X.env)]:=by rfl) :
 PI X tg (.Call (.Name "range" p) [a,b,c] [] pos) (Q7h ta):=by
 intro pins s σ H R I h
 refine Call_ (GA I hg hm boot_range (PyProof.Rows.callWith_type1 (thn (ha pos pins s σ H _ I h) fun us s1 ⟨vs,H1,I1,r1,q1⟩=>?_) (by rw [hs,hs2]) (by rw [hs2];rfl)))
 obtain ⟨i,j,k,e,⟨q1,q2,q3,q4,q5,q6⟩,q⟩:=q1
 subst e
 cases r1 with
 | cons r rr =>
   cases rr with
   | cons r' rr =>
     cases rr with
     | cons r'' rr =>
       cases rr
       obtain ⟨t,rfl⟩:=r
       obtain ⟨t',rfl⟩:=r'
       obtain ⟨t'',rfl⟩:=r''
       exact call_range_3 (by omega) (J0z I1 q1 q2 q3 q4 q5 q6 q) (Or.inl (PyProof.noPylong_small (by omega)))
end
def FX (lo st:Int)(n:Nat):List D:=(List.range n).map fun (i:Nat)=>.int (lo+i*st)
theorem RZ (lo st:Int)(n:Nat):(FX lo st n).all plain=true:=by
 simp [FX,plain]
theorem WQ {lo st:Int}{n i:Nat}{d:D}(h:(FX lo st n)[i]?=some d):d=.int (lo+i*st)/\i<n:=by
 have hi:i<n:=by
  have:=(List.getElem?_eq_some_iff.mp h).1
  simpa [FX] using this
 simp [FX,hi] at h
 exact ⟨h.symm,hi⟩
section
variable {X:Cx}{W:Wd}{tg a b c:Expr}{pos p:Pos}{dA:DA}{fz:Bool}
theorem J1u {lo st:Int}{n:Nat}:MI W (Q0j lo st n) [] (FX lo st n):=by
 intro M b H hs _
 refine ⟨fun i d e=>?_,fun i hi=>by show n<=i;simpa [FX] using hi⟩
 obtain ⟨rfl,hi⟩:=WQ e
 refine ⟨hi,fun x H3 ⟨eH,ex⟩=>?_⟩
 subst eH ex
 exact ⟨Same.refl _,(show _=_ from rfl)⟩
def J8y (dA:DA):DA:=fun ρ P=>dA ρ fun xs=>match xs with
 | [.int i,.int j,.int k]=>(0<=i/\i<=1000/\0<=j/\j<=1000/\1<=k/\k<=1000)/\P (FX i k (rngN i j k))
 | _=>False
theorem HA (hg:Gl X "range") (hm:X.mg "range" = none) (ha:JA X W [a,b,c] dA) (hs:starEach [a,b,c] X.env=[(false,eval a X.env),(false,eval b X.env),(false,eval c X.env)]:=by rfl) (hs2:starEach [b,c] X.env=[(false,eval b X.env),(false,eval c X.env)]:=by rfl):JI X W fz tg (.Call (.Name "range" p) [a,b,c] [] pos) (J8y dA):=⟨(J1e hg hm ha.h hs hs2).mono fun σ H R hh=>hh.elim fun pn M b ρ P st h k=>by
 refine ⟨pn,M,b,ρ,_,st,h,fun xs vs H1 hx rx k1 o1=>?_⟩
 match xs,hx with
 | [.int i,.int j,.int l],hx =>
   obtain ⟨v1,r1,rfl,e1,v2,r2,rfl,e2,v3,r3,rfl,e3,rfl⟩:=rx
   cases (show _=_ from e1)
   cases (show _=_ from e2)
   cases (show _=_ from e3)
   exact ⟨i,j,l,rfl,hx.1,k _ _ _ H1 hx.2 (RZ _ _ _) J1u (fun q hq=>by cases hq) k1 o1⟩⟩
end
section
variable {X:Cx}{W:Wd}{e b c l:Expr}{p:Pos}
theorem StS.thaw {pn:List (D×V)} {b:Option Addr}{H:Hp}{σ:St}{ρ:Ev}{i:Nat}{f:Frg}{d:D}(s:StS W pn M b H σ ρ)(e:ρ[i]?=some (some (.frg f d))):StS W pn (fun c=>M c/\c∉f.ads) b H σ (ρ.set i (some d)):=by
 obtain ⟨v,e1,r⟩:=s.env i _ e
 have pd:plain d=true:=by
  have:=r.2.2
  cases d<;>first|rfl|exact this.elim
 have st:Sta W pn (fun c=>M c/\c∉f.ads) b H σ (ρ.set i none):=by
  refine Sta.avoid (M:=M) ⟨s.toHs,s.kp,s.new,fun j d' e'=>?_,by simp [s.len],s.pin⟩ (fun c m=>m.1) (fun p z=>⟨s.bagM p z,fun y=>(r.1 p y).2.1 z⟩) (fun c m=>⟨s.m0 c m,fun y=>(r.1 c y).2.2.2 m⟩) (fun j d' v' c' e' e2 mm=>?_) fun ys a' hq=>⟨by
   obtain ⟨a2,us2,ev,n1,_⟩:=(s.pin _ hq)
   cases ev;exact n1,fun y=>s.lj ys a' hq i _ _ e e1 y⟩
  · by_cases z:i=j
    · subst z;rw [List.getElem?_set] at e';simp at e'
    · rw [List.getElem?_set_ne z] at e';exact s.env j d' e'
  · by_cases z:i=j
    · subst z;rw [List.getElem?_set] at e';simp at e'
    · rw [List.getElem?_set_ne z] at e'
      obtain ⟨v3,e3,r3⟩:=s.env j _ e'
      rw [e2] at e3;cases e3
      exact ⟨(r3.mine mm).1,fun y=>z (s.dj i j _ _ _ _ c' e e' e1 e2 y mm)⟩
 have st2:=st.set (x:=d) (v:=v) i (Rep.x r.2.2)
 rw [J3a e1,List.set_set] at st2
 refine s.of st2 fun j d' hm e'=>?_
 by_cases z:i=j
 · subst z
   rw [List.getElem?_set] at e'
   simp at e'
   rw [<- e'.2] at hm
   cases d<;>first|(cases hm;done)|(cases pd;done)
 · rw [List.getElem?_set_ne z] at e';exact ⟨e',rfl⟩
def J5q (i:Nat)(d:DS):DS:=fun F ρ=>match ρ[i]? with|some (some (.frg _ x))=>d F (ρ.set i (some x))|_=>False
theorem QX {sts:List Stmt}{d:DS}(i:Nat)(h:JSs X W sts d):JSs X W sts (J5q i d):=⟨h.h.mono fun E σ H hh=>hh.elim fun pn M b ρ F s l q=>by
 unfold J5q at q
 split at q
 case h_2=>exact q.elim
 case h_1 f x e=>exact ⟨pn,_,b,_,F,s.thaw e,l,q⟩⟩
end
def RawD (h:Heap)(d:Addr)(ds:Array DictEntry)(ep:Nat):Prop:=∃ o:Obj,h.get? d=some o/\o.ExactDict/\o.data=.dict ds ep
theorem RawD.ty {s:Shared}{d:Addr}{ds:Array DictEntry}{ep:Nat}(x:RawD s.heap d ds ep):s.TypeIs (.ref d) "dict":=let ⟨o,ho,hc,_⟩:=x;⟨o,ho,hc.1⟩
section
variable {prog:Program}{w:World}{A:Around}{E:Value->Shared->Prop}{s:Shared}{d it:Addr}{ds:Array DictEntry}{ep i:Nat}
theorem J1q (hd:(d==sysModules)=false):MeetsIn prog w (Builtin.«dict.__len__» ⟨[.ref d],[]⟩) (fun _ R s=>∃ ds ep,RawD s.heap d ds ep/\R (.ok (.ret (.int ds.size s.toks))) { s with toks:=s.toks+1 }) :=
 .of_wp fun A R s hx=>by
  obtain ⟨ds,ep,⟨o,ho,hc,hdat⟩,h⟩:=hx
  show wpAny _ _ (dictSize d >>= _) _ _ s
  unfold dictSize
  refine B1 (B1 (wpAny_dictEntries ho hdat (B2 (a:=ds.size) ?_)))
  show wpAny _ _ (Builtin.Dict.pendingCount d >>= _) _ _ s
  refine B1 (wpAny_pendingCount_other hd (wpAny_ret_mkInt ?_))
  rw [Nat.add_zero];exact h
theorem J8k {Q:Value->Shared->Prop}(hd:(d==sysModules)=false)(x:RawD s.heap d ds ep)(hfit:(ds.size:Int)<2 ^ 63)(h:∀ t t',Q (.int ds.size t) { s with toks:=t' }):wpAny (model prog w) A (call (.builtin "len") [.ref d]) Q E s:=by
 refine Calls.call_function_entry kind_len plain_len entry_len (args_len1 _) ?_
 unfold Builtin.«len»
 refine B1 (m:=oneArg "len" _) (B2 ?_)
 refine B1 (m:=callSpecial? (.ref d) (Str.ofString "__len__")) (wpAny_callSpecial?_slot (name:=Str.ofString "__len__") x.ty PySem.F.slot_dict_len (call_meetsIn PySem.F.slot_dict_len x.ty PySem.F.entry_dict_len (PySem.F.args_dict_len_1 _) (J1q hd) ⟨ds,ep,x,?_⟩))
 show wpAny _ _ _ _ _ { s with toks:=s.toks+1 }
 refine B1 (wpAny_holding (B2 ?_));refine B1 (wpAny_letGo ?_)
 show wpAny _ _ (if ((ds.size:Nat):Int)<0 then _ else _) _ _ _
 rw [if_neg (by omega)]
 show wpAny _ _ (if ((ds.size:Nat):Int)>=2 ^ 63 then _ else _) _ _ _
 rw [if_neg (by omega)]
 exact B1 (wpAny_mkInt (B2 ⟨_,rfl,h _ _⟩))
theorem WE:MeetsIn prog w (Builtin.«dict.values» ⟨[.ref d],[]⟩) (fun _ R s=>(d==sysModules)=false/\(∃ ds ep,RawD s.heap d ds ep)/\R (.ok (.ret (.ref s.heap.objs.size))) { s with heap:=s.heap.push { cls:=.type "dict_values",data:=.fields #[.ref d] } }) :=
 .of_wp fun A R s hx=>by
  obtain ⟨hd,⟨ds,ep,x⟩,h⟩:=hx
  refine B1 ?_
  unfold Builtin.Dict.noArgs
  refine B1 (wpAny_notOrdered_dict x.ty ?_)
  show wpAny _ _ (pure d) _ _ s
  refine B2 ?_
  show wpAny _ _ (Builtin.Dict.showsAll d >>= _) _ _ s
  unfold Builtin.Dict.showsAll
  rw [if_neg (show ¬ ((d==sysModules)=true) by rw [hd];exact Bool.false_ne_true)]
  refine B1 (B2 (B1 (wpAny_newObj_type (B2 ⟨_,rfl,h⟩))))
theorem VD {v:Addr}{Q:Value->Shared->Prop}(hv:s.heap.IsValuesView v d)(x:RawD s.heap d ds ep)
 (hQ:Q (.ref s.heap.objs.size) { s with heap:=s.heap.push { cls:=.type "dict_valueiterator",data:=.fields #[.ref d,.int 0 0,.int ds.size 0,.int ep 0] } }):wpAny (model prog w) A (pyIter (.ref v)) Q E s:=by
 obtain ⟨ov,hov,hcv,hdv⟩:=id hv
 obtain ⟨o,ho,hc,hdat⟩:=x
 refine wpAny_pyIter_slot hv.typeIs PySem.F.slot_dict_values_iter (wpAny_call_entry PySem.F.slot_dict_values_iter hv.typeIs PySem.F.entry_dict_values_iter ?_ (PySem.F.args_dict_values_iter_1 _))
 unfold Builtin.«dict_values.__iter__»
 refine B1 (B2 (B1 ?_))
 unfold Builtin.Dict_items.dictOf
 refine B1 (wpAny_field hov hdv (x:=.ref d) rfl (B2 (B1 ?_)))
 unfold Builtin.Dict_items.newIterator
 refine B1 (wpAny_dictEntries ho hdat (B1 (wpAny_dictEpoch ho hdat ?_)))
 simp only [show Builtin.Dict_items.ownsTuple "dict_valueiterator" = false from by decide,Bool.false_eq_true,if_false]
 refine wpAny_newObj_type (B2 ⟨_,rfl,"dict_valueiterator",_,⟨_,Heap.get?_push_size _ rfl,rfl⟩,PySem.F.slot_dict_valueiterator_next.lookup,?_⟩)
 simpa [rawInt] using hQ
theorem J1l {e:DictEntry}{Q:Option Value->Shared->Prop}(hit:s.heap.IsValIter it d i ds.size ep)(x:RawD s.heap d ds ep)(hx:ds[i]?=some e)
 (hQ:∀ h',h'.IsValIter it d (i+1) ds.size ep->Heap.SameBut it s.heap h'->Q (some e.val) { s with heap:=h' }):wpAny (model prog w) A (pyNext (.ref it)) Q E s:=by
 obtain ⟨o,ho,hc,hd⟩:=id hit
 obtain ⟨od,hod,hcd,hdd⟩:=x
 unfold pyNext
 refine B1 (wpAny_attempt (wpAny_callSpecial?_slot (name:=Str.ofString "__next__") hit.typeIs PySem.F.slot_dict_valueiterator_next (wpAny_call_entry PySem.F.slot_dict_valueiterator_next hit.typeIs PySem.F.entry_dict_valueiterator_next ?_ (PySem.F.args_dict_valueiterator_next_1 _))))
 refine B1 (B2 ?_);refine B1 ?_;refine B1 ?_
 first|refine B1 (wpAny_typeNameOfWhole_valiter hit.typeIs (B2 (B1 (wpAny_fieldsOf ho hd ?_))))|refine B1 (wpAny_typeNameOf_valiter hit.typeIs (B2 (B1 (wpAny_fieldsOf ho hd ?_))))
 simp only [show Builtin.Dict_items.ownsTuple "dict_valueiterator" = false from by decide,Bool.false_eq_true,if_false]
 show wpAny _ _ (if (Value.ref d==Value.none)=true then _ else _) _ _ s
 rw [if_neg (show ¬ ((Value.ref d==Value.none)=true) from fun z=>nomatch z)]
 refine B1 (B2 (B1 (wpAny_dictEntries hod hdd ?_)))
 rw [if_neg (show ¬ _ by simp)]
 refine B1 (B2 (B1 (wpAny_dictEpoch hod hdd ?_)))
 rw [if_neg (show ¬ _ by simp)];refine B2 ?_
 simp only [show ¬ ((i:Int)<0) from (by omega),if_false,Int.toNat_natCast,hx]
 refine B1 ?_
 first|refine B1 (wpAny_typeNameOfWhole_valiter hit.typeIs (B2 (B1 (wpAny_isOneOf_valiter hit.typeIs ?_))))|refine B1 (wpAny_typeNameOf_valiter hit.typeIs (B2 (B1 (wpAny_isOneOf_valiter hit.typeIs ?_))))
 show wpAny _ _ (setField (.ref it) 1 (rawInt ((i:Int)+1)) >>= _) _ _ s;refine B1 (wpAny_setField ho hd (by simp) ?_)
 have hit':(s.heap.update it (Obj.mapFields (·.setIfInBounds 1 (rawInt ((i:Int)+1))))).IsValIter it d (i+1) ds.size ep:=⟨_,Heap.get?_update_self _ ho (Obj.isFreed_of_fields (Obj.data_mapFields hd _)),(Obj.cls_mapFields ..).trans hc,by rw [Obj.data_mapFields hd];simp [rawInt]⟩
 refine B1 (wpAny_holding (B1 (wpAny_isOneOf_valiter (s:={ s with heap:=s.heap.update it (Obj.mapFields (·.setIfInBounds 1 (rawInt ((i:Int)+1)))) }) hit'.typeIs ?_)))
 refine B1 (wpAny_isOneOf_valiter (s:={ s with heap:=s.heap.update it (Obj.mapFields (·.setIfInBounds 1 (rawInt ((i:Int)+1)))) }) hit'.typeIs ?_)
 show wpAny _ _ (pure e.val) _ _ _;exact B2 (B2 ⟨_,rfl,B2 (hQ _ hit' (Heap.SameBut.update ..))⟩)
theorem J5b {Q:Option Value->Shared->Prop}(hh:A.handled=none)(hit:s.heap.IsValIter it d i ds.size ep)(x:RawD s.heap d ds ep)(hx:ds.size<=i)
 (hQ:∀ h',Heap.ExtBut it s.heap h'->Q none { s with heap:=h' }):wpAny (model prog w) A (pyNext (.ref it)) Q E s:=by
 obtain ⟨o,ho,hc,hd⟩:=id hit
 obtain ⟨od,hod,hcd,hdd⟩:=x
 unfold pyNext
 refine B1 (wpAny_attempt (wpAny_callSpecial?_slot (name:=Str.ofString "__next__") hit.typeIs PySem.F.slot_dict_valueiterator_next (wpAny_call_entry PySem.F.slot_dict_valueiterator_next hit.typeIs PySem.F.entry_dict_valueiterator_next ?_ (PySem.F.args_dict_valueiterator_next_1 _))))
 refine B1 (B2 ?_);refine B1 ?_;refine B1 ?_
 first|refine B1 (wpAny_typeNameOfWhole_valiter hit.typeIs (B2 (B1 (wpAny_fieldsOf ho hd ?_))))|refine B1 (wpAny_typeNameOf_valiter hit.typeIs (B2 (B1 (wpAny_fieldsOf ho hd ?_))))
 simp only [show Builtin.Dict_items.ownsTuple "dict_valueiterator" = false from by decide,Bool.false_eq_true,if_false]
 show wpAny _ _ (if (Value.ref d==Value.none)=true then _ else _) _ _ s
 rw [if_neg (show ¬ ((Value.ref d==Value.none)=true) from fun z=>nomatch z)]
 refine B1 (B2 (B1 (wpAny_dictEntries hod hdd ?_)))
 rw [if_neg (show ¬ _ by simp)]
 refine B1 (B2 (B1 (wpAny_dictEpoch hod hdd ?_)))
 rw [if_neg (show ¬ _ by simp)];refine B2 ?_
 simp only [show ¬ ((i:Int)<0) from (by omega),if_false,Int.toNat_natCast,Array.getElem?_eq_none hx]
 refine B1 ?_
 first|refine B1 (wpAny_typeNameOfWhole_valiter hit.typeIs (B2 ?_))|refine B1 (wpAny_typeNameOf_valiter hit.typeIs (B2 ?_))
 show wpAny _ _ (setField (.ref it) 0 .none >>= _) _ _ s;refine B1 (wpAny_setField ho hd (by simp) ?_)
 show wpAny _ _ (newExc (.type "StopIteration") [] >>= _) _ _ _;refine B1 ?_
 simp only [newExc,newTuple];refine B1 (wpAny_newObj_type ?_ (by size_fits))
 refine B1 (m:=firstArgMember _ _) (wpAny_of_eq (a:=Value.none) (by first|rfl|(simp only [firstArgMember];rfl)) (wpAny_newObj_type ?_ (by size_fits)))
 simp only [raiseNew];refine B1 (wpAny_handled ?_)
 rw [show A.in1.handled=none from hh];refine B1 (B2 (wpAny_throw ?_))
 refine B1 (wpAny_isInstance (T:="StopIteration") (b:=true) ⟨_,Heap.get?_push_size _ rfl,rfl⟩ isSubtype_stop (B2 (hQ _ (((Heap.SameBut.update ..).extBut.push _).push _))))
end
def Idv (a:Addr)(es:Ens)(ep:Nat):It :=
 ⟨fun i H=>H a=some (DOb a es ep)/\∃ e x,es[i]?=some e/\RelV x e.2.2,fun i H x H'=>H'=H/\∃ e,es[i]?=some e/\RelV x e.2.2,fun i H=>H a=some (DOb a es ep)/\es.length<=i⟩
section
variable {X:Cx}{pins:List (Addr×Obj)}{σ:St}{H:Hp}{s:Shared}{a:Addr}{es:Ens}{ep:Nat}{tg:Expr}
theorem Inv.raw (I:Inv X pins σ H s)(h:H a=some (DOb a es ep)):((a==sysModules)=false/\es.length<=sizeLine)/\∃ ds,RawD s.heap a ds ep/\ds.size=es.length/\∀ (i:Nat) e,es[i]?=some e->ds[i]?=some (Q4x e):=by
 obtain ⟨⟨⟨h1,h2,h3⟩,o,ds,e1,e2,e3,e4⟩,_⟩:=I.hok a _ h
 refine ⟨⟨h1,h2⟩,ds,⟨o,e1,e2,e3⟩,?_,fun i e q=>?_⟩
 · have:=congrArg List.length e4
   simpa using this
 · rw [<- Array.getElem?_toList,e4,List.getElem?_map,q];rfl
theorem J7a (it:Addr):Turn P w K tg (Idv a es ep) [it] it (fun i h=>h.IsValIter it a i es.length ep) where
 mem:=by simp
 obj:=fun i h st b hb=>by
  rw [List.mem_singleton.mp hb]
  obtain ⟨o,e,c,d⟩:=st
  exact ⟨o,e,fun v z=>by rw [d] at z;cases z⟩
 keep:=fun i h h' st k=>by
  obtain ⟨o,e,q⟩:=st
  exact ⟨o,k it (by simp) o e,q⟩
 item:=by
  intro X hP hw hK hc i pins s σ H E I hf st hg
  subst hP hw hK
  obtain ⟨hd,e,x,he,rx⟩:=hg
  obtain ⟨⟨h1,h2⟩,ds,raw,hsz,hat⟩:=I.raw hd
  obtain ⟨f0,f1,f2,f3,f4,f5⟩:=hf it (by simp)
  rw [<- hsz] at st
  refine J1l st raw (hat i e he) fun h' st' sb=>?_
  have I1:Inv X pins σ H { s with heap:=h' }:=I.turned (t':=s.toks) (fun b o hb e=>(sb.2 b hb).trans e) f0 f1 f3 f4 f5
  obtain ⟨o,e',c,d⟩:=id st'
  rw [hsz] at st'
  exact ⟨_,rfl,VG (s:={ s with heap:=h' }) e' c d (by decide) ⟨x,H,I1,rx,⟨rfl,e,he,rx⟩,st',fun b hb=>(hf b hb).1⟩⟩
 done:=by
  intro X hP hw hK hc i pins s σ H E I hf st hg
  subst hP hw hK
  obtain ⟨hd,hi⟩:=hg
  obtain ⟨⟨h1,h2⟩,ds,raw,hsz,hat⟩:=I.raw hd
  obtain ⟨f0,f1,f2,f3,f4,f5⟩:=hf it (by simp)
  rw [<- hsz] at st
  exact J5b (I.ok.hd hc) st raw (by omega) fun h' eb=>⟨rfl,I.turned (t':=s.toks) (fun b o hb e=>eb b o hb e) f0 f1 f3 f4 f5⟩
 self:=fun _ _ s Q E st h=>wpAny_pyIter_valiter st h
def Q7f (to:TE):TI:=fun σ H R=>to σ H fun x H1=>∃ a es ep,x=.ref a/\H1 a=some (DOb a es ep)/\R (Idv a es ep) H1
theorem J7x {o:Expr}{to:TE}{apos cpos:Pos}(ho:PE X o to)(hbase:attributeBase o "values" X.env (eval o X.env)=eval o X.env:=by rfl) (hline:(apos.endLine==cpos.line)=true:=by rfl):PI X tg (.Call (.Attribute o "values" apos) [] [] cpos) (Q7f to):=by
 intro pins s σ H R I h
 refine wpAny_Call_method0_late hbase hline (thn (ho pins s σ H _ I h) fun v s1 hx=>?_)
 obtain ⟨x,H1,I1,r1,a,es,ep,rfl,hd,q⟩:=hx
 cases r1
 obtain ⟨⟨h1,h2⟩,ds,raw,hsz,hat⟩:=I1.raw hd
 refine ⟨"dict","dict.values",PySem.F.plainAttrs_dict,PySem.F.slot_dict_values,PySem.F.type_dict_values,raw.ty,fun b e=>?_,Calls.callWith_builtin rfl (PySem.evalArgs_none ?_)⟩
 · cases e
   obtain ⟨o,e1,e2,_⟩:=raw
   exact ⟨o,e1,e2.2.1⟩
 refine call_meetsIn PySem.F.slot_dict_values raw.ty PySem.F.entry_dict_values (PySem.F.args_dict_values_1 _) WE ⟨h1,⟨ds,ep,raw⟩,?_⟩
 have I2:Inv X pins σ H1 { s1 with heap:=s1.heap.push { cls:=.type "dict_values",data:=.fields #[.ref a] } }:=I1.kept (t':=s1.toks) fun b o e=>B4 _ e
 obtain ⟨_,ds2,raw2,hsz2,hat2⟩:=I2.raw hd
 refine VD (s:={ s1 with heap:=s1.heap.push { cls:=.type "dict_values",data:=.fields #[.ref a] } }) ⟨_,Heap.get?_push_size _ rfl,rfl,rfl⟩ raw2 ?_
 rw [hsz2]
 refine ⟨_,[_],_,_,H1,rfl,I2.kept (t':=s1.toks) fun b o e=>B4 _ e,J7a _,⟨_,Heap.get?_push_size _ rfl,rfl,rfl⟩,fun b hb=>?_,q⟩
 rw [List.mem_singleton.mp hb]
 exact I2.fpOk (Nat.le_refl _) (I2.hok.fresh (Nat.le_refl _))
theorem J2n:CD X (.builtin "len") (fun xs H Q=>∃ a es ep,xs=[.ref a]/\H a=some (DOb a es ep)/\Q (.int es.length) H):=by
 intro pins s σ H xs us Q I r h
 obtain ⟨a,es,ep,rfl,hd,q⟩:=h
 cases r with
 | cons r1 r2 =>
 cases r2
 cases r1
 obtain ⟨⟨h1,h2⟩,ds,raw,hsz,hat⟩:=I.raw hd
 refine J8k h1 raw (by have:=LR;omega) fun t t'=>?_
 rw [hsz]
 exact ⟨.int es.length,H,I.tok _,⟨_,rfl⟩,q⟩
end
section
variable {X:Cx}{W:Wd}{e o tg:Expr}{es:List Expr}{de:DE}
def Q9c (K:Fg):D->D->(D->Prop)->Prop:=fun x y P=>∃ t ks xs ns d,asD K x t ks xs/\y=.tup (ns.map D.int)/\AT ks xs ns=some d/\P d
theorem YU {H:Hp}{ns:List Int}{v:V}(r:RepX W M b H (.tup (ns.map D.int)) v):∃ c,v=.ref c/\SqT W.K H c (ns.map V.int):=by
 obtain ⟨c,us,rfl,hb,rks⟩:=(show Rep W.K M H (.tup (ns.map D.int)) v from r)
 cases rks.ints
 exact ⟨c,rfl,hb.sq⟩
theorem Q2x:OpD W (Q2f W.K) (Q9c W.K):=by
 intro M b H x y v u P Q hs rx ry ho k
 obtain ⟨t,ks,xs,ns,d,hx,rfl,hf,hP⟩:=ho
 obtain ⟨a,vs,rfl,hd,hE,rr⟩:=hx.rep rx
 obtain ⟨c,rfl,hc⟩:=YU ry
 have q:=MA ns hE.1 hE.2.2 rr
 rw [hf] at q
 obtain ⟨p,v,e1,rv,r1⟩:=q
 exact ⟨a,c,t.1,t.2,ns,p,v,rfl,rfl,hd,hE.keys,hc,e1,rv,k d v H hP r1.x (Kp.refl _ _) hs.ok⟩
theorem J8r (K:Fg)(h:X.K=K)(hu:X.A.units+64<cLine):IxR X (Q2f K):=by subst h;exact Q3j (by omega)
def Q9e (K:Fg)(g:Bool->Bool):D->D->(D->Prop)->Prop:=fun x y P=>∃ t ks xs ns,asD K y t ks xs/\x=.tup (ns.map D.int)/\P (.bl (g (AT ks xs ns).isSome))
theorem Q2z {g:Bool->Bool}:OpD W (Q6k W.K g) (Q9e W.K g):=by
 intro M b H x y v u P Q hs rx ry ho k
 obtain ⟨t,ks,xs,ns,hy,rfl,hP⟩:=ho
 obtain ⟨a,vs,rfl,hd,hE,rr⟩:=hy.rep ry
 obtain ⟨c,rfl,hc⟩:=YU rx
 have q:=MA ns hE.1 hE.2.2 rr
 refine ⟨a,c,t.1,t.2,ns,rfl,rfl,hd,hE.keys,hc,?_⟩
 have e:(atKey t.1 ns).isSome=(AT ks xs ns).isSome:=by
  cases ef:AT ks xs ns with
  | none=>rw [ef] at q;rw [show atKey t.1 ns=none from q];rfl
  | some d=>rw [ef] at q;obtain ⟨p,v,e1,_⟩:=q;rw [e1];rfl
 rw [e]
 exact k _ _ H hP rfl (Kp.refl _ _) hs.ok
def Q6y (K:Fg):List D->(D->Prop)->Prop
 | [x],P=>∃ t ks xs,asD K x t ks xs/\P (.int ks.length)
 | _,_=>False
theorem Q0a:EH W (fun xs H Q=>∃ a es ep,xs=[.ref a]/\H a=some (DOb a es ep)/\Q (.int es.length) H) (Q6y W.K):=by
 intro M b H xs vs P Q hs rx ho k
 match xs,ho with
 | [x],ho =>
   obtain ⟨t,ks,ys,hx,hP⟩:=ho
   obtain ⟨v,rfl,r⟩:=rx1 rx
   obtain ⟨a,us,rfl,hd,hE,rr⟩:=hx.rep r
   refine ⟨a,t.1,t.2,rfl,hd,?_⟩
   have:t.1.length=ks.length:=by rw [<- hE.1];simp
   rw [this]
   exact k _ _ H hP rfl (Kp.refl _ _) hs.ok
def Q9m (K:Fg)(fz:Bool)(g:List (List Int)->List D->List D)(de:DE):DA:=fun ρ P=>de ρ fun x=>∃ t ks xs,(x=.dct t ks xs\/(fz=false/\∃ a,x=dcg K a t ks xs))/\P (g ks xs)
theorem J8u {x:D}{t:Tg}{ks:List (List Int)}{xs:List D}{a:Addr}(hx:asD W.K x t ks xs):MI W (Idv a t.1 t.2) [(x,.ref a)] xs:=by
 intro M b H hs hn
 obtain ⟨a',vs,e,hd,hE,rr⟩:=hx.rep (hn _ (List.mem_singleton.mpr rfl))
 cases e
 have hl:t.1.length=xs.length:=by
  have h1:=hE.2.2.length
  rw [List.length_map,rr.length] at h1
  exact h1.symm
 refine ⟨fun i d e=>?_,fun i hi=>⟨hd,by rw [hl];exact hi⟩⟩
 obtain ⟨v,e1,r1⟩:=rr.get e
 obtain ⟨u,e2,ru⟩:=hE.2.2.get e1
 rw [List.getElem?_map] at e2
 obtain ⟨en,e3,e4⟩:=Option.map_eq_some_iff.mp e2
 refine ⟨⟨hd,en,v,e3,by rw [e4];exact ru⟩,fun y H3 ⟨eH,en',e5,ry⟩=>?_⟩
 subst eH
 rw [e3] at e5;cases e5
 rw [e4] at ry
 cases ry.inj ru
 exact ⟨Same.refl _,r1.x⟩
theorem J4o {fz:Bool}{apos cpos:Pos}(hK:X.K=W.K)(h:JE X W o de)(hbase:attributeBase o "values" X.env (eval o X.env)=eval o X.env:=by rfl) (hline:(apos.endLine==cpos.line)=true:=by rfl):JI X W fz tg (.Call (.Attribute o "values" apos) [] [] cpos) (Q9m W.K fz (fun _ xs=>xs) de) :=
 ⟨(J7x h.h hbase hline).mono fun σ H R hh=>hh.elim fun pn M b ρ P st h k=>by
   refine ⟨pn,M,b,ρ,_,st,h,fun x v H1 hx rx k1 o1=>?_⟩
   obtain ⟨t,ks,xs,hx,hP⟩:=hx
   have hA:asD W.K x t ks xs:=hx.imp id fun z=>z.2
   obtain ⟨a,vs,rfl,hd,hE,rr⟩:=hA.rep rx
   refine ⟨a,t.1,t.2,rfl,hd,k _ _ _ H1 hP rr.plain (J8u hA) (fun q hq=>?_) k1 o1⟩
   rw [List.mem_singleton.mp hq]
   exact ⟨rx,fun z=>hx.elim (fun e=>by rw [e];rfl) fun e=>by rw [z] at e;cases e.1⟩⟩
end
section
variable {gd gd2:D->Ev->(Ev->Prop)->Prop}{dt:DT}{de:DE}{ρc:Ev}{items acc0:List D}{P:List D->Prop}{mp2:List (Option Nat)}{di2:DA}
theorem IQ (f:D->D)(hs:∀ x (Q:D->Prop),x∈items->Q (f x)->gd x ρc fun ρ1=>de ρ1 Q)(hp:∀ x∈items,plain (f x)=true)(hd:P (acc0++items.map f)):compG gd MN de ρc items acc0 P:=by
 refine ⟨fun i acc=>acc=acc0++(items.take i).map f,by simp,fun i x acc e h=>?_,fun acc h=>?_⟩
 · have m:=List.mem_of_getElem? e
   show gd x ρc fun ρ1=>IfP true (de ρ1 fun y=>plain y=true/\acc++[y]=acc0++(items.take (i+1)).map f) _
   simp only [PN]
   refine hs x _ m ⟨hp x m,?_⟩
   rw [h,List.take_add_one,e,Option.toList_some,List.map_append,<- List.append_assoc]
   rfl
 · rw [h,List.take_length];exact hd
theorem J5w (f:D->D)(t:D->Bool)(hs:∀ x (Qt Qf:Prop) (Q:D->Prop),x∈items->(t x=true->Q (f x))->(t x=false->Qf)->gd x ρc fun ρ1=>dt ρ1 fun c=>IfP c (de ρ1 Q) Qf)(hp:∀ x∈items,t x=true->plain (f x)=true)(hd:P (acc0++(items.filter t).map f)):compG gd dt de ρc items acc0 P:=by
 refine ⟨fun i acc=>acc=acc0++((items.take i).filter t).map f,by simp,fun i x acc e h=>?_,fun acc h=>?_⟩
 · have m:=List.mem_of_getElem? e
   refine hs x True _ _ m (fun ht=>⟨hp x m ht,?_⟩) fun ht=>?_
   · rw [h,List.take_add_one,e,Option.toList_some,List.filter_append,List.map_append,<- List.append_assoc]
     simp [ht]
   · rw [h,List.take_add_one,e,Option.toList_some,List.filter_append,List.map_append]
     simp [ht]
 · rw [h,List.take_length];exact hd
theorem RH {de:DA}{P:List (List D)->Prop}(f:D->List D)(hs:∀ x (Q:List D->Prop),x∈items->Q (f x)->gd x ρc fun ρ1=>de ρ1 Q)(hd:P (items.map f)):compR gd MN de ρc items P:=by
 refine ⟨fun i acc=>acc=(items.take i).map f,rfl,fun i x acc e h=>?_,fun acc h=>?_⟩
 · have m:=List.mem_of_getElem? e
   show gd x ρc fun ρ1=>IfP true (de ρ1 fun y=>acc++[y]=(items.take (i+1)).map f) _
   simp only [PN]
   refine hs x _ m ?_
   rw [h,List.take_add_one,e,Option.toList_some,List.map_append]
   rfl
 · rw [h,List.take_length];exact hd
theorem IA (rowf:D->List D)(hs:∀ x∈items,∀ acc (Q:List D->Prop),Q (acc++rowf x)->gd x ρc fun ρ1=>di2 ρ1 fun ys=>ys.length<=1000/\compG gd2 dt de (FL ρ1 mp2) ys acc Q)(hd:P (items.flatMap rowf)):compI2 gd mp2 di2 gd2 dt de ρc items P:=by
 refine ⟨fun i acc=>acc=(items.take i).flatMap rowf,rfl,fun i x acc e h=>?_,fun acc h=>?_⟩
 · refine hs x (List.mem_of_getElem? e) acc _ ?_
   rw [h,List.take_add_one,e,Option.toList_some,List.flatMap_append]
   simp
 · rw [h,List.take_length];exact hd
end
section
variable {X:Cx}{W:Wd}{a:Expr}{dA:DA}
def Q4v (dA:DA):DA:=fun ρ P=>dA ρ fun xs=>match xs with
 | [x]=>(match asS x with|some ys=>P ys|none=>False)
 | _=>False
theorem VC {lpos npos:Pos}(ha:JA X W [a] dA)(h:PE X (.Call (.Name "list" npos) [a] [] lpos) (tCB (fun xs H Q=>∃ p ys,xs=[.ref p]/\(SqL W.K H p ys\/SqT W.K H p ys)/\∀ l,H l=none->Q (.ref l) (upd H l (.lst ys))) (dnA W dA))):JF X W (.Call (.Name "list" npos) [a] [] lpos) (Q4v dA):=⟨h.mono fun σ H Q hh=>by
 obtain ⟨pn,M,b,ρ,P,st,h,k⟩:=hh
 refine ⟨pn,M,b,ρ,_,st,h,fun xs vs H1 hx rx k1 o1=>?_⟩
 match xs,hx with
 | [x],hx =>
   obtain ⟨v,rfl,r⟩:=rx1 rx
   cases e1:asS x with
   | none=>simp only [e1] at hx
   | some ys =>
     simp only [e1] at hx
     obtain ⟨a1,us,rfl,h1,r1⟩:=asS.rep r e1
     refine ⟨a1,us,rfl,h1,fun p hp=>?_⟩
     exact k _ _ p _ hx (JX k1 o1 hp) V8 (Reps.keep (fun c o _ e=>Same.upd hp c o e) _ _ (Reps.avoid (fun c z=>z.imp id fun y=>by rw [y];exact hp) _ _ r1)) (k1.trans (Kp.upd hp)) ((st.step k1 o1).toHs.okU hp)⟩
end
def Q4u (K:Fg)(i:Nat):DG:=fun P _ ρ=>∃ a rs rows,ρ[i]?=some (some (grd K a rs rows))/\P rows
theorem J4j {X:Cx}{W:Wd}{i:Nat}{e:Expr}{pos:Pos}(h:PE X e (HK i)):JGs X W [.Return (some e) pos] (Q4u W.K i):=⟨(DB (FY h)).mono fun E σ H hh=>by
 obtain ⟨pn,M,b,ρ,F,P,s,l,lg,a,rs,rows,e,hP⟩:=hh
 obtain ⟨v,ev,r⟩:=s.env i _ e
 obtain ⟨rfl,ho,nd,ha,hr⟩:=OU r
 refine ⟨.ref a,ev,lg rows a rs H hP ⟨(ho a (List.mem_cons_self ..)).2.2.1,fun r m=>(ho r (List.mem_cons_of_mem _ m)).2.2.1,nd,ha,RowsR.avoid (fun c z=>.inl ?_) rs rows hr⟩ s.kp s.ok0⟩
 rcases z with z|z
 · exact s.m0 c z
 · exact (ho c z).1⟩
theorem NG {gd:D->Ev->(Ev->Prop)->Prop}{dt:DT}{de:DE}{ρc:Ev}{items:List D}{P:List D->Prop}(f:D->D)(t:D->Bool)(hs:∀ x (Qf:Prop) (Q:D->Prop),x∈items->(t x=true->Q (f x))->(t x=false->Qf)->gd x ρc fun ρ1=>dt ρ1 fun c=>IfP c (de ρ1 Q) Qf)(hp:∀ x∈items,t x=true->plain (f x)=true)(hd:P ((items.filter t).map f)):compI gd dt de ρc items P:=by
 refine ⟨fun i acc=>acc=((items.take i).filter t).map f,by simp,fun i x acc e h=>?_,fun acc h=>?_⟩
 · have m:=List.mem_of_getElem? e
   refine hs x _ _ m (fun ht=>⟨hp x m ht,?_⟩) fun ht=>?_
   · rw [h,List.take_add_one,e,Option.toList_some,List.filter_append,List.map_append]
     simp [ht]
   · rw [h,List.take_add_one,e,Option.toList_some,List.filter_append,List.map_append]
     simp [ht]
 · rw [h,List.take_length];exact hd
section
variable {X:Cx}{W:Wd}{pos:Pos}{dA:DA}
def Q6x:List D->(D->Prop)->Prop
 | [.frg _ (.lst xs)],P=>P (.int xs.length)
 | _,_=>False
theorem J9z:EH W (fun xs H Q=>∃ p ys,xs=[.ref p]/\(SqL W.K H p ys\/SqT W.K H p ys)/\Q (.int ys.length) H) Q6x:=by
 intro M b H xs vs P Q hs rx ho k
 match xs,ho with
 | [.frg f (.lst xs)],ho =>
   obtain ⟨v,rfl,r⟩:=rx1 rx
   obtain ⟨a,us,rfl,hh,r'⟩:=r.2.2
   exact ⟨a,us,rfl,.inl (SqL.of hh.2),k _ _ H ho (by show _=_;rw [r'.length]) (Kp.refl _ _) hs.ok⟩
def Q8k (K:Fg)(i j:Nat)(dA:DA):DS:=fun F ρ=>∃ a rs rows,ρ[i]?=some (some (grd K a rs rows))/\∃ (k:Nat) (row:List D),ρ[j]?=some (some (.int k))/\rs.length=rows.length/\rows[k]?=some row/\dA ρ fun ys=>(match ys with | [y]=>(plain y&&decide (row.length<1000))=true/\F.nx (ρ.set i (some (grd K a rs (rows.set k (row++[y])))))|_=>False)
theorem J4n {i j:Nat}{r e:Expr}{apos cpos:Pos}(hK:X.K=W.K)(ha:JA X W [e] dA)
 (h:PE X (.Call (.Attribute r "append" apos) [e] [] cpos) (tBM X.K "list" IH (tOp (J1a X.K) (HK i) (HK j)) (dnA W dA))) (hs:swapsWith (.Call (.Attribute r "append" apos) [e] [] cpos) none pos.line X.env=pure false:=by rfl) :
 JS X W (.Expr (.Call (.Attribute r "append" apos) [e] [] cpos) pos) (Q8k W.K i j dA):=⟨(GT (by rw [hK] at h;exact h) hs).mono fun E σ H hh=>hh.elim fun pn M b ρ F s l hd=>by
 obtain ⟨a,rs,rows,e1,k,row,ej,hl,er,hd⟩:=hd
 obtain ⟨r,ek⟩:∃ r,rs[k]?=some r:=by
  have:=(List.getElem?_eq_some_iff.mp er).1
  exact ⟨rs[k]'(by omega),List.getElem?_eq_getElem _⟩
 obtain ⟨wj,evj,rj⟩:=s.env j _ ej
 cases (show wj=.int (k:Int) from rj)
 have at':∀ {H':Hp},StS W pn M b H' σ ρ->σ[i]?=some (some (.ref a))/\(∀ c∈a::rs,M c/\b≠some c/\W.H0 c=none/\¬ W.M0 c)/\(a::rs).Nodup/\H' a=some (.lst (rs.map V.ref))/\RowsR W.K M H' rs rows/\∃ us,H' r=some (.lst us)/\Reps W.K M H' row us:=fun {H'} s=>by
  obtain ⟨v,ev,rg⟩:=s.env i _ e1
  obtain ⟨rfl,ho,nd,ha,hr⟩:=OU rg
  obtain ⟨row',us,er',hh,rr⟩:=hr.at ek
  rw [er] at er';cases er'
  exact ⟨ev,ho,nd,ha,hr,us,hh,rr⟩
 obtain ⟨ev0,_,_,ha0,_,us0,hh0,_⟩:=at' s
 refine ⟨.ref a,ev0,.int k,evj,a,rs.map V.ref,k,.ref r,rfl,rfl,SqL.of ha0,EN (by rw [List.getElem?_map,ek];rfl),.inl ⟨rfl,us0,SqL.of hh0⟩,pn,M,b,ρ,_,s.toSta,hd,fun xs us H' hx rx k' o=>?_⟩
 match xs,hx with
 | [y],hx =>
   obtain ⟨u,rfl,ru⟩:=rx1 rx
   obtain ⟨p1,p2⟩:=(Bool.and_eq_true _ _).mp hx.1
   have p2:=of_decide_eq_true p2
   have s':=s.step k' o
   obtain ⟨ev,ho,nd,ha,hr,us',hh',rr⟩:=at' s'
   have mr:r∈rs:=List.mem_of_getElem? ek
   have nar:a≠r:=fun z=>(List.nodup_cons.mp nd).1 (by rw [z];exact mr)
   refine ⟨r,us',u,rfl,rfl,hh',by rw [rr.length];have:=BQ;omega,l.nx _ _ _ _ _ (s'.setFrg (f':=OT W.K a rs (rows.set k (row++[y]))) (d':=CC (rows.set k (row++[y]))) i (show ρ[i]?=some (some (.frg (OT W.K a rs rows) (CC rows))) from e1) ev (List.mem_cons_of_mem _ mr) (fun c m=>m) (SL ho nd (by rw [V3 nar];exact ha) (RowsR.set (List.nodup_cons.mp nd).2 (fun c m=>(ho c (List.mem_cons_of_mem _ m)).1) hr ek (Reps.append rr (show Reps W.K M H' [y] [u] from ⟨u,[],rfl,ru.rep p1,rfl⟩))))) hx.2⟩⟩
def Q8j (K:Fg)(i:Nat)(dA:DA):DS:=fun F ρ=>∃ a rs rows,ρ[i]?=some (some (grd K a rs rows))/\rs.length<1000/\dA ρ fun ys=>(match ys with | [y]=>plain y=true/\F.nx (ρ.set i (some (.lst (rows.map D.lst++[y]))))|_=>False)
def Q8n (a:Addr)(rs:List Addr):Frg where
 ads:=a::rs
 R:=fun M H v=>v=.ref a/\∀ c∈a::rs,∃ o,H c=some o/\∀ vs,o≠.tup vs
 keep:=fun M H H' v k h=>⟨h.1,fun c m=>(h.2 c m).imp fun o q=>⟨k c o (.inr m) q.1,q.2⟩⟩
 avoid:=fun M M' H v k h=>h
 ref:=fun M H v h=>⟨a,h.1⟩
 nt:=fun M H v h=>h.2
theorem J4m {i:Nat}{x:Str}{e:Expr}{npos apos cpos:Pos}(hK:X.K=W.K)(ha:JA X W [e] dA)
 (h:PE X (.Call (.Attribute (.Name x npos) "append" apos) [e] [] cpos) (tBM X.K "list" IH (HK i) (dnA W dA))) (hs:swapsWith (.Call (.Attribute (.Name x npos) "append" apos) [e] [] cpos) none pos.line X.env=pure false:=by rfl) :
 JS X W (.Expr (.Call (.Attribute (.Name x npos) "append" apos) [e] [] cpos) pos) (Q8j W.K i dA):=⟨(GT (by rw [hK] at h;exact h) hs).mono fun E σ H hh=>hh.elim fun pn M b ρ F s l hd=>by
 obtain ⟨a,rs,rows,e1,hl,hd⟩:=hd
 obtain ⟨v,ev,rg⟩:=s.env i _ e1
 obtain ⟨rfl,_,_,ha,_⟩:=OU rg
 refine ⟨.ref a,ev,.inl ⟨rfl,_,SqL.of ha⟩,pn,M,b,ρ,_,s.toSta,hd,fun xs us H' hx rx k' o=>?_⟩
 match xs,hx with
 | [y],hx =>
   obtain ⟨u,rfl,ru⟩:=rx1 rx
   obtain ⟨p1,p2⟩:=hx
   have s':=s.step k' o
   obtain ⟨v',ev',rg'⟩:=s'.env i _ e1
   rw [ev] at ev';cases ev'
   obtain ⟨_,ho,nd,ha',hr⟩:=OU rg'
   have hl':(rs.map V.ref).length<1000:=by rw [List.length_map];exact hl
   have ma:=(ho a (List.mem_cons_self ..)).1
   have rr:=RowsR.reps (A:=a::rs) rs rows (fun r m=>List.mem_cons_of_mem _ m) hr
   have ry:Rep W.K M H' y u:=ru.rep p1
   have kk:∀ c w,¬ M c->H' c=some w->upd H' a (.lst (rs.map V.ref++[u])) c=some w:=fun c w n q=>by rw [V3 (fun z=>n (by rw [z];exact ma))];exact q
   have kr:∀ c w,c≠a->H' c=some w->upd H' a (.lst (rs.map V.ref++[u])) c=some w:=fun c w n q=>by rw [V3 n];exact q
   have nr:∀ r∈rs,r≠a:=fun r m z=>(List.nodup_cons.mp nd).1 (by rw [<- z];exact m)
   have hr2:RowsR W.K M (upd H' a (.lst (rs.map V.ref++[u]))) rs rows:=RowsR.keep rs rows (fun c w q e=>q.elim (fun n=>kk c w n e) (fun m=>kr c w (nr c m) e)) hr
   have rr2:=RowsR.reps (A:=a::rs) rs rows (fun r m=>List.mem_cons_of_mem _ m) hr2
   have rd:Rep W.K (fun c=>M c/\c∉a::rs) (upd H' a (.lst (rs.map V.ref++[u]))) (.lst (rows.map D.lst++[y])) (.ref a):=⟨a,_,rfl,⟨fun m=>m.2 (List.mem_cons_self ..),V8⟩,Reps.append rr2 ⟨u,[],rfl,Rep.avoid (fun c m=>.inl m.1) _ _ (Rep.keep kk _ _ ry),rfl⟩⟩
   have s2:=s'.setFrg (f':=Q8n a rs) (d':=.lst (rows.map D.lst++[y])) (o:=.lst (rs.map V.ref++[u])) i (show ρ[i]?=some (some (.frg (OT W.K a rs rows) (CC rows))) from e1) ev (show a∈a::rs from List.mem_cons_self ..) (fun c m=>m) ⟨ho,⟨rfl,fun c m=>by
    rcases List.mem_cons.mp m with z|z
    · rw [z];exact ⟨_,V8,fun _ y=>by cases y⟩
    · obtain ⟨us,e⟩:=hr2.lst c z
      exact ⟨_,e,fun _ y=>by cases y⟩⟩,rd⟩
   have s3:=s2.thaw (i:=i) (f:=Q8n a rs) (d:=.lst (rows.map D.lst++[y])) (by
    have:=(List.getElem?_eq_some_iff.mp e1).1
    rw [List.getElem?_set_self this])
   rw [List.set_set] at s3
   exact ⟨a,_,u,rfl,rfl,ha',by have:=BQ;omega,l.nx _ _ _ _ _ s3 p2⟩⟩
end
end L2
namespace K
open PySem PySem.Spec PyProof.Rows L2
local macro_rules | `(tactic| walk_at "o") => `(tactic| first | exact Or.inl rfl | exact Or.inr rfl)
local macro_rules | `(tactic| walk_at "v") => `(tactic| first | exact Or.inl rfl | exact Or.inr (Or.inl rfl) | exact Or.inr (Or.inr rfl))
local macro_rules | `(tactic| walk_at "bg") => `(tactic| first | assumption | exact Bag.same (by walk_at "bg") (Same.upd (by assumption)) | exact Bag.same (by walk_at "bg") (by assumption))
local macro_rules | `(tactic| walk_at "hp") => `(tactic| first | assumption | exact V8 | (refine Same.get (Same.upd (by assumption)) ?_; walk_at "hp") | (refine Same.get (by assumption) ?_; walk_at "hp") | (refine Keep.tup (by assumption) (by walk_at "bg") ?_; (walk_at "hp")))
local macro_rules | `(tactic| walk_at "sm") => `(tactic| first | exact Same.refl _ | assumption | (refine Same.trans ?_ (Same.upd (by assumption)); walk_at "sm") | (refine Same.trans ?_ (by assumption); walk_at "sm"))
local macro_rules | `(tactic| walk_at "kp") => `(tactic| first | exact Keep.refl _ _ | assumption | (refine Keep.trans ?_ (Same.keep (Same.upd (by assumption))); walk_at "kp") | (refine Keep.trans ?_ (by assumption); walk_at "kp") | (refine Keep.trans ?_ (Same.keep (by assumption)); walk_at "kp"))
local macro_rules | `(tactic| walk_at "bd") => `(tactic| first | assumption | exact Bd.mul (by walk_at "bd") (by walk_at "bd") | exact Bd.add (by walk_at "bd") (by walk_at "bd") | exact Bd.sub (by walk_at "bd") (by walk_at "bd") | exact Bd.neg (by walk_at "bd") | exact Bd.num _ (by decide))
local macro_rules | `(tactic| walk_at "rd1") => `(tactic| first | refine ⟨_,_,rfl,rfl,?_⟩ | refine ⟨_,rfl,?_⟩ | (refine' ⟨_,?xs,_,?vv,rfl,rfl,SqT.of ?ia,?ib,?_⟩; (case ia => walk_at "hp"); (case ib => rfl)) | refine And.intro (CMulB.right (Bd.num _ (by decide))) ?_ | (refine' rd_mul ?m1 ?m2 ?m3 ?_; (case m1 => walk_at "bd"); (case m2 => walk_at "bd"); (case m3 => first | decide | omega)) | refine ⟨rfl,?_⟩)
local macro_rules | `(tactic| walk_at "rd") => `(tactic| repeat (walk_at "rd1"))
local macro_rules | `(tactic| walk_at "al") => `(tactic| (refine ⟨(Nat.le_trans (Nat.le_of_ble_eq_true rfl) BQ),?_⟩; intro p en))
local macro_rules | `(tactic| walk_at "w") => `(tactic| (conv => whnf))
local macro_rules | `(tactic| walk_at "go1") => `(tactic| first | refine And.intro (by exact rfl) ?_ | refine IfP.t (by exact rfl) ?_ | refine IfP.f (by exact rfl) ?_ | refine And.intro (by exact Nat.le_of_ble_eq_true rfl) ?_ | refine And.intro (by decide) ?_ | refine And.intro (by dsimp only; decide) ?_ | refine And.intro (CMulB.right (Bd.num _ (by decide))) ?_ | refine And.intro (Or.inl ⟨_,_,by walk_at "bd",by walk_at "bd",by first | decide | omega⟩) ?_| refine And.intro ⟨by decide,by decide⟩ ?_)
local macro_rules | `(tactic| walk_at "g") => `(tactic| ((conv => whnf); repeat (walk_at "go1"; (conv => whnf))))
local macro_rules | `(tactic| walk_at "nz") => `(tactic| simp only [BH,List.map_cons,List.map_nil,List.length_cons,List.length_nil,List.replicate,List.cons_append,List.nil_append,List.set_cons_succ,List.set_cons_zero,FL,List.getElem?_cons_succ,List.getElem?_cons_zero,Option.bind_some,Option.bind_none,Option.join_some,Option.join_none,FQ,Nat.reduceAdd,Nat.reduceSub,Int.reduceAdd,Nat.zero_add])
local macro_rules | `(tactic| walk_at "gr") => `(tactic| ((try walk_at "nz"); refine J8z ?_; walk_at "g"))
local macro_rules | `(tactic| walk_at "gc") => `(tactic| ((try walk_at "nz"); refine J5v ?_; walk_at "g"))
local macro_rules | `(tactic| walk_at "sp") => `(tactic| (refine IfP.of (fun h => ?_) (fun h => ?_) <;> (try simp only [decide_eq_true_eq,Bool.bne_false,Bool.bne_true,Bool.not_eq_true',decide_eq_false_iff_not,Bool.not_true,Bool.not_false,Bool.not_eq_false',bne_iff_ne,ne_eq,Bool.not_not] at h)))
def top (i:Nat):Stmt:=PySem.Challenge.pw_onceshade_k54_pictures_mended.main.body.getD i (.Pass ⟨0,0,0,0⟩)
structure Bi (mg:Str->Option Value):Prop where
 abs_:mg "abs" = none
 len_:mg "len" = none
 max_:mg "max" = none
 min_:mg "min" = none
 range_:mg "range" = none
 isinstance_:mg "isinstance" = none
 int_:mg "int" = none
 bool_:mg "bool" = none
 tuple_:mg "tuple" = none
 zip_:mg "zip" = none
 sum_:mg "sum" = none
 list_:mg "list" = none
 enumerate_:mg "enumerate" = none
 all_:mg "all" = none
 any_:mg "any" = none
 ValueError_:mg "ValueError" = none
 str_:mg "str" = none
 LONGEST_:∃ t,mg "LONGEST" = some (.int 16 t)
structure Cs where
 ShadeError:Addr
 NoFace:Addr
 NoBoard:Addr
structure Ex (K:Fg)(mg:Str->Option Value)(base:Heap)(c:Cs):Prop where
 g_ShadeError:mg "ShadeError" = some (.ref c.ShadeError)
 g_NoFace:mg "NoFace" = some (.ref c.NoFace)
 g_NoBoard:mg "NoBoard" = some (.ref c.NoBoard)
 o_NoBoard:OwnCls "NoBoard" c.NoBoard bmV "ValueError.__new__" mg base
 x_NoBoard:XCls K c.NoBoard
 v_NoBoard:PySem.W.subIn K (.ref c.NoBoard) (.type "ValueError")=some true
 s_NoBoard:PySem.W.subIn K (.ref c.NoBoard) (.ref c.ShadeError)=some true
 n_NoBoard_NoFace:PySem.W.kin_not K c.NoBoard c.NoFace=true
 o_NoFace:OwnCls "NoFace" c.NoFace bmV "ValueError.__new__" mg base
 x_NoFace:XCls K c.NoFace
 v_NoFace:PySem.W.subIn K (.ref c.NoFace) (.type "ValueError")=some true
 s_NoFace:PySem.W.subIn K (.ref c.NoFace) (.ref c.ShadeError)=some true
 n_NoFace_NoBoard:PySem.W.kin_not K c.NoFace c.NoBoard=true
 sh:XBase K c.ShadeError
def BagP (H:Hp)(p:Addr):Prop:=∃ f m q:Int,H p=some (.lst [.int f,.int m,.int q])/\0<=f/\0<=m/\m<4294967296/\2147483353<=q/\q<=2147483629
theorem BagP.ne {H:Hp}{p a:Addr}{xs:List V}(b:BagP H p)(h:H a=some (.tup xs)):a≠p:=by
 obtain ⟨f,m,st,e,_⟩:=b
 exact Q0q h e (by intro z;cases z)
def Q9t (p:Addr)(many:Int)(H:Hp)(Q:VK):Prop:=∀ (r:Int) H',0<=r->r<many->BagP H' p->Keep p H H'->Q (.int r) H'
abbrev CQ:Stmt:=top 44
theorem CS:FnScope ["_law_script","_law_at","_law_cell","_law_prime","_law_great"] ["_law_script","_law_at"] (J3 CQ):=⟨rfl,rfl,rfl,by decide +kernel,rfl,by decide +kernel,by decide +kernel⟩
def J2y (K:Fg):Sp:=fun vs H Q _=>∃ (a:Addr) (ns:List Int) (i:Nat),vs=[.ref a,.int i]/\SqL K H a (ns.map V.int)/\i<=1000/\∀ p H',H p=none->Same H H'->BagP H' p->Q (.ref p) H'
theorem SF {f:Addr} (F:Fun K "_law_bag" "_law_bag" CQ f fd) (Z:Bi mg) {c:Cs} (Y:Ex K mg base c):FnOk P w K mg base CX0 1 f fd ["_law_script","_law_at"] (J2y K):=by
 refine F.ok CS (fun vs H Q E h=>?_) (fun cdv A outer s H vs Q E hr h=>?_)
 · obtain ⟨a,ns,i,rfl,hS,hi,k⟩:=h
   rfl
 · obtain ⟨a,ns,i,rfl,hS,hi,k⟩:=h
   obtain ⟨es1,hes1⟩:∃ es:List Expr,es=List.map (fun c:Int×Nat×Pos=>Expr.Constant (.int c.1) c.2.1 c.2.2) [(2147483629,0,⟨145,18,145,28⟩),(2147483587,0,⟨145,30,145,40⟩),(2147483579,0,⟨145,42,145,52⟩),(2147483563,0,⟨145,54,145,64⟩),(2147483549,0,⟨145,66,145,76⟩),(2147483543,0,⟨145,78,145,88⟩),(2147483497,0,⟨145,90,145,100⟩),(2147483489,0,⟨145,102,145,112⟩),(2147483477,0,⟨145,114,145,124⟩),(2147483423,0,⟨145,126,145,136⟩),(2147483399,0,⟨145,138,145,148⟩),(2147483353,0,⟨145,150,145,160⟩)]:=⟨_,rfl⟩
   have hT1:PS (V1 CX0 P w K mg base ["_law_script","_law_at","_law_cell","_law_prime","_law_great"] "_law_bag" (J3 CQ) f cdv A outer s H E).nox (Stmt.Assign [Expr.Name "_law_prime" ⟨145,4,145,14⟩] (Expr.Subscript (Expr.Tuple es1 0 ⟨145,17,145,161⟩) (Expr.BinOp (Expr.Name "_law_at" ⟨145,162,145,169⟩) .Mod (Expr.Constant (Const.int 12) 0 ⟨145,172,145,174⟩) ⟨145,162,145,174⟩) ⟨145,17,145,175⟩) ⟨145,4,145,175⟩) _:=EF (i:=3) CS.nd rfl (by walk_at "o") (FI (ZM K (by rfl)) (WT (x1:=0) (pos:=⟨145,17,145,161⟩) [(2147483629,0,⟨145,18,145,28⟩),(2147483587,0,⟨145,30,145,40⟩),(2147483579,0,⟨145,42,145,52⟩),(2147483563,0,⟨145,54,145,64⟩),(2147483549,0,⟨145,66,145,76⟩),(2147483543,0,⟨145,78,145,88⟩),(2147483497,0,⟨145,90,145,100⟩),(2147483489,0,⟨145,102,145,112⟩),(2147483477,0,⟨145,114,145,124⟩),(2147483423,0,⟨145,126,145,136⟩),(2147483399,0,⟨145,138,145,148⟩),(2147483353,0,⟨145,150,145,160⟩)] hes1) (DZ JK (pv 1) AM) (fun _ _=>rfl)) rfl (.inl rfl)
   generalize hst1:Stmt.Assign [Expr.Name "_law_prime" ⟨145,4,145,14⟩] (Expr.Subscript (Expr.Tuple es1 0 ⟨145,17,145,161⟩) (Expr.BinOp (Expr.Name "_law_at" ⟨145,162,145,169⟩) .Mod (Expr.Constant (Const.int 12) 0 ⟨145,172,145,174⟩) ⟨145,162,145,174⟩) ⟨145,17,145,175⟩) ⟨145,4,145,175⟩=st1 at hT1
   have hR1:=((BI (EF (i:=4) CS.nd rfl (by walk_at "o") AM)
    (BI (ZA (KD J3u (pv 2) (DZ WY AM AM) (V7 _)) (DB (EF (i:=4) CS.nd rfl (by walk_at "o") (pv 2))) KE)
    (DB (FY (WV (BS (pv 4) (BS (DZ JK (DZ WY (DZ AS (DZ JK (pv 2) (pv 3)) AM) AM) (pv 3)) (BS (pv 3) JJ)))))))):PSs (V1 CX0 P w K mg base ["_law_script","_law_at","_law_cell","_law_prime","_law_great"] "_law_bag" (J3 CQ) f cdv A outer s H E).nox ((BV CQ).drop 3) _)
   have hV1:=@J3i _ _ _ (BI hT1 hR1)
   refine ⟨_,(BI (EF (i:=2) CS.nd rfl (by walk_at "o") AM)
    (BI (ZA (KD GC (pv 1) (NU (Q7 K (by rfl)) rfl Z.len_ AU (BS (pv 0) JJ)) (V7 _)) (DB (EF (i:=2) CS.nd rfl (by walk_at "o") (FI (EB K (by rfl)) (pv 0) (pv 1) (fun _ _=>rfl)))) KE)
    hV1)),?_⟩
   have ixp:∀ j:Int,∃ q:Int,atI [.int 2147483629,.int 2147483587,.int 2147483579,.int 2147483563,.int 2147483549,.int 2147483543,.int 2147483497,.int 2147483489,.int 2147483477,.int 2147483423,.int 2147483399,.int 2147483353] (j % 12)=some (V.int q)/\2147483353<=q/\q<=2147483629:=fun j=>by
    obtain ⟨v,ev,mv⟩:=J6e (xs:=[.int 2147483629,.int 2147483587,.int 2147483579,.int 2147483563,.int 2147483549,.int 2147483543,.int 2147483497,.int 2147483489,.int 2147483477,.int 2147483423,.int 2147483399,.int 2147483353]) (i:=j % 12) (Int.emod_nonneg _ (by decide)) (Int.emod_lt_of_pos _ (by decide))
    simp only [List.mem_cons,List.not_mem_nil,or_false] at mv
    rcases mv with e|e|e|e|e|e|e|e|e|e|e|e<;>exact ⟨_,e▸ev,by decide,by decide⟩
   obtain ⟨q,xq,q0,q1⟩:=ixp (i:Int)
   have fin:∀ (cv f:Int) (H1:Hp),Same H H1->0<=f->∀ p,H1 p=none->Q (.ref p) (upd H1 p (.lst [.int f,.int ((cv % q+7919) ^ (3:Int).toNat % q),.int q])):=fun cv f H1 S hf p hp=>by
    have h1:=Int.emod_nonneg ((cv % q+7919) ^ (3:Int).toNat) (show q≠0 by omega)
    have h2:=Int.emod_lt_of_pos ((cv % q+7919) ^ (3:Int).toNat) (show 0<q by omega)
    exact k p _ (S.free hp) (S.trans (Same.upd hp)) ⟨_,_,_,V8,hf,h1,by omega,q0,q1⟩
   have hpw:∀ cv:Int,(cv % q+7919).natAbs<2 ^ 64:=fun cv=>by
    have h1:=Int.emod_nonneg cv (show q≠0 by omega)
    have h2:=Int.emod_lt_of_pos cv (show 0<q by omega)
    omega
   walk_at "rd"
   refine ⟨_,_,rfl,.inl hS,?_⟩
   walk_at "rd"
   refine J8t (fun h=>?_) (fun h=>?_)
   · have h:(i:Int)<((ns.map V.int).length:Nat):=J5i h
     have hi':i<ns.length:=by rw [List.length_map] at h;omega
     walk_at "rd"
     refine ⟨_,_,_,_,rfl,rfl,hS,EN (v:=V.int ns[i]) (by rw [List.getElem?_map,List.getElem?_eq_getElem hi'];rfl),?_⟩
     walk_at "rd"
     refine ⟨by rw [<- hst1,hes1];rfl,?_⟩
     walk_at "al"
     rename_i pr npr
     walk_at "rd"
     refine ⟨(by show (0:Int)<12;decide),?_⟩
     refine ⟨_,_,_,_,rfl,rfl,SqT.of V8,xq,?_⟩
     walk_at "rd"
     refine ⟨⟨by decide,by decide,by decide⟩,?_⟩
     walk_at "rd"
     refine J8t (fun h=>?_) (fun h=>?_)
     all_goals
      walk_at "rd"
      refine ⟨(by show 0<q;omega),?_⟩
      walk_at "rd"
      refine ⟨⟨by decide,by decide,hpw _⟩,?_⟩
      walk_at "rd"
      refine ⟨(by show 0<q;omega),?_⟩
      walk_at "rd"
      refine ⟨(Nat.le_trans (Nat.le_of_ble_eq_true rfl) BQ),?_⟩
     · exact fin _ _ _ (Same.upd npr) (by have h:(10:Int) ^ Int.toNat 18<=_:=J5i h;have e:(10:Int) ^ Int.toNat 18=1000000000000000000:=(by decide);omega)
     · exact fin _ _ _ (Same.upd npr) (by decide)
   · walk_at "rd"
     refine ⟨by rw [<- hst1,hes1];rfl,?_⟩
     walk_at "al"
     rename_i pr npr
     walk_at "rd"
     refine ⟨(by show (0:Int)<12;decide),?_⟩
     refine ⟨_,_,_,_,rfl,rfl,SqT.of V8,xq,?_⟩
     walk_at "rd"
     refine ⟨⟨by decide,by decide,by decide⟩,?_⟩
     walk_at "rd"
     refine ⟨(by show 0<q;omega),?_⟩
     walk_at "rd"
     refine ⟨⟨by decide,by decide,hpw _⟩,?_⟩
     walk_at "rd"
     refine ⟨(by show 0<q;omega),?_⟩
     walk_at "rd"
     refine ⟨(Nat.le_trans (Nat.le_of_ble_eq_true rfl) BQ),?_⟩
     exact fin _ _ _ (Same.upd npr) (by decide)
abbrev EI:Stmt:=top 45
theorem IU:FnScope ["_law_bag_here","_law_many","_law_found"] ["_law_bag_here","_law_many"] (J3 EI):=⟨rfl,rfl,rfl,by decide +kernel,rfl,by decide +kernel,by decide +kernel⟩
def TZ:Sp:=fun vs H Q _=>∃ (p:Addr) (many:Int) (n:Nat),vs=[.ref p,.int many]/\BagP H p/\0<many/\Bd n many/\n<=9000/\Q9t p many H Q
theorem OE {f:Addr} (F:Fun K "_law_digit" "_law_digit" EI f fd) (Z:Bi mg) {c:Cs} (Y:Ex K mg base c):FnOk P w K mg base CX0 1 f fd ["_law_bag_here","_law_many"] TZ:=by
 refine F.ok IU (fun vs H Q E h=>?_) (fun cdv A outer s H vs Q E hr h=>?_)
 · obtain ⟨p,many,n,rfl,⟨fg,m,q,hp,hf,hm,hm2,q0,q1⟩,h0,hb,hn,k⟩:=h
   rfl
 · obtain ⟨p,many,n,rfl,⟨fg,m,q,hp,hf,hm,hm2,q0,q1⟩,h0,hb,hn,k⟩:=h
   refine ⟨_,(BI (ZA (KD J3t (FI (EB K (by rfl)) (pv 0) AM (fun _ _=>rfl)) AM (V7 _)) (BI (EF (i:=2) IU.nd rfl (by walk_at "o") (DZ JK (FI (EB K (by rfl)) (pv 0) AM (fun _ _=>rfl)) (pv 1)))
    (BI (LM (DZ UN (FI (EB K (by rfl)) (pv 0) AM (fun _ _=>rfl)) (pv 1)) (GV (pv 0) AM DY))
    (DB (FY (pv 2))))) KE)
    (BI (LM (DZ JK (DZ AS (DZ Y5 (FI (EB K (by rfl)) (pv 0) AM (fun _ _=>rfl)) AM) AM) (FI (EB K (by rfl)) (pv 0) AM (fun _ _=>rfl))) (GV (pv 0) AM DY))
    (DB (FY (DZ JK (DZ UN (DZ JK (DZ WY (FI (EB K (by rfl)) (pv 0) AM (fun _ _=>rfl)) AM) AM) AM) (pv 1)))))),?_⟩
   have md:∀ x:Int,0<=x % many/\x % many<many:=fun x=>⟨Int.emod_nonneg _ (by omega),Int.emod_lt_of_pos _ h0⟩
   walk_at "rd"
   refine ⟨_,_,_,_,rfl,rfl,SqL.of hp,rfl,?_⟩
   walk_at "rd"
   refine J8t (fun h=>?_) (fun h=>?_)
   · have h:0<fg:=J5i h
     walk_at "rd"
     refine ⟨_,_,_,_,rfl,rfl,SqL.of hp,rfl,?_⟩
     walk_at "rd"
     refine ⟨h0,?_⟩
     walk_at "rd"
     refine ⟨_,_,_,_,rfl,rfl,SqL.of hp,rfl,?_⟩
     walk_at "rd"
     refine ⟨⟨h0,n,hb,hn⟩,?_⟩
     walk_at "rd"
     refine ⟨_,_,_,0,rfl,rfl,hp,rfl,?_⟩
     walk_at "rd"
     exact k _ _ (md fg).1 (md fg).2 ⟨_,_,_,V8,Int.ediv_nonneg hf (by omega),hm,hm2,q0,q1⟩ Keep.upd
   · have bm:Bd 32 m:=Bd.of (by omega) (by omega)
     walk_at "rd"
     refine ⟨_,_,_,_,rfl,rfl,SqL.of hp,rfl,?_⟩
     walk_at "rd"
     refine ⟨_,_,_,_,rfl,rfl,SqL.of hp,rfl,?_⟩
     walk_at "rd"
     refine ⟨(by show 0<q;omega),?_⟩
     walk_at "rd"
     refine ⟨_,_,_,1,rfl,rfl,hp,rfl,?_⟩
     have h1:=Int.emod_nonneg (m*48271+7919) (show q≠0 by omega)
     have h2:=Int.emod_lt_of_pos (m*48271+7919) (show 0<q by omega)
     walk_at "rd"
     refine ⟨_,_,_,_,rfl,rfl,SqL.of V8,rfl,?_⟩
     walk_at "rd"
     refine ⟨⟨by decide,by decide,(by show ((m*48271+7919) % q).natAbs<2 ^ 64;omega)⟩,?_⟩
     walk_at "rd"
     refine ⟨(by show (0:Int)<2147483647;decide),?_⟩
     walk_at "rd"
     refine ⟨⟨by decide,64,Bd.num _ (by decide),by decide⟩,?_⟩
     walk_at "rd"
     refine ⟨h0,?_⟩
     exact k _ _ (md _).1 (md _).2 ⟨_,_,_,V8,hf,h1,by omega,q0,q1⟩ Keep.upd
def BT:BagT:=⟨fun p H=>BagP H p,fun p H H' b k=>by
 obtain ⟨f,m,q,e,r⟩:=b
 exact ⟨f,m,q,k _ e,r⟩,fun p H b=>by
 obtain ⟨f,m,q,e,r⟩:=b
 exact ⟨_,e⟩⟩
theorem J8l {p:Addr}{H H':Hp}(k:Keep p H H'):Kp (some p) H H':=fun c o n e=>k c o (fun z=>n (by rw [z])) e
def SA:List D->Prop:=fun ds=>∃ (ns:List Int) (i:Nat),ds=[.scr ns,.int i]/\i<=1000
theorem TV:∀ vs H Q E,(VZ K BT SA) vs H Q E->(J2y K) vs H Q E:=by
 rintro vs H Q E ⟨M,b,ds,hr,⟨ns,i,rfl,hi⟩,k⟩
 obtain ⟨v,r,rfl,⟨a,rfl,hS⟩,u,r',rfl,h2,h3⟩:=hr
 cases (show _=_ from h2)
 cases (show _=_ from h3)
 exact ⟨a,ns,i,rfl,hS.imp (·.2) id,hi,k⟩
theorem US {f:Addr} (F:Fun K "_law_bag" "_law_bag" CQ f fd) (Z:Bi mg) {c:Cs} (Y:Ex K mg base c):FnOk P w K mg base CX0 1 f fd ["_law_script","_law_at"] (VZ K BT SA):=FnOk.imp (SF F Z Y) TV
def HF:DSp:=fun ds P _=>∃ (many:Int) (n:Nat),ds=[.bag,.int many]/\0<many/\Bd n many/\n<=9000/\∀ r,0<=r->r<many->P (.int r)
theorem PR:∀ vs H Q E,(J8 K BT HF) vs H Q E->TZ vs H Q E:=by
 rintro vs H Q E ⟨M,b,ds,P,Ed,⟨many,n,rfl,h0,hbd,hn,hP⟩,⟨v,r,rfl,⟨p,rfl,rfl⟩,u,r',rfl,h2,h3⟩,ho,hb,hd,hq,hx⟩
 cases (show _=_ from h2)
 cases (show _=_ from h3)
 exact ⟨p,many,n,rfl,ho p rfl,h0,hbd,hn,fun r H' r0 r1 b' k=>hq _ _ H' (hP r r0 r1) rfl (J8l k) fun q e=>by cases e;exact b'⟩
theorem QB {f:Addr} (F:Fun K "_law_digit" "_law_digit" EI f fd) (Z:Bi mg) {c:Cs} (Y:Ex K mg base c):FnOk P w K mg base CX0 1 f fd ["_law_bag_here","_law_many"] (J8 K BT HF):=FnOk.imp (OE F Z Y) PR
def J6s:DSp:=fun ds P _=>∃ a b:Int,ds=[.int a,.int b]/\P (.int (Int.gcd a b))
abbrev GP:Stmt:=top 46
theorem ML:FnScope ["_law_one","_law_other"] ["_law_one","_law_other"] (J3 GP):=⟨rfl,rfl,rfl,by decide +kernel,rfl,by decide +kernel,by decide +kernel⟩
def YW:Sp:=fun vs H Q _=>∃ a b:Int,vs=[.int a,.int b]/\Q (.int (Int.gcd a b)) H
theorem SE {f:Addr} (F:Fun K "_law_gcd" "_law_gcd" GP f fd) (Z:Bi mg) {c:Cs} (Y:Ex K mg base c):FnOk P w K mg base CX0 1 f fd ["_law_one","_law_other"] YW:=by
 refine F.ok ML (fun vs H Q E h=>?_) (fun cdv A outer s H vs Q E hr h=>?_)
 · obtain ⟨a,b,rfl,k⟩:=h
   rfl
 · obtain ⟨a,b,rfl,k⟩:=h
   refine ⟨_,(BI (J3j PassesOwn.never (KD J3s (pv 1) AM (V7 _)) (DB (Q2k (i:=0) (j:=1) rfl ML.nd rfl rfl (by decide) rfl rfl (BS (pv 1) (BS (DZ J8c (pv 0) (pv 1)) JJ)) rfl)))
    (DB (FY (NU VX rfl Z.abs_ J6b (BS (pv 0) JJ))))),?_⟩
   have ab:∀ x:Int,(if x<0 then -x else x)=(x.natAbs:Int):=fun x=>by split<;>omega
   refine J2r (fun σ H'=>H'=H/\∃ x y:Int,σ=[some (.int x),some (.int y)]/\Int.gcd x y=Int.gcd a b) (fun σ _=>match σ with | [_,some (.int y)]=>y.natAbs|_=>0) ⟨rfl,_,_,rfl,rfl⟩ ?_ ?_
   · rintro σ H' ⟨rfl,x,y,rfl,hg⟩
     walk_at "rd"
     refine J8t (fun h=>?_) (fun h=>?_)
     · have h:y≠0:=J8i h
       walk_at "rd"
       refine ⟨h,?_⟩
       refine ⟨_,_,rfl,⟨rfl,_,_,rfl,by rw [J4x];exact hg⟩,?_⟩
       show (x.fmod y).natAbs<y.natAbs
       exact Q7q h
     · have h:y=0:=J8j h
       walk_at "rd"
       subst h
       have e:((Int.gcd a b:Nat):Int)=(if x<0 then -x else x):=by rw [<- hg,Int.gcd_zero_right,ab]
       rw [e] at k
       exact k
   · rintro σ H' Q1 Q2 hq ⟨v,e1,e2,k',e4,q⟩
     exact ⟨v,e1,e2,k',e4,hq _ _ q⟩
theorem TU:∀ vs H Q E,(J8 K BT J6s) vs H Q E->YW vs H Q E:=by
 rintro vs H Q E ⟨M,b,ds,P,Ed,⟨x,y,rfl,hP⟩,⟨v,r,rfl,h1,u,r',rfl,h2,h3⟩,ho,hb,hd,hq,hx⟩
 cases (show _=_ from h1)
 cases (show _=_ from h2)
 cases (show _=_ from h3)
 exact ⟨x,y,rfl,hq _ _ H hP rfl (Kp.refl _ _) ho⟩
theorem UR {f:Addr} (F:Fun K "_law_gcd" "_law_gcd" GP f fd) (Z:Bi mg) {c:Cs} (Y:Ex K mg base c):FnOk P w K mg base CX0 1 f fd ["_law_one","_law_other"] (J8 K BT J6s):=FnOk.imp (SE F Z Y) TU
abbrev WN:Stmt:=top 7
theorem J7k:FnScope ["number"] ["number"] (J3 WN):=⟨rfl,rfl,rfl,by decide +kernel,rfl,by decide +kernel,by decide +kernel⟩
def sgn (n:Int):Int:=if 0<n then 1 else if n<0 then -1 else 0
def YL:DSp:=fun ds P _=>∃ n:Int,ds=[.int n]/\P (.int (sgn n))
theorem J8f {f:Addr} (F:Fun K "sign" "sign" WN f fd) (Z:Bi mg) {c:Cs} (Y:Ex K mg base c):FnOk P w K mg base CX0 1 f fd ["number"] (J8 K BT YL):=by
 refine F.okD J7k (fun ds PP Ed h=>?_) (fun cdv A outer s H E M bg ds PP Ed hr hS_=>?_)
 · obtain ⟨n,rfl,hP⟩:=h
   rfl
 · obtain ⟨n,rfl,hP⟩:=hS_
   refine ⟨_,(J4 (Z3 (Y3 J3t CT (jdv 0) J5 (V7 _)) (J7 (V2 J5)) Y0)
    (J4 (Z3 (Y3 GC CT (jdv 0) J5 (V7 _)) (J7 (V2 (HC J5))) Y0)
    (J7 (V2 J5)))),?_⟩
   unfold sgn at hP
   walk_at "g"
   walk_at "sp"
   · rename_i h;rw [if_pos h] at hP;exact hP
   · rename_i h
     rw [if_neg h] at hP
     walk_at "g"
     walk_at "sp"
     · rename_i h';rw [if_pos h'] at hP;exact hP
     · rename_i h';rw [if_neg h'] at hP;exact hP
abbrev FV:Stmt:=top 9
theorem NP:FnScope ["a","b","c"] ["a","b","c"] (J3 FV):=⟨rfl,rfl,rfl,by decide +kernel,rfl,by decide +kernel,by decide +kernel⟩
def det (a0 a1 a2 b0 b1 b2 c0 c1 c2:Int):Int:=a0*(b1*c2 - b2*c1) - a1*(b0*c2 - b2*c0)+a2*(b0*c1 - b1*c0)
def J6t:DSp:=fun ds P _=>∃ (a0 a1 a2 b0 b1 b2 c0 c1 c2:Int),ds=[t3 a0 a1 a2,t3 b0 b1 b2,t3 c0 c1 c2]/\(Bd 2000 a0/\Bd 2000 a1/\Bd 2000 a2)/\(Bd 2000 b0/\Bd 2000 b1/\Bd 2000 b2)/\(Bd 2000 c0/\Bd 2000 c1/\Bd 2000 c2)/\P (.int (det a0 a1 a2 b0 b1 b2 c0 c1 c2))
theorem NZ {f:Addr} (F:Fun K "determinant" "determinant" FV f fd) (Z:Bi mg) {c:Cs} (Y:Ex K mg base c):FnOk P w K mg base CX0 1 f fd ["a","b","c"] (J8 K BT J6t):=by
 refine F.okD NP (fun ds PP Ed h=>?_) (fun cdv A outer s H E M bg ds PP Ed hr hS_=>?_)
 · obtain ⟨a0,a1,a2,b0,b1,b2,c0,c1,c2,rfl,⟨p0,p1,p2⟩,⟨q0,q1,q2⟩,⟨r0,r1,r2⟩,hP⟩:=h
   rfl
 · obtain ⟨a0,a1,a2,b0,b1,b2,c0,c1,c2,rfl,⟨p0,p1,p2⟩,⟨q0,q1,q2⟩,⟨r0,r1,r2⟩,hP⟩:=hS_
   refine ⟨_,(J7 (V2 (Q4 AS Y8 (Q4 AR Y8 (Q4 Y5 CH (Q8 (Q9 K (by rfl)) V9 (jdv 0) J5 (fun _ _=>rfl)) (Q4 AR Y8 (Q4 Y5 CH (Q8 (Q9 K (by rfl)) V9 (jdv 1) J5 (fun _ _=>rfl)) (Q8 (Q9 K (by rfl)) V9 (jdv 2) J5 (fun _ _=>rfl))) (Q4 Y5 CH (Q8 (Q9 K (by rfl)) V9 (jdv 1) J5 (fun _ _=>rfl)) (Q8 (Q9 K (by rfl)) V9 (jdv 2) J5 (fun _ _=>rfl))))) (Q4 Y5 CH (Q8 (Q9 K (by rfl)) V9 (jdv 0) J5 (fun _ _=>rfl)) (Q4 AR Y8 (Q4 Y5 CH (Q8 (Q9 K (by rfl)) V9 (jdv 1) J5 (fun _ _=>rfl)) (Q8 (Q9 K (by rfl)) V9 (jdv 2) J5 (fun _ _=>rfl))) (Q4 Y5 CH (Q8 (Q9 K (by rfl)) V9 (jdv 1) J5 (fun _ _=>rfl)) (Q8 (Q9 K (by rfl)) V9 (jdv 2) J5 (fun _ _=>rfl)))))) (Q4 Y5 CH (Q8 (Q9 K (by rfl)) V9 (jdv 0) J5 (fun _ _=>rfl)) (Q4 AR Y8 (Q4 Y5 CH (Q8 (Q9 K (by rfl)) V9 (jdv 1) J5 (fun _ _=>rfl)) (Q8 (Q9 K (by rfl)) V9 (jdv 2) J5 (fun _ _=>rfl))) (Q4 Y5 CH (Q8 (Q9 K (by rfl)) V9 (jdv 1) J5 (fun _ _=>rfl)) (Q8 (Q9 K (by rfl)) V9 (jdv 2) J5 (fun _ _=>rfl)))))))),?_⟩
   walk_at "g"
   exact hP
abbrev JD:Stmt:=top 17
theorem UB:FnScope ["a"] ["a"] (J3 JD):=⟨rfl,rfl,rfl,by decide +kernel,rfl,by decide +kernel,by decide +kernel⟩
def JR:DSp:=fun ds P _=>∃ (x y z w:Int),ds=[sp4 x y z w]/\P (t3 x y w)
theorem UO {f:Addr} (F:Fun K "on_board" "on_board" JD f fd) (Z:Bi mg) {c:Cs} (Y:Ex K mg base c):FnOk P w K mg base CX0 1 f fd ["a"] (J8 K BT JR):=by
 refine F.okD UB (fun ds PP Ed h=>?_) (fun cdv A outer s H E M bg ds PP Ed hr hS_=>?_)
 · obtain ⟨x,y,z,w,rfl,hP⟩:=h
   rfl
 · obtain ⟨x,y,z,w,rfl,hP⟩:=hS_
   refine ⟨_,(J7 (V2 (Z9 (J0 (Q8 (Q9 K (by rfl)) V9 (jdv 0) J5 (fun _ _=>rfl)) (J0 (Q8 (Q9 K (by rfl)) V9 (jdv 0) J5 (fun _ _=>rfl)) (J0 (Q8 (Q9 K (by rfl)) V9 (jdv 0) J5 (fun _ _=>rfl)) J1)))))),?_⟩
   walk_at "g"
   exact hP
structure T3 where
 ax:Int
 ay:Int
 az:Int
 aw:Int
 bx:Int
 b_y:Int
 bz:Int
 bw:Int
 cx:Int
 cy:Int
 cz:Int
 cw:Int
structure T3.ok (t:T3)(n:Nat):Prop where
 ax:Bd n t.ax
 ay:Bd n t.ay
 az:Bd n t.az
 aw:Bd n t.aw
 bx:Bd n t.bx
 b_y:Bd n t.b_y
 bz:Bd n t.bz
 bw:Bd n t.bw
 cx:Bd n t.cx
 cy:Bd n t.cy
 cz:Bd n t.cz
 cw:Bd n t.cw
abbrev T3.d (t:T3):D:=.tup [sp4 t.ax t.ay t.az t.aw,sp4 t.bx t.b_y t.bz t.bw,sp4 t.cx t.cy t.cz t.cw]
def T3.tn (t:T3):Int:=det t.ax t.ay t.aw t.bx t.b_y t.bw t.cx t.cy t.cw
def T3.wA (t:T3)(px py:Int):Int:=det t.bx t.b_y t.bw t.cx t.cy t.cw px py 1
def T3.wB (t:T3)(px py:Int):Int:=det t.cx t.cy t.cw t.ax t.ay t.aw px py 1
def T3.wC (t:T3)(px py:Int):Int:=det t.ax t.ay t.aw t.bx t.b_y t.bw px py 1
def T3.top (t:T3)(px py:Int):Int:=t.wA px py*t.az+t.wB px py*t.bz+t.wC px py*t.cz
theorem SN {n:Nat}{a0 a1 a2 b0 b1 b2 c0 c1 c2:Int}(h0:Bd n a0)(h1:Bd n a1)(h2:Bd n a2)(h3:Bd n b0)(h4:Bd n b1)(h5:Bd n b2)(h6:Bd n c0)(h7:Bd n c1)(h8:Bd n c2):Bd (3*n+5) (det a0 a1 a2 b0 b1 b2 c0 c1 c2):=by
 unfold det
 have e1:=Bd.mul h0 (Bd.sub (Bd.mul h4 h8) (Bd.mul h5 h7))
 have e2:=Bd.mul h1 (Bd.sub (Bd.mul h3 h8) (Bd.mul h5 h6))
 have e3:=Bd.mul h2 (Bd.sub (Bd.mul h3 h7) (Bd.mul h4 h6))
 exact (Bd.add (Bd.sub e1 e2) e3).mono (by omega)
theorem bd1 {n:Nat}(h:3<=n):Bd n 1:=(Bd.of (by decide) (by decide):Bd 3 1).mono h
abbrev FU:Stmt:=top 18
theorem NO:FnScope ["a","b","dot"] ["a","b","dot"] (J3 FU):=⟨rfl,rfl,rfl,by decide +kernel,rfl,by decide +kernel,by decide +kernel⟩
def TL:DSp:=fun ds P _=>∃ (ax ay az aw bx b_y bz bw px py:Int),ds=[sp4 ax ay az aw,sp4 bx b_y bz bw,t2 px py]/\(Bd 2000 ax/\Bd 2000 ay/\Bd 2000 aw)/\(Bd 2000 bx/\Bd 2000 b_y/\Bd 2000 bw)/\(Bd 2000 px/\Bd 2000 py)/\P (.int (det ax ay aw bx b_y bw px py 1))
structure C_side_number (P:Program)(w:World)(K:Fg)(mg:Str->Option Value)(base:Heap)(c:Cs):Prop where
 determinant_:Callee P w K mg base CX0 "determinant" 1 ["a","b","c"] (J8 K BT J6t)
 on_board_:Callee P w K mg base CX0 "on_board" 1 ["a"] (J8 K BT JR)
theorem NY {f:Addr} (F:Fun K "side_number" "side_number" FU f fd) (Z:Bi mg) {c:Cs} (Y:Ex K mg base c) (G:C_side_number P w K mg base c):FnOk P w K mg base CX0 2 f fd ["a","b","dot"] (J8 K BT TL):=by
 refine F.okD NO (fun ds PP Ed h=>?_) (fun cdv A outer s H E M bg ds PP Ed hr hS_=>?_)
 · obtain ⟨ax,ay,az,aw,bx,b_y,bz,bw,px,py,rfl,h1,h2,⟨h3,h4⟩,hP⟩:=h
   rfl
 · obtain ⟨ax,ay,az,aw,bx,b_y,bz,bw,px,py,rfl,h1,h2,⟨h3,h4⟩,hP⟩:=hS_
   refine ⟨_,(J7 (V2 (J9 G.determinant_ hr.m rfl (J0 (J9 G.on_board_ hr.m rfl (J0 (jdv 0) J1)) (J0 (J9 G.on_board_ hr.m rfl (J0 (jdv 1) J1)) (J0 (Z9 (J0 (Q8 (Q9 K (by rfl)) V9 (jdv 2) J5 (fun _ _=>rfl)) (J0 (Q8 (Q9 K (by rfl)) V9 (jdv 2) J5 (fun _ _=>rfl)) (J0 J5 J1)))) J1)))))),?_⟩
   walk_at "g"
   refine ⟨_,_,_,_,rfl,?_⟩
   walk_at "g"
   refine ⟨_,_,_,_,rfl,?_⟩
   walk_at "g"
   exact ⟨_,_,_,_,_,_,_,_,_,rfl,h1,h2,⟨h3,h4,bd1 (by decide)⟩,hP⟩
abbrev WM:Stmt:=top 24
theorem GK:FnScope ["face","a","b","c"] ["face"] (J3 WM):=⟨rfl,rfl,rfl,by decide +kernel,rfl,by decide +kernel,by decide +kernel⟩
def YJ:DSp:=fun ds P _=>∃ (t:T3) (n:Nat),ds=[t.d]/\t.ok n/\n<=2000/\P (.int t.tn)
structure C_turn (P:Program)(w:World)(K:Fg)(mg:Str->Option Value)(base:Heap)(c:Cs):Prop where
 determinant_:Callee P w K mg base CX0 "determinant" 1 ["a","b","c"] (J8 K BT J6t)
 on_board_:Callee P w K mg base CX0 "on_board" 1 ["a"] (J8 K BT JR)
theorem J8e {f:Addr} (F:Fun K "turn" "turn" WM f fd) (Z:Bi mg) {c:Cs} (Y:Ex K mg base c) (G:C_turn P w K mg base c):FnOk P w K mg base CX0 2 f fd ["face"] (J8 K BT YJ):=by
 refine F.okD GK (fun ds PP Ed h=>?_) (fun cdv A outer s H E M bg ds PP Ed hr hS_=>?_)
 · obtain ⟨t,n,rfl,ok,hn,hP⟩:=h
   rfl
 · obtain ⟨t,n,rfl,ok,hn,hP⟩:=hS_
   refine ⟨_,(J4 (CM (BR [1,2,3]) (jdv 0) (PG.or (AV (n:=3) K (by rfl) (by rfl) (J6 (pg_name (i:=1) GK.nd rfl (by walk_at "o")) (J6 (pg_name (i:=2) GK.nd rfl (by walk_at "o")) (J6 (pg_name (i:=3) GK.nd rfl (by walk_at "o")) Y1)))) (AW (n:=3) K (by rfl) (by rfl) (J6 (pg_name (i:=1) GK.nd rfl (by walk_at "o")) (J6 (pg_name (i:=2) GK.nd rfl (by walk_at "o")) (J6 (pg_name (i:=3) GK.nd rfl (by walk_at "o")) Y1))))))
    (J7 (V2 (J9 G.determinant_ hr.m rfl (J0 (J9 G.on_board_ hr.m rfl (J0 (jdv 1) J1)) (J0 (J9 G.on_board_ hr.m rfl (J0 (jdv 2) J1)) (J0 (J9 G.on_board_ hr.m rfl (J0 (jdv 3) J1)) J1))))))),?_⟩
   walk_at "g"
   refine ⟨_,_,_,_,rfl,?_⟩
   walk_at "g"
   refine ⟨_,_,_,_,rfl,?_⟩
   walk_at "g"
   refine ⟨_,_,_,_,rfl,?_⟩
   walk_at "g"
   exact ⟨_,_,_,_,_,_,_,_,_,rfl,⟨ok.ax.mono hn,ok.ay.mono hn,ok.aw.mono hn⟩,⟨ok.bx.mono hn,ok.b_y.mono hn,ok.bw.mono hn⟩,⟨ok.cx.mono hn,ok.cy.mono hn,ok.cw.mono hn⟩,hP⟩
abbrev LD:Stmt:=top 26
theorem CN:FnScope ["face","dot","a","b","c"] ["face","dot"] (J3 LD):=⟨rfl,rfl,rfl,by decide +kernel,rfl,by decide +kernel,by decide +kernel⟩
def RP:DSp:=fun ds P _=>∃ (t:T3) (px py:Int) (n:Nat),ds=[t.d,t2 px py]/\t.ok n/\Bd n px/\Bd n py/\n<=2000/\P (t3 (t.wA px py) (t.wB px py) (t.wC px py))
structure C_weights (P:Program)(w:World)(K:Fg)(mg:Str->Option Value)(base:Heap)(c:Cs):Prop where
 side_number_:Callee P w K mg base CX0 "side_number" 2 ["a","b","dot"] (J8 K BT TL)
theorem XA {f:Addr} (F:Fun K "weights" "weights" LD f fd) (Z:Bi mg) {c:Cs} (Y:Ex K mg base c) (G:C_weights P w K mg base c):FnOk P w K mg base CX0 3 f fd ["face","dot"] (J8 K BT RP):=by
 refine F.okD CN (fun ds PP Ed h=>?_) (fun cdv A outer s H E M bg ds PP Ed hr hS_=>?_)
 · obtain ⟨t,px,py,n,rfl,ok,hx,hy,hn,hP⟩:=h
   rfl
 · obtain ⟨t,px,py,n,rfl,ok,hx,hy,hn,hP⟩:=hS_
   refine ⟨_,(J4 (CM (BR [2,3,4]) (jdv 0) (PG.or (AV (n:=3) K (by rfl) (by rfl) (J6 (pg_name (i:=2) CN.nd rfl (by walk_at "o")) (J6 (pg_name (i:=3) CN.nd rfl (by walk_at "o")) (J6 (pg_name (i:=4) CN.nd rfl (by walk_at "o")) Y1)))) (AW (n:=3) K (by rfl) (by rfl) (J6 (pg_name (i:=2) CN.nd rfl (by walk_at "o")) (J6 (pg_name (i:=3) CN.nd rfl (by walk_at "o")) (J6 (pg_name (i:=4) CN.nd rfl (by walk_at "o")) Y1))))))
    (J7 (V2 (Z9 (J0 (J9 G.side_number_ hr.m rfl (J0 (jdv 3) (J0 (jdv 4) (J0 (jdv 1) J1)))) (J0 (J9 G.side_number_ hr.m rfl (J0 (jdv 4) (J0 (jdv 2) (J0 (jdv 1) J1)))) (J0 (J9 G.side_number_ hr.m rfl (J0 (jdv 2) (J0 (jdv 3) (J0 (jdv 1) J1)))) J1))))))),?_⟩
   walk_at "g"
   refine ⟨_,_,_,_,_,_,_,_,_,_,rfl,⟨ok.bx.mono hn,ok.b_y.mono hn,ok.bw.mono hn⟩,⟨ok.cx.mono hn,ok.cy.mono hn,ok.cw.mono hn⟩,⟨hx.mono hn,hy.mono hn⟩,?_⟩
   walk_at "g"
   refine ⟨_,_,_,_,_,_,_,_,_,_,rfl,⟨ok.cx.mono hn,ok.cy.mono hn,ok.cw.mono hn⟩,⟨ok.ax.mono hn,ok.ay.mono hn,ok.aw.mono hn⟩,⟨hx.mono hn,hy.mono hn⟩,?_⟩
   walk_at "g"
   refine ⟨_,_,_,_,_,_,_,_,_,_,rfl,⟨ok.ax.mono hn,ok.ay.mono hn,ok.aw.mono hn⟩,⟨ok.bx.mono hn,ok.b_y.mono hn,ok.bw.mono hn⟩,⟨hx.mono hn,hy.mono hn⟩,?_⟩
   walk_at "g"
   exact hP
abbrev AN:Stmt:=top 8
theorem KA:FnScope ["one","other"] ["one","other"] (J3 AN):=⟨rfl,rfl,rfl,by decide +kernel,rfl,by decide +kernel,by decide +kernel⟩
def J6l:DSp:=fun ds P _=>∃ (a b c x y z:Int),ds=[t3 a b c,.lst [.int x,.int y,.int z]]/\(Bd 7000 a/\Bd 7000 b/\Bd 7000 c)/\(Bd 2000 x/\Bd 2000 y/\Bd 2000 z)/\P (.int (a*x+b*y+c*z))
theorem KH {f:Addr} (F:Fun K "products_added" "products_added" AN f fd) (Z:Bi mg) {c:Cs} (Y:Ex K mg base c):FnOk P w K mg base CX0 1 f fd ["one","other"] (J8 K BT J6l):=by
 refine F.okD KA (fun ds PP Ed h=>?_) (fun cdv A outer s H E M bg ds PP Ed hr hS_=>?_)
 · obtain ⟨a,b,c,x,y,z,rfl,⟨h1,h2,h3⟩,⟨k1,k2,k3⟩,hP⟩:=h
   rfl
 · obtain ⟨a,b,c,x,y,z,rfl,⟨h1,h2,h3⟩,⟨k1,k2,k3⟩,hP⟩:=hS_
   refine ⟨_,(J7 (V2 (Q5 (J2l K (by rfl) (by rfl)) Q5d rfl Z.sum_ Q5g (J0 (EA (X:=(V1 CX0 P w K mg base ["one","other"] "products_added" (J3 AN) f cdv A outer s H E).nox) (BR [0,1]) (MG (X:=(V1 CX0 P w K mg base ["one","other"] "products_added" (J3 AN) f cdv A outer s H E).nox) (N':=["first","second"]) (map:=[none,none]) (by rfl) (by rfl) (by decide +kernel) (by rfl) True.intro (gkeep_seq (js:=[0,1]) (by decide)) fun cl0 C0 fp0 s0 H0=>⟨(PG.or (AV (n:=2) K (by rfl) (by rfl) (J6 (pg_name (i:=0) (Z2 ["first","second"] (by decide +kernel)) rfl (by walk_at "o")) (J6 (pg_name (i:=1) (Z2 ["first","second"] (by decide +kernel)) rfl (by walk_at "o")) Y1))) (AW (n:=2) K (by rfl) (by rfl) (J6 (pg_name (i:=0) (Z2 ["first","second"] (by decide +kernel)) rfl (by walk_at "o")) (J6 (pg_name (i:=1) (Z2 ["first","second"] (by decide +kernel)) rfl (by walk_at "o")) Y1)))),AG,(Q4 (X:=(Q0 (V1 CX0 P w K mg base ["one","other"] "products_added" (J3 AN) f cdv A outer s H E).nox ["first","second"] _ cl0 C0 fp0 s0 H0)) Y5 CH (jdv 0) (jdv 1))⟩) (J8q (by rfl) true false rfl Z.zip_ (J0 (jdv 0) (J0 (jdv 1) J1)) (J7w K (by rfl) true false rfl Z.zip_ (JA.h (J0 (jdv 0) (J0 (jdv 1) J1)))))) J1)))),?_⟩
   walk_at "g"
   walk_at "gc"
   have e:[a*x,b*y,c*z].sum=a*x+b*y+c*z:=by simp only [List.sum_cons,List.sum_nil];omega
   rw [<- e] at hP
   exact hP
theorem T3.tn_bd {t:T3}{n:Nat}(ok:t.ok n):Bd (3*n+5) t.tn:=SN ok.ax ok.ay ok.aw ok.bx ok.b_y ok.bw ok.cx ok.cy ok.cw
theorem T3.wA_bd {t:T3}{n:Nat}{px py:Int}(ok:t.ok n)(hx:Bd n px)(hy:Bd n py)(h3:3<=n):Bd (3*n+5) (t.wA px py):=SN ok.bx ok.b_y ok.bw ok.cx ok.cy ok.cw hx hy (bd1 h3)
theorem T3.wB_bd {t:T3}{n:Nat}{px py:Int}(ok:t.ok n)(hx:Bd n px)(hy:Bd n py)(h3:3<=n):Bd (3*n+5) (t.wB px py):=SN ok.cx ok.cy ok.cw ok.ax ok.ay ok.aw hx hy (bd1 h3)
theorem T3.wC_bd {t:T3}{n:Nat}{px py:Int}(ok:t.ok n)(hx:Bd n px)(hy:Bd n py)(h3:3<=n):Bd (3*n+5) (t.wC px py):=SN ok.ax ok.ay ok.aw ok.bx ok.b_y ok.bw hx hy (bd1 h3)
theorem T3.top_bd {t:T3}{n:Nat}{px py:Int}(ok:t.ok n)(hx:Bd n px)(hy:Bd n py)(h3:3<=n):Bd (4*n+8) (t.top px py) :=
 (Bd.add (Bd.add (Bd.mul (T3.wA_bd ok hx hy h3) ok.az) (Bd.mul (T3.wB_bd ok hx hy h3) ok.bz)) (Bd.mul (T3.wC_bd ok hx hy h3) ok.cz)).mono (by omega)
theorem sgn_bd (n:Int):Bd 3 (sgn n):=by
 unfold sgn
 split
 · exact Bd.of (by decide) (by decide)
 · split<;>exact Bd.of (by decide) (by decide)
abbrev DL (i:Int):Int:=if i<0 then -i else i
theorem Q0g {n:Nat}{i:Int}(h:Bd n i):Bd n (DL i):=by
 unfold DL
 split
 · exact h.neg
 · exact h
abbrev Z7:Stmt:=top 27
theorem CO:FnScope ["face","dot","whole","top"] ["face","dot"] (J3 Z7):=⟨rfl,rfl,rfl,by decide +kernel,rfl,by decide +kernel,by decide +kernel⟩
def Q0h (c:Cs):DSp:=fun ds P Ed=>∃ (t:T3) (px py:Int) (n:Nat),ds=[t.d,t2 px py]/\t.ok n/\Bd n px/\Bd n py/\3<=n/\n<=1000/\(t.tn=0->Ed c.NoFace)/\(t.tn≠0->P (t2 (t.top px py*sgn t.tn) (DL t.tn)))
structure C_unreduced_depth (P:Program)(w:World)(K:Fg)(mg:Str->Option Value)(base:Heap)(c:Cs):Prop where
 turn_:Callee P w K mg base CX0 "turn" 2 ["face"] (J8 K BT YJ)
 products_added_:Callee P w K mg base CX0 "products_added" 1 ["one","other"] (J8 K BT J6l)
 weights_:Callee P w K mg base CX0 "weights" 3 ["face","dot"] (J8 K BT RP)
 sign_:Callee P w K mg base CX0 "sign" 1 ["number"] (J8 K BT YL)
theorem JL {f:Addr} (F:Fun K "unreduced_depth" "unreduced_depth" Z7 f fd) (Z:Bi mg) {c:Cs} (Y:Ex K mg base c) (G:C_unreduced_depth P w K mg base c):FnOk P w K mg base (CX1 P w base) 4 f fd ["face","dot"] (J8 K BT (Q0h c)):=by
 refine F.okDX CO (fun ds PP Ed h=>?_) (fun cdv A outer s H E M bg ds PP Ed hr hE hS_=>?_)
 · obtain ⟨t,px,py,n,rfl,ok,hx,hy,h3,hn,h0,h1⟩:=h
   rfl
 · obtain ⟨t,px,py,n,rfl,ok,hx,hy,h3,hn,h0,h1⟩:=hS_
   refine ⟨_,(J4 (V0 (i:=2) CO.nd rfl (by walk_at "o") (J9 G.turn_ hr.m rfl (J0 (jdv 0) J1)))
    (J4 (Z3 (Y3 FJ DC (jdv 2) J5 (V7 _)) (J7 (LU hE (LL Y.o_NoFace rfl))) Y0)
    (J4 (V0 (i:=3) CO.nd rfl (by walk_at "o") (J9 G.products_added_ hr.m rfl (J0 (J9 G.weights_ hr.m rfl (J0 (jdv 0) (J0 (jdv 1) J1))) (J0 (EA (X:=(V1 (CX1 P w base) P w K mg base ["face","dot","whole","top"] "unreduced_depth" (J3 Z7) f cdv A outer s H E)) (V4 0) (MG (X:=(V1 (CX1 P w base) P w K mg base ["face","dot","whole","top"] "unreduced_depth" (J3 Z7) f cdv A outer s H E)) (N':=["corner"]) (map:=[none]) (by rfl) (by rfl) (by decide +kernel) (by rfl) True.intro (gkeep_name rfl) fun cl0 C0 fp0 s0 H0=>⟨(pg_name (X:=(Q0 (V1 (CX1 P w base) P w K mg base ["face","dot","whole","top"] "unreduced_depth" (J3 Z7) f cdv A outer s H E) ["corner"] _ cl0 C0 fp0 s0 H0)) (i:=0) (Z2 ["corner"] (by decide +kernel)) rfl (by walk_at "o")),AG,(Q8 (X:=(Q0 (V1 (CX1 P w base) P w K mg base ["face","dot","whole","top"] "unreduced_depth" (J3 Z7) f cdv A outer s H E) ["corner"] _ cl0 C0 fp0 s0 H0)) (Q9 K (by rfl)) V9 (jdv 0) J5 (fun _ _=>rfl))⟩) (Z5 (by rfl) (jdv 0))) J1))))
    (J7 (V2 (Z9 (J0 (Q4 Y5 CH (jdv 3) (J9 G.sign_ hr.m rfl (J0 (jdv 2) J1))) (J0 (Q5 VX Q5e rfl Z.abs_ J6b (J0 (jdv 2) J1)) J1)))))))),?_⟩
   walk_at "g"
   refine ⟨t,n,rfl,ok,by omega,?_⟩
   walk_at "g"
   walk_at "sp"
   · rename_i z
     exact h0 z
   · rename_i z
     walk_at "g"
     refine ⟨t,px,py,n,rfl,ok,hx,hy,by omega,?_⟩
     walk_at "g"
     walk_at "gc"
     have m:=Nat.le_trans (show 3*n+5<=3005 by omega) (by decide:3005<=7000)
     refine ⟨_,_,_,_,_,_,rfl,⟨(T3.wA_bd ok hx hy h3).mono m,(T3.wB_bd ok hx hy h3).mono m,(T3.wC_bd ok hx hy h3).mono m⟩,⟨ok.az.mono (by omega),ok.bz.mono (by omega),ok.cz.mono (by omega)⟩,?_⟩
     walk_at "g"
     refine ⟨_,rfl,?_⟩
     walk_at "g"
     refine And.intro (Or.inl ⟨_,_,T3.top_bd ok hx hy h3,sgn_bd _,by omega⟩) ?_
     walk_at "g"
     exact h1 z
abbrev NS:Stmt:=top 19
theorem J0w:FnScope ["a","b"] ["a","b"] (J3 NS):=⟨rfl,rfl,rfl,by decide +kernel,rfl,by decide +kernel,by decide +kernel⟩
def WA:DSp:=fun ds P _=>∃ (ax ay az aw bx b_y bz bw:Int),ds=[sp4 ax ay az aw,sp4 bx b_y bz bw]/\(Bd 2000 ay/\Bd 2000 aw)/\(Bd 2000 b_y/\Bd 2000 bw)/\P (.int (ay*bw - aw*b_y))
theorem J1k {f:Addr} (F:Fun K "growth" "growth" NS f fd) (Z:Bi mg) {c:Cs} (Y:Ex K mg base c):FnOk P w K mg base CX0 1 f fd ["a","b"] (J8 K BT WA):=by
 refine F.okD J0w (fun ds PP Ed h=>?_) (fun cdv A outer s H E M bg ds PP Ed hr hS_=>?_)
 · obtain ⟨ax,ay,az,aw,bx,b_y,bz,bw,rfl,⟨h1,h2⟩,⟨h3,h4⟩,hP⟩:=h
   rfl
 · obtain ⟨ax,ay,az,aw,bx,b_y,bz,bw,rfl,⟨h1,h2⟩,⟨h3,h4⟩,hP⟩:=hS_
   refine ⟨_,(J7 (V2 (Q4 AR Y8 (Q4 Y5 CH (Q8 (Q9 K (by rfl)) V9 (jdv 0) J5 (fun _ _=>rfl)) (Q8 (Q9 K (by rfl)) V9 (jdv 1) J5 (fun _ _=>rfl))) (Q4 Y5 CH (Q8 (Q9 K (by rfl)) V9 (jdv 0) J5 (fun _ _=>rfl)) (Q8 (Q9 K (by rfl)) V9 (jdv 1) J5 (fun _ _=>rfl)))))),?_⟩
   walk_at "g"
   exact hP
abbrev EU:Stmt:=top 20
theorem CJ:FnScope ["a","b","dot","number"] ["a","b","dot"] (J3 EU):=⟨rfl,rfl,rfl,by decide +kernel,rfl,by decide +kernel,by decide +kernel⟩
def shd (ax ay aw bx b_y bw px py:Int):Int:=if det ax ay aw bx b_y bw px py 1=0 then (if ay*bw - aw*b_y=0 then aw*bx - ax*bw else ay*bw - aw*b_y) else det ax ay aw bx b_y bw px py 1
def Q1l:DSp:=fun ds P _=>∃ (ax ay az aw bx b_y bz bw px py:Int),ds=[sp4 ax ay az aw,sp4 bx b_y bz bw,t2 px py]/\(Bd 2000 ax/\Bd 2000 ay/\Bd 2000 aw)/\(Bd 2000 bx/\Bd 2000 b_y/\Bd 2000 bw)/\(Bd 2000 px/\Bd 2000 py)/\P (.int (sgn (shd ax ay aw bx b_y bw px py)))
structure C_shifted_side (P:Program)(w:World)(K:Fg)(mg:Str->Option Value)(base:Heap)(c:Cs):Prop where
 side_number_:Callee P w K mg base CX0 "side_number" 2 ["a","b","dot"] (J8 K BT TL)
 sign_:Callee P w K mg base CX0 "sign" 1 ["number"] (J8 K BT YL)
 growth_:Callee P w K mg base CX0 "growth" 1 ["a","b"] (J8 K BT WA)
theorem MT {f:Addr} (F:Fun K "shifted_side" "shifted_side" EU f fd) (Z:Bi mg) {c:Cs} (Y:Ex K mg base c) (G:C_shifted_side P w K mg base c):FnOk P w K mg base CX0 3 f fd ["a","b","dot"] (J8 K BT Q1l):=by
 refine F.okD CJ (fun ds PP Ed h=>?_) (fun cdv A outer s H E M bg ds PP Ed hr hS_=>?_)
 · obtain ⟨ax,ay,az,aw,bx,b_y,bz,bw,px,py,rfl,⟨a1,a2,a3⟩,⟨b1,b2,b3⟩,⟨h3,h4⟩,hP⟩:=h
   rfl
 · obtain ⟨ax,ay,az,aw,bx,b_y,bz,bw,px,py,rfl,⟨a1,a2,a3⟩,⟨b1,b2,b3⟩,⟨h3,h4⟩,hP⟩:=hS_
   refine ⟨_,(J4 (V0 (i:=3) CJ.nd rfl (by walk_at "o") (J9 G.side_number_ hr.m rfl (J0 (jdv 0) (J0 (jdv 1) (J0 (jdv 2) J1)))))
    (J4 (Z3 (Y3 FJ DC (jdv 3) J5 (V7 _)) (J7 (V0 (i:=3) CJ.nd rfl (by walk_at "o") (J9 G.growth_ hr.m rfl (J0 (jdv 0) (J0 (jdv 1) J1))))) Y0)
    (J4 (Z3 (Y3 FJ DC (jdv 3) J5 (V7 _)) (J7 (V0 (i:=3) CJ.nd rfl (by walk_at "o") (Q4 AR Y8 (Q4 Y5 CH (Q8 (Q9 K (by rfl)) V9 (jdv 0) J5 (fun _ _=>rfl)) (Q8 (Q9 K (by rfl)) V9 (jdv 1) J5 (fun _ _=>rfl))) (Q4 Y5 CH (Q8 (Q9 K (by rfl)) V9 (jdv 0) J5 (fun _ _=>rfl)) (Q8 (Q9 K (by rfl)) V9 (jdv 1) J5 (fun _ _=>rfl)))))) Y0)
    (J7 (V2 (J9 G.sign_ hr.m rfl (J0 (jdv 3) J1))))))),?_⟩
   walk_at "g"
   refine ⟨ax,ay,az,aw,bx,b_y,bz,bw,px,py,rfl,⟨a1,a2,a3⟩,⟨b1,b2,b3⟩,⟨h3,h4⟩,?_⟩
   walk_at "g"
   walk_at "sp"
   · rename_i z
     walk_at "g"
     refine ⟨ax,ay,az,aw,bx,b_y,bz,bw,rfl,⟨a2,a3⟩,⟨b2,b3⟩,?_⟩
     walk_at "g"
     walk_at "sp"
     · rename_i z2
       walk_at "g"
       refine ⟨_,rfl,?_⟩
       have e:shd ax ay aw bx b_y bw px py=aw*bx - ax*bw:=by unfold shd;rw [if_pos z,if_pos z2]
       rw [e] at hP
       exact hP
     · rename_i z2
       walk_at "g"
       refine ⟨_,rfl,?_⟩
       have e:shd ax ay aw bx b_y bw px py=ay*bw - aw*b_y:=by unfold shd;rw [if_pos z,if_neg z2]
       rw [e] at hP
       exact hP
   · rename_i z
     walk_at "g"
     refine IfP.f (by simp [z]) ?_
     walk_at "g"
     refine ⟨_,rfl,?_⟩
     have e:shd ax ay aw bx b_y bw px py=det ax ay aw bx b_y bw px py 1:=by unfold shd;rw [if_neg z]
     rw [e] at hP
     exact hP
abbrev LH:Stmt:=top 22
theorem BX:FnScope ["face","dot","a","b","c","first"] ["face","dot"] (J3 LH):=⟨rfl,rfl,rfl,by decide +kernel,rfl,by decide +kernel,by decide +kernel⟩
def T3.s1 (t:T3)(px py:Int):Int:=sgn (shd t.ax t.ay t.aw t.bx t.b_y t.bw px py)
def T3.s2 (t:T3)(px py:Int):Int:=sgn (shd t.bx t.b_y t.bw t.cx t.cy t.cw px py)
def T3.s3 (t:T3)(px py:Int):Int:=sgn (shd t.cx t.cy t.cw t.ax t.ay t.aw px py)
def T3.has (t:T3)(px py:Int):Prop:=t.s1 px py≠0/\t.s2 px py=t.s1 px py/\t.s3 px py=t.s1 px py
instance (t:T3) (px py:Int):Decidable (t.has px py):=inferInstanceAs (Decidable (_/\_/\_))
def KZ:DSp:=fun ds P _=>∃ (t:T3) (px py:Int) (n:Nat),ds=[t.d,t2 px py]/\t.ok n/\Bd n px/\Bd n py/\n<=2000/\P (.bl (decide (t.has px py)))
structure C_has_dot (P:Program)(w:World)(K:Fg)(mg:Str->Option Value)(base:Heap)(c:Cs):Prop where
 shifted_side_:Callee P w K mg base CX0 "shifted_side" 3 ["a","b","dot"] (J8 K BT Q1l)
theorem XE {f:Addr} (F:Fun K "has_dot" "has_dot" LH f fd) (Z:Bi mg) {c:Cs} (Y:Ex K mg base c) (G:C_has_dot P w K mg base c):FnOk P w K mg base CX0 4 f fd ["face","dot"] (J8 K BT KZ):=by
 refine F.okD BX (fun ds PP Ed h=>?_) (fun cdv A outer s H E M bg ds PP Ed hr hS_=>?_)
 · obtain ⟨t,px,py,n,rfl,ok,hx,hy,hn,hP⟩:=h
   rfl
 · obtain ⟨t,px,py,n,rfl,ok,hx,hy,hn,hP⟩:=hS_
   refine ⟨_,(J4 (CM (BR [2,3,4]) (jdv 0) (PG.or (AV (n:=3) K (by rfl) (by rfl) (J6 (pg_name (i:=2) BX.nd rfl (by walk_at "o")) (J6 (pg_name (i:=3) BX.nd rfl (by walk_at "o")) (J6 (pg_name (i:=4) BX.nd rfl (by walk_at "o")) Y1)))) (AW (n:=3) K (by rfl) (by rfl) (J6 (pg_name (i:=2) BX.nd rfl (by walk_at "o")) (J6 (pg_name (i:=3) BX.nd rfl (by walk_at "o")) (J6 (pg_name (i:=4) BX.nd rfl (by walk_at "o")) Y1))))))
    (J4 (V0 (i:=5) BX.nd rfl (by walk_at "o") (J9 G.shifted_side_ hr.m rfl (J0 (jdv 2) (J0 (jdv 3) (J0 (jdv 1) J1)))))
    (J7 (V2 (IM (DJ J3s J3w (jdv 5) J5 (V7 _)) (IM (DJ FJ DC (J9 G.shifted_side_ hr.m rfl (J0 (jdv 3) (J0 (jdv 4) (J0 (jdv 1) J1)))) (jdv 5) (V7 _)) (IL (DJ FJ DC (J9 G.shifted_side_ hr.m rfl (J0 (jdv 4) (J0 (jdv 2) (J0 (jdv 1) J1)))) (jdv 5) (V7 _))))))))),?_⟩
   walk_at "g"
   refine ⟨_,_,_,_,_,_,_,_,_,_,rfl,⟨ok.ax.mono hn,ok.ay.mono hn,ok.aw.mono hn⟩,⟨ok.bx.mono hn,ok.b_y.mono hn,ok.bw.mono hn⟩,⟨hx.mono hn,hy.mono hn⟩,?_⟩
   walk_at "g"
   have key:∀ b:Bool,(b=true↔t.has px py)->PP (.bl b):=fun b h=>by
    rw [show b=decide (t.has px py) from by rw [Bool.eq_iff_iff,h];simp]
    exact hP
   unfold T3.has T3.s1 T3.s2 T3.s3 at key
   walk_at "sp"
   · rename_i h1
     walk_at "g"
     refine ⟨_,_,_,_,_,_,_,_,_,_,rfl,⟨ok.bx.mono hn,ok.b_y.mono hn,ok.bw.mono hn⟩,⟨ok.cx.mono hn,ok.cy.mono hn,ok.cw.mono hn⟩,⟨hx.mono hn,hy.mono hn⟩,?_⟩
     walk_at "g"
     walk_at "sp"
     · rename_i h2
       walk_at "g"
       refine ⟨_,_,_,_,_,_,_,_,_,_,rfl,⟨ok.cx.mono hn,ok.cy.mono hn,ok.cw.mono hn⟩,⟨ok.ax.mono hn,ok.ay.mono hn,ok.aw.mono hn⟩,⟨hx.mono hn,hy.mono hn⟩,?_⟩
       walk_at "g"
       refine key _ ?_
       simp [h1,h2]
     · rename_i h2
       walk_at "g"
       refine key _ ?_
       simp [h2]
   · rename_i h1
     walk_at "g"
     refine key _ ?_
     simp [h1]
abbrev LG:Stmt:=top 10
theorem WL:FnScope ["one","other"] ["one","other"] (J3 LG):=⟨rfl,rfl,rfl,by decide +kernel,rfl,by decide +kernel,by decide +kernel⟩
def TM:DSp:=fun ds P _=>∃ (a b c e:Int),ds=[t2 a b,t2 c e]/\(Bd 2000 a/\Bd 2000 b)/\(Bd 2000 c/\Bd 2000 e)/\P (.bl (decide (a*e<c*b)))
theorem XD {f:Addr} (F:Fun K "is_less" "is_less" LG f fd) (Z:Bi mg) {c:Cs} (Y:Ex K mg base c):FnOk P w K mg base CX0 1 f fd ["one","other"] (J8 K BT TM):=by
 refine F.okD WL (fun ds PP Ed h=>?_) (fun cdv A outer s H E M bg ds PP Ed hr hS_=>?_)
 · obtain ⟨a,b,c,e,rfl,⟨h1,h2⟩,⟨h3,h4⟩,hP⟩:=h
   rfl
 · obtain ⟨a,b,c,e,rfl,⟨h1,h2⟩,⟨h3,h4⟩,hP⟩:=hS_
   refine ⟨_,(J7 (V2 (DJ GC CT (Q4 Y5 CH (Q8 (Q9 K (by rfl)) V9 (jdv 0) J5 (fun _ _=>rfl)) (Q8 (Q9 K (by rfl)) V9 (jdv 1) J5 (fun _ _=>rfl))) (Q4 Y5 CH (Q8 (Q9 K (by rfl)) V9 (jdv 1) J5 (fun _ _=>rfl)) (Q8 (Q9 K (by rfl)) V9 (jdv 0) J5 (fun _ _=>rfl))) (V7 _)))),?_⟩
   walk_at "g"
   exact hP
theorem J7h {n:Int}(h:0<n):sgn n=1:=by unfold sgn;rw [if_pos h]
theorem J7i {n:Int}(h:n<0):sgn n = -1:=by unfold sgn;rw [if_neg (by omega),if_pos h]
theorem J2z:sgn 0=0:=by decide
theorem DP (n:Int):(0<n/\sgn n=1)\/(n=0/\sgn n=0)\/(n<0/\sgn n = -1):=by
 by_cases h:0<n
 · exact .inl ⟨h,J7h h⟩
 · by_cases h':n<0
   · exact .inr (.inr ⟨h',J7i h'⟩)
   · have:n=0:=by omega
     subst this
     exact .inr (.inl ⟨rfl,J2z⟩)
structure T3.pos (t:T3):Prop where
 a:0<t.aw
 b:0<t.bw
 c:0<t.cw
def T3.nums (t:T3):List Int:=[t.ax,t.ay,t.az,t.aw,t.bx,t.b_y,t.bz,t.bw,t.cx,t.cy,t.cz,t.cw]
def T3.in (t:T3)(M:Int):Prop:=∀ n∈t.nums,(n.natAbs:Int)<=M
theorem T3.sum_det (t:T3)(x y w:Int):t.cw*det t.ax t.ay t.aw t.bx t.b_y t.bw x y w+t.aw*det t.bx t.b_y t.bw t.cx t.cy t.cw x y w+t.bw*det t.cx t.cy t.cw t.ax t.ay t.aw x y w=t.tn*w:=by
 unfold T3.tn det
 grind
theorem J2p {u v w x y z:Int}(pu:0<u)(pv:0<v)(pw:0<w)(hx:0<=x)(hy:0<=y)(hz:0<=z)(s:u*x+v*y+w*z=0):x=0/\y=0/\z=0:=by
 have a:=Int.mul_nonneg (Int.le_of_lt pu) hx
 have b:=Int.mul_nonneg (Int.le_of_lt pv) hy
 have c:=Int.mul_nonneg (Int.le_of_lt pw) hz
 have e1:u*x=0:=by omega
 have e2:v*y=0:=by omega
 have e3:w*z=0:=by omega
 exact ⟨(Int.mul_eq_zero.mp e1).resolve_left (by omega),(Int.mul_eq_zero.mp e2).resolve_left (by omega),(Int.mul_eq_zero.mp e3).resolve_left (by omega)⟩
def IT (a g h:Int):Int:=if a=0 then (if g=0 then h else g) else a
theorem J4f {u v w a b c g1 g2 g3 h1 h2 h3:Int}(pu:0<u)(pv:0<v)(pw:0<w)(sa:u*a+v*b+w*c=0)(sg:u*g1+v*g2+w*g3=0)(sh:u*h1+v*h2+w*h3=0)(l1:0<IT a g1 h1)(l2:0<IT b g2 h2)(l3:0<IT c g3 h3):False:=by
 unfold IT at l1 l2 l3
 obtain ⟨rfl,rfl,rfl⟩:=J2p pu pv pw (by split at l1<;>omega) (by split at l2<;>omega) (by split at l3<;>omega) sa
 rw [if_pos rfl] at l1 l2 l3
 obtain ⟨rfl,rfl,rfl⟩:=J2p pu pv pw (by split at l1<;>omega) (by split at l2<;>omega) (by split at l3<;>omega) sg
 rw [if_pos rfl] at l1 l2 l3
 obtain ⟨rfl,rfl,rfl⟩:=J2p pu pv pw (by omega) (by omega) (by omega) sh
 omega
theorem SH (a g h:Int):IT (-a) (-g) (-h) = -IT a g h:=by
 unfold IT
 by_cases z:a=0
 · by_cases y:g=0
   · simp [z,y]
   · simp [z,y]
 · simp [z]
theorem T3.has_tn {t:T3}{px py:Int}(hp:t.pos)(h:t.has px py):t.tn≠0:=by
 intro z
 have sa:=t.sum_det px py 1
 rw [z,Int.zero_mul] at sa
 have sg:t.cw*(t.ay*t.bw - t.aw*t.b_y)+t.aw*(t.b_y*t.cw - t.bw*t.cy)+t.bw*(t.cy*t.aw - t.cw*t.ay)=0:=by grind
 have sh:t.cw*(t.aw*t.bx - t.ax*t.bw)+t.aw*(t.bw*t.cx - t.bx*t.cw)+t.bw*(t.cw*t.ax - t.cx*t.aw)=0:=by grind
 have key:∀ d1 d2 d3 g1 g2 g3 h1 h2 h3:Int,t.cw*d1+t.aw*d2+t.bw*d3=0->t.cw*g1+t.aw*g2+t.bw*g3=0->t.cw*h1+t.aw*h2+t.bw*h3=0->sgn (IT d1 g1 h1)≠0->sgn (IT d2 g2 h2)=sgn (IT d1 g1 h1)->sgn (IT d3 g3 h3)=sgn (IT d1 g1 h1)->False:=fun d1 d2 d3 g1 g2 g3 h1 h2 h3 ea eg eh n1 n2 n3=>by
  have c1:=DP (IT d1 g1 h1)
  have c2:=DP (IT d2 g2 h2)
  have c3:=DP (IT d3 g3 h3)
  by_cases q:0<IT d1 g1 h1
  · exact J4f hp.c hp.a hp.b ea eg eh q (by omega) (by omega)
  · refine J4f (a:=-d1) (b:=-d2) (c:=-d3) (g1:=-g1) (g2:=-g2) (g3:=-g3) (h1:=-h1) (h2:=-h2) (h3:=-h3) hp.c hp.a hp.b ?_ ?_ ?_ (by rw [SH];omega) (by rw [SH];omega) (by rw [SH];omega)<;>(simp only [Int.mul_neg];omega)
 exact key _ _ _ _ _ _ _ _ _ sa sg sh h.1 h.2.1 h.2.2
theorem RY {a b:Nat}(h:∀ i:Nat,i<a↔i<b):a=b:=by
 rcases Nat.lt_trichotomy a b with q|q|q
 · have:=(h a).mpr q;omega
 · exact q
 · have:=(h b).mp q;omega
def Y7 (k:Int)(w:Nat):List Int:=((List.range w).map fun (n:Nat)=>(n:Int)).filter fun x=>decide (x % k=0)
theorem XJ (k:Int)(w:Nat):Y7 k (w+1)=Y7 k w++if (w:Int) % k=0 then [(w:Int)] else []:=by
 unfold Y7
 rw [List.range_succ,List.map_append,List.filter_append]
 congr 1
 by_cases h:(w:Int) % k=0<;>simp [h]
theorem J0y {k:Int}(hk:0<k)(w:Nat):rngN 0 ((w+1:Nat):Int) k=rngN 0 w k+if (w:Int) % k=0 then 1 else 0:=by
 apply RY
 intro i
 rw [RX hk,Int.zero_add]
 split
 · rename_i h
   obtain ⟨q,hq⟩:∃ q:Nat,(w:Int)=q*k:=by
    refine ⟨(w / k).toNat,?_⟩
    have h1:=Int.mul_ediv_add_emod (w:Int) k
    rw [h,Int.add_zero] at h1
    have h2:=Int.ediv_nonneg (show (0:Int)<=w by omega) (show 0<=k by omega)
    rw [Int.toNat_of_nonneg h2,Int.mul_comm]
    exact h1.symm
   have e:rngN 0 (w:Int) k=q:=by
    apply RY
    intro j
    rw [RX hk,Int.zero_add,hq]
    constructor
    · intro z
      have:=Int.lt_of_mul_lt_mul_right z (show 0<=k by omega)
      omega
    · intro z
      exact Int.mul_lt_mul_of_pos_right (by omega) hk
   rw [e]
   have m:((w+1:Nat):Int)=q*k+1:=by omega
   rw [m]
   constructor
   · intro z
     have z:(i:Int)*k<=q*k:=by omega
     have:=Int.le_of_mul_le_mul_right z hk
     omega
   · intro z
     have:=Int.mul_le_mul_of_nonneg_right (show (i:Int)<=q by omega) (show 0<=k by omega)
     omega
 · rename_i h
   have z0:=@RX 0 w k hk i
   rw [Int.zero_add] at z0
   show _↔i<rngN 0 (w:Int) k
   rw [z0]
   have:(i:Int)*k≠w:=fun z=>h (by rw [<- z];exact Int.mul_emod_left ..)
   omega
theorem CZ {k:Int}(hk:0<k):∀ w:Nat,FX 0 k (rngN 0 w k)=(Y7 k w).map D.int
 | 0=>by
   have:rngN 0 ((0:Nat):Int) k=0:=by
    apply RY
    intro i
    rw [RX hk,Int.zero_add]
    have:=Int.mul_nonneg (show (0:Int)<=i by omega) (show 0<=k by omega)
    omega
   rw [this]
   rfl
 | w+1=>by
   rw [J0y hk,XJ,List.map_append,<- CZ hk w]
   split
   · rename_i h
     unfold FX
     rw [List.range_succ,List.map_append]
     congr 1
     have e:((rngN 0 w k:Nat):Int)*k=w:=by
      rw [LI hk]
      unfold Builtin.Range.rangeSize
      rw [if_pos hk]
      have h1:=Int.mul_ediv_add_emod (w:Int) k
      rw [h,Int.add_zero] at h1
      split
      · rename_i h0
        have e2:(w - 0 - 1:Int) / k=w / k - 1:=by
         have:(w - 0 - 1:Int)=(k - 1)+k*(w / k - 1):=by rw [Int.mul_sub,h1];omega
         rw [this,Int.add_mul_ediv_left _ _ (by omega),Int.ediv_eq_zero_of_lt (by omega) (by omega)]
         omega
        rw [e2]
        have:(w / k - 1+1:Int)=w / k:=by omega
        rw [this,Int.mul_comm];exact h1
      · omega
     simp [e]
   · simp
def AE (px py:Int)(i:Nat)(t:T3)(st:Option (Nat×Int×Int)):Option (Nat×Int×Int) :=
 if t.has px py then (match st with
  | none=>some (i,t.top px py*sgn t.tn,DL t.tn)
  | some (j,a,b)=>if t.top px py*sgn t.tn*b<a*DL t.tn then some (i,t.top px py*sgn t.tn,DL t.tn) else some (j,a,b)) else st
def seenN (ts:List T3)(px py:Int):Nat->Option (Nat×Int×Int)
 | 0=>none
 | i+1=>match ts[i]? with
   | some t=>AE px py i t (seenN ts px py i)
   | none=>seenN ts px py i
def MK:Option (Nat×Int×Int)->D
 | none=>.non
 | some (i,_,_)=>.int i
def Q3d:Option (Nat×Int×Int)->D
 | none=>.non
 | some (_,a,b)=>t2 a b
def Q8o:Option (Nat×Int×Int)->Prop
 | none=>True
 | some (_,a,b)=>Bd 500 a/\Bd 500 b
theorem RD {ts:List T3}{i:Nat}{x:D}(h:(FK (ts.map T3.d))[i]?=some x):∃ t,ts[i]?=some t/\x=.tup [.int i,t.d]:=by
 unfold FK at h
 rw [List.getElem?_mapIdx,List.getElem?_map] at h
 cases e:ts[i]? with
 | none=>rw [e] at h;cases h
 | some t=>rw [e] at h;exact ⟨t,rfl,(Option.some.inj h).symm⟩
theorem PF {t:T3}{px py:Int}(ok:t.ok 100)(hx:Bd 100 px)(hy:Bd 100 py):Bd 500 (t.top px py*sgn t.tn)/\Bd 500 (DL t.tn):=⟨(Bd.mul (T3.top_bd ok hx hy (by decide)) (sgn_bd _)).mono (by decide),(Q0g (T3.tn_bd ok)).mono (by decide)⟩
theorem NM {ts:List T3}{px py:Int}{i:Nat}{t:T3}(e:ts[i]?=some t):seenN ts px py (i+1)=AE px py i t (seenN ts px py i):=by
 show (match ts[i]? with|some t=>AE px py i t (seenN ts px py i)|none=>seenN ts px py i)=_
 rw [e]
abbrev LF:Stmt:=top 28
theorem BB:FnScope ["faces","dot","seen","least","number","face","depth"] ["faces","dot"] (J3 LF):=⟨rfl,rfl,rfl,by decide +kernel,rfl,by decide +kernel,by decide +kernel⟩
def J6j:DSp:=fun ds P _=>∃ (ts:List T3) (px py:Int),ds=[.lst (ts.map T3.d),t2 px py]/\(∀ t∈ts,t.ok 100/\t.pos)/\ts.length<=500/\Bd 100 px/\Bd 100 py/\P (MK (seenN ts px py ts.length))
structure C_seen_at (P:Program)(w:World)(K:Fg)(mg:Str->Option Value)(base:Heap)(c:Cs):Prop where
 has_dot_:Callee P w K mg base CX0 "has_dot" 4 ["face","dot"] (J8 K BT KZ)
 unreduced_depth_:Callee P w K mg base (CX1 P w base) "unreduced_depth" 4 ["face","dot"] (J8 K BT (Q0h c))
 is_less_:Callee P w K mg base CX0 "is_less" 1 ["one","other"] (J8 K BT TM)
theorem XB {f:Addr} (F:Fun K "seen_at" "seen_at" LF f fd) (Z:Bi mg) {c:Cs} (Y:Ex K mg base c) (G:C_seen_at P w K mg base c):FnOk P w K mg base CX0 5 f fd ["faces","dot"] (J8 K BT J6j):=by
 refine F.okD BB (fun ds PP Ed h=>?_) (fun cdv A outer s H E M bg ds PP Ed hr hS_=>?_)
 · obtain ⟨ts,px,py,rfl,hts,hl,hx,hy,hP⟩:=h
   rfl
 · obtain ⟨ts,px,py,rfl,hts,hl,hx,hy,hP⟩:=hS_
   refine ⟨_,(J4 (V0 (i:=2) BB.nd rfl (by walk_at "o") HB)
    (J4 (V0 (i:=3) BB.nd rfl (by walk_at "o") HB)
    (J4 (AY (BR [4,5]) PassesOwn.never rfl (VB (by rfl) (J0 (jdv 0) J1) (ZB K (by rfl) rfl Z.enumerate_ (JA.h (J0 (jdv 0) J1)))) (PG.or (AV (n:=2) K (by rfl) (by rfl) (J6 (pg_name (i:=4) BB.nd rfl (by walk_at "o")) (J6 (pg_name (i:=5) BB.nd rfl (by walk_at "o")) Y1))) (AW (n:=2) K (by rfl) (by rfl) (J6 (pg_name (i:=4) BB.nd rfl (by walk_at "o")) (J6 (pg_name (i:=5) BB.nd rfl (by walk_at "o")) Y1)))) (J7 (Z3 (AC (by rfl) (J9 G.has_dot_ hr.m rfl (J0 (jdv 5) (J0 (jdv 1) J1))) (fun _=>rfl)) (J4 (V0 (i:=6) BB.nd rfl (by walk_at "o") (GG DW EG G.unreduced_depth_ hr.m rfl (J0 (jdv 5) (J0 (jdv 1) J1))))
    (J7 (Z3 (JQ (Y3 Q2v Q2y (jdv 2) HB (V7 _)) (GY (AC (by rfl) (J9 G.is_less_ hr.m rfl (J0 (jdv 6) (J0 (jdv 3) J1))) (fun _=>rfl)))) (J4 (V0 (i:=2) BB.nd rfl (by walk_at "o") (jdv 4))
    (J7 (V0 (i:=3) BB.nd rfl (by walk_at "o") (jdv 6)))) Y0))) Y0)))
    (J7 (V2 (jdv 2)))))),?_⟩
   walk_at "g"
   refine ⟨fun i ρ=>∃ v4 v5 v6,ρ=[some (.lst (ts.map T3.d)),some (t2 px py),some (MK (seenN ts px py i)),some (Q3d (seenN ts px py i)),v4,v5,v6]/\Q8o (seenN ts px py i),⟨_,_,_,rfl,trivial⟩,?_,?_⟩
   · rintro i x ρ e ⟨v4,v5,v6,rfl,hst⟩
     obtain ⟨t,et,rfl⟩:=RD e
     obtain ⟨ok,pos⟩:=hts t (List.mem_of_getElem? et)
     have hd:=PF ok hx hy
     have es:=NM (px:=px) (py:=py) et
     generalize hst':seenN ts px py i=st at hst es ⊢
     walk_at "g"
     refine ⟨t,px,py,100,rfl,ok,hx,hy,by decide,?_⟩
     by_cases hh:t.has px py
     · refine IfP.t (by simp [hh]) ?_
       walk_at "g"
       refine ⟨t,px,py,100,rfl,ok,hx,hy,by decide,by decide,fun z=>absurd z (T3.has_tn pos hh),fun _=>?_⟩
       match st,hst,es with
       | none,hst,es =>
         have es:seenN ts px py (i+1)=some (i,t.top px py*sgn t.tn,DL t.tn):=by rw [es];unfold AE;rw [if_pos hh]
         walk_at "g"
         rw [es]
         exact ⟨_,_,_,rfl,hd⟩
       | some (j,a,b),hst,es =>
         obtain ⟨ba,bb⟩:=hst
         obtain ⟨d1,d2⟩:=hd
         walk_at "g"
         refine ⟨_,_,_,_,rfl,⟨d1.mono (by decide),d2.mono (by decide)⟩,⟨ba.mono (by decide),bb.mono (by decide)⟩,?_⟩
         by_cases hlt:t.top px py*sgn t.tn*b<a*DL t.tn
         · have es:seenN ts px py (i+1)=some (i,t.top px py*sgn t.tn,DL t.tn):=by rw [es];unfold AE;rw [if_pos hh];simp only [if_pos hlt]
           refine IfP.t (by simp [hlt]) ?_
           walk_at "g"
           rw [es]
           exact ⟨_,_,_,rfl,⟨d1,d2⟩⟩
         · have es:seenN ts px py (i+1)=some (j,a,b):=by rw [es];unfold AE;rw [if_pos hh];simp only [if_neg hlt]
           refine IfP.f (by simp [hlt]) ?_
           walk_at "g"
           rw [es]
           exact ⟨_,_,_,rfl,⟨ba,bb⟩⟩
     · have es:seenN ts px py (i+1)=st:=by rw [es];unfold AE;rw [if_neg hh]
       refine IfP.f (by simp [hh]) ?_
       walk_at "g"
       rw [es]
       exact ⟨_,_,_,rfl,hst⟩
   · rintro ρ ⟨v4,v5,v6,rfl,hst⟩
     walk_at "g"
     have el:(FK (ts.map T3.d)).length=ts.length:=by simp [FK]
     rw [el]
     generalize seenN ts px py ts.length=st at hP ⊢
     rcases st with _|⟨i,a,b⟩<;>exact hP
abbrev JG:Stmt:=top 5
theorem UC:FnScope ["thing"] ["thing"] (J3 JG):=⟨rfl,rfl,rfl,by decide +kernel,rfl,by decide +kernel,by decide +kernel⟩
def whD:D->Bool
 | .int _=>true
 | _=>false
def YO:DSp:=fun ds P _=>∃ d,ds=[d]/\(FN d).isSome=true/\AJ d=true/\P (.bl (whD d))
theorem UP {f:Addr} (F:Fun K "is_whole" "is_whole" JG f fd) (Z:Bi mg) {c:Cs} (Y:Ex K mg base c):FnOk P w K mg base CX0 1 f fd ["thing"] (J8 K BT YO):=by
 refine F.okD UC (fun ds PP Ed h=>?_) (fun cdv A outer s H E M bg ds PP Ed hr hS_=>?_)
 · obtain ⟨d,rfl,hd,hno,hP⟩:=h
   rfl
 · obtain ⟨d,rfl,hd,hno,hP⟩:=hS_
   refine ⟨_,(J7 (V2 (IM (Q5 (EL K (by rfl)) IR rfl Z.isinstance_ DX (J0 (jdv 0) (J0 (KR rfl Z.int_ TF) J1))) (IL (ZL (Q5 (EL K (by rfl)) IR rfl Z.isinstance_ DX (J0 (jdv 0) (J0 (KR rfl Z.bool_ Q0c) J1)))))))),?_⟩
   cases d<;>(try (simp [FN] at hd;done))<;>(try (simp [AJ] at hno;done))
   all_goals first
    | (walk_at "g";refine ⟨false,by rfl,?_⟩;walk_at "g";exact hP)
    | (walk_at "g";refine ⟨true,by rfl,?_⟩;walk_at "g";refine ⟨true,by rfl,?_⟩;walk_at "g";exact hP)
    | (walk_at "g";refine ⟨true,by rfl,?_⟩;walk_at "g";refine ⟨false,by rfl,?_⟩;walk_at "g";exact hP)
abbrev AB:Stmt:=top 6
theorem KB:FnScope ["thing","many"] ["thing","many"] (J3 AB):=⟨rfl,rfl,rfl,by decide +kernel,rfl,by decide +kernel,by decide +kernel⟩
def tkD:D->Bool
 | .tup xs=>decide (xs.length<=100)&&xs.all fun d=>(FN d).isSome&&AJ d
 | d=>(FN d).isSome&&AJ d
def wtD (n:Nat):D->Bool
 | .tup xs=>decide (xs.length=n)&&xs.all whD
 | _=>false
def J6h:DSp:=fun ds P _=>∃ (d:D) (n:Nat),ds=[d,.int n]/\tkD d=true/\P (.bl (wtD n d))
structure C_is_whole_tuple (P:Program)(w:World)(K:Fg)(mg:Str->Option Value)(base:Heap)(c:Cs):Prop where
 is_whole_:Callee P w K mg base CX0 "is_whole" 1 ["thing"] (J8 K BT YO)
theorem KI {f:Addr} (F:Fun K "is_whole_tuple" "is_whole_tuple" AB f fd) (Z:Bi mg) {c:Cs} (Y:Ex K mg base c) (G:C_is_whole_tuple P w K mg base c):FnOk P w K mg base CX0 2 f fd ["thing","many"] (J8 K BT J6h):=by
 refine F.okD KB (fun ds PP Ed h=>?_) (fun cdv A outer s H E M bg ds PP Ed hr hS_=>?_)
 · obtain ⟨d,n,rfl,hd,hP⟩:=h
   rfl
 · obtain ⟨d,n,rfl,hd,hP⟩:=hS_
   refine ⟨_,(J7 (V2 (IM (Q5 (EL K (by rfl)) IR rfl Z.isinstance_ DX (J0 (jdv 0) (J0 (KR rfl Z.tuple_ VY) J1))) (IM (DJ FJ DC (Q5 (Q7 K (by rfl)) BJ rfl Z.len_ AU (J0 (jdv 0) J1)) (jdv 1) (V7 _)) (IL (Q5 (RJ K (by rfl) (by rfl)) SZ rfl Z.all_ J6a (J0 (EA (X:=(V1 CX0 P w K mg base ["thing","many"] "is_whole_tuple" (J3 AB) f cdv A outer s H E).nox) (V4 0) (MG (X:=(V1 CX0 P w K mg base ["thing","many"] "is_whole_tuple" (J3 AB) f cdv A outer s H E).nox) (N':=["part"]) (map:=[none]) (by rfl) (by rfl) (by decide +kernel) (by rfl) True.intro (gkeep_name rfl) fun cl0 C0 fp0 s0 H0=>⟨(pg_name (X:=(Q0 (V1 CX0 P w K mg base ["thing","many"] "is_whole_tuple" (J3 AB) f cdv A outer s H E).nox ["part"] _ cl0 C0 fp0 s0 H0)) (i:=0) (Z2 ["part"] (by decide +kernel)) rfl (by walk_at "o")),AG,(J9 (X:=(Q0 (V1 CX0 P w K mg base ["thing","many"] "is_whole_tuple" (J3 AB) f cdv A outer s H E).nox ["part"] _ cl0 C0 fp0 s0 H0)) G.is_whole_ hr.m rfl (J0 (jdv 0) J1))⟩) (Z5 (by rfl) (jdv 0))) J1))))))),?_⟩
   by_cases ht:∃ xs,d=.tup xs
   · obtain ⟨xs,rfl⟩:=ht
     obtain ⟨hl,ha⟩:=(Bool.and_eq_true _ _).mp hd
     have hl:=of_decide_eq_true hl
     have key:∀ b:Bool,b=wtD n (.tup xs)->PP (.bl b):=fun b h=>by rw [h];exact hP
     walk_at "g"
     refine ⟨true,by rfl,?_⟩
     walk_at "g"
     walk_at "sp"
     · rename_i hn
       walk_at "g"
       refine And.intro (by omega) ?_
       refine HZ (fun x=>.bl (whD x)) (fun x Q hx q=>?_) (fun _ _=>rfl) ?_
       · have:=List.all_eq_true.mp ha x hx
         obtain ⟨t1,t2⟩:=(Bool.and_eq_true _ _).mp this
         walk_at "g"
         exact ⟨by show (AJ x&&true)=true;rw [t2];rfl,x,rfl,t1,t2,q⟩
       · have eb:IC (xs.map fun x=>D.bl (whD x))=some (xs.map whD):=by
          have:=MF (xs.map whD)
          rw [List.map_map] at this
          exact this
         walk_at "g"
         rw [eb]
         walk_at "g"
         refine key _ ?_
         show _=(decide (xs.length=n)&&xs.all whD)
         rw [decide_eq_true (by omega)]
         simp [List.all_map]
     · rename_i hn
       walk_at "g"
       refine key _ ?_
       show _=(decide (xs.length=n)&&xs.all whD)
       rw [decide_eq_false (by omega)]
       simp
   · have ew:wtD n d=false:=by
      cases d<;>first|rfl|exact absurd ⟨_,rfl⟩ ht
     rw [ew] at hP
     cases d<;>(try (exact absurd ⟨_,rfl⟩ ht))<;>(try (simp [tkD,FN,AJ] at hd;done))
     all_goals
      walk_at "g"
      refine ⟨false,by rfl,?_⟩
      walk_at "g"
      exact hP
abbrev HM:Stmt:=top 13
theorem RW:FnScope ["number"] ["number"] (J3 HM):=⟨rfl,rfl,rfl,by decide +kernel,rfl,by decide +kernel,by decide +kernel⟩
def DI (n:Int):Bool:=decide (1<=n)&&decide (n<=16)
def TN:DSp:=fun ds P _=>∃ n:Int,ds=[.int n]/\P (.bl (DI n))
theorem SB {f:Addr} (F:Fun K "is_length" "is_length" HM f fd) (Z:Bi mg) {c:Cs} (Y:Ex K mg base c):FnOk P w K mg base CX0 1 f fd ["number"] (J8 K BT TN):=by
 refine F.okD RW (fun ds PP Ed h=>?_) (fun cdv A outer s H E M bg ds PP Ed hr hS_=>?_)
 · obtain ⟨n,rfl,hP⟩:=h
   rfl
 · obtain ⟨n,rfl,hP⟩:=hS_
   refine ⟨_,(J7 (V2 (LX ZE ZE CT CT J5 (jdv 0) (J1t rfl Z.LONGEST_)))),?_⟩
   unfold DI at hP
   walk_at "g"
   by_cases h:1<=n
   · refine IfP.t (by simp [h]) ?_
     walk_at "g"
     simp [h] at hP
     exact hP
   · refine IfP.f (by simp [h]) ?_
     walk_at "g"
     simp [h] at hP
     exact hP
def BK:D->Bool
 | .tup [.int x,.int y]=>DI x&&DI y
 | _=>false
theorem wt2 {d:D}(h:wtD 2 d=true):∃ x y:Int,d=t2 x y:=by
 cases d<;>try (simp [wtD] at h;done)
 rename_i xs
 obtain ⟨h1,h2⟩:=(Bool.and_eq_true _ _).mp h
 have h1:=of_decide_eq_true h1
 have hw:∀ d∈xs,∃ i:Int,d=.int i:=fun d hd=>by
  have:=List.all_eq_true.mp h2 d hd
  cases d<;>first|cases this|skip
  exact ⟨_,rfl⟩
 match xs,h1 with
 | [a,b],_ =>
   obtain ⟨x,rfl⟩:=hw a (by simp)
   obtain ⟨y,rfl⟩:=hw b (by simp)
   exact ⟨x,y,rfl⟩
theorem J6c {d:D}(h:wtD 2 d=false):BK d=false:=by
 unfold BK
 split
 · cases h
 · rfl
abbrev BD:Stmt:=top 14
theorem NQ:FnScope ["thing"] ["thing"] (J3 BD):=⟨rfl,rfl,rfl,by decide +kernel,rfl,by decide +kernel,by decide +kernel⟩
def YQ (c:Cs):DSp:=fun ds P Ed=>∃ d:D,ds=[d]/\tkD d=true/\AJ d=true/\(BK d=false->Ed c.NoBoard)/\(BK d=true->P .non)
structure C_check_board (P:Program)(w:World)(K:Fg)(mg:Str->Option Value)(base:Heap)(c:Cs):Prop where
 is_whole_tuple_:Callee P w K mg base CX0 "is_whole_tuple" 2 ["thing","many"] (J8 K BT J6h)
 is_length_:Callee P w K mg base CX0 "is_length" 1 ["number"] (J8 K BT TN)
theorem OB {f:Addr} (F:Fun K "check_board" "check_board" BD f fd) (Z:Bi mg) {c:Cs} (Y:Ex K mg base c) (G:C_check_board P w K mg base c):FnOk P w K mg base (CX1 P w base) 3 f fd ["thing"] (J8 K BT (YQ c)):=by
 refine F.okDX NQ (fun ds PP Ed h=>?_) (fun cdv A outer s H E M bg ds PP Ed hr hE hS_=>?_)
 · obtain ⟨d,rfl,hd,hno,h0,h1⟩:=h
   rfl
 · obtain ⟨d,rfl,hd,hno,h0,h1⟩:=hS_
   refine ⟨_,(J7 (Z3 (JQ (GZ (AC (by rfl) (J9 G.is_whole_tuple_ hr.m rfl (J0 (jdv 0) (J0 J5 J1))) (fun _=>rfl))) (GY (GZ (AC (by rfl) (Q5 (RJ K (by rfl) (by rfl)) SZ rfl Z.all_ J6a (J0 (EA (X:=(V1 (CX1 P w base) P w K mg base ["thing"] "check_board" (J3 BD) f cdv A outer s H E)) (V4 0) (MG (X:=(V1 (CX1 P w base) P w K mg base ["thing"] "check_board" (J3 BD) f cdv A outer s H E)) (N':=["number"]) (map:=[none]) (by rfl) (by rfl) (by decide +kernel) (by rfl) True.intro (gkeep_name rfl) fun cl0 C0 fp0 s0 H0=>⟨(pg_name (X:=(Q0 (V1 (CX1 P w base) P w K mg base ["thing"] "check_board" (J3 BD) f cdv A outer s H E) ["number"] _ cl0 C0 fp0 s0 H0)) (i:=0) (Z2 ["number"] (by decide +kernel)) rfl (by walk_at "o")),AG,(J9 (X:=(Q0 (V1 (CX1 P w base) P w K mg base ["thing"] "check_board" (J3 BD) f cdv A outer s H E) ["number"] _ cl0 C0 fp0 s0 H0)) G.is_length_ hr.m rfl (J0 (jdv 0) J1))⟩) (Z5 (by rfl) (jdv 0))) J1)) (fun _=>rfl))))) (J7 (LU hE (LL Y.o_NoBoard rfl))) Y0)),?_⟩
   walk_at "g"
   refine ⟨by show (AJ d&&true)=true;rw [hno];rfl,d,2,rfl,hd,?_⟩
   cases hw:wtD 2 d
   · walk_at "g"
     exact h0 (J6c hw)
   · obtain ⟨x,y,rfl⟩:=wt2 hw
     walk_at "g"
     walk_at "gc"
     refine ⟨x,rfl,?_⟩
     walk_at "g"
     refine ⟨y,rfl,?_⟩
     walk_at "g"
     have e:BK (t2 x y)=(DI x&&DI y):=rfl
     rw [e] at h0 h1
     cases hx:DI x<;>cases hy:DI y<;>rw [hx,hy] at h0 h1<;>walk_at "g"
     · exact h0 rfl
     · exact h0 rfl
     · exact h0 rfl
     · exact h1 rfl
abbrev BY:Stmt:=top 15
theorem HH:FnScope ["thing"] ["thing"] (J3 BY):=⟨rfl,rfl,rfl,by decide +kernel,rfl,by decide +kernel,by decide +kernel⟩
def FH:D->Bool
 | .int n=>DI n
 | _=>false
def J6u (c:Cs):DSp:=fun ds P Ed=>∃ d:D,ds=[d]/\(FN d).isSome=true/\AJ d=true/\(FH d=false->Ed c.NoBoard)/\(FH d=true->P .non)
structure C_check_squares_side (P:Program)(w:World)(K:Fg)(mg:Str->Option Value)(base:Heap)(c:Cs):Prop where
 is_whole_:Callee P w K mg base CX0 "is_whole" 1 ["thing"] (J8 K BT YO)
 is_length_:Callee P w K mg base CX0 "is_length" 1 ["number"] (J8 K BT TN)
theorem HI {f:Addr} (F:Fun K "check_squares_side" "check_squares_side" BY f fd) (Z:Bi mg) {c:Cs} (Y:Ex K mg base c) (G:C_check_squares_side P w K mg base c):FnOk P w K mg base (CX1 P w base) 2 f fd ["thing"] (J8 K BT (J6u c)):=by
 refine F.okDX HH (fun ds PP Ed h=>?_) (fun cdv A outer s H E M bg ds PP Ed hr hE hS_=>?_)
 · obtain ⟨d,rfl,hd,hno,h0,h1⟩:=h
   rfl
 · obtain ⟨d,rfl,hd,hno,h0,h1⟩:=hS_
   refine ⟨_,(J7 (Z3 (JQ (GZ (AC (by rfl) (J9 G.is_whole_ hr.m rfl (J0 (jdv 0) J1)) (fun _=>rfl))) (GY (GZ (AC (by rfl) (J9 G.is_length_ hr.m rfl (J0 (jdv 0) J1)) (fun _=>rfl))))) (J7 (LU hE (LL Y.o_NoBoard rfl))) Y0)),?_⟩
   walk_at "g"
   refine ⟨by show (AJ d&&true)=true;rw [hno];rfl,d,rfl,hd,hno,?_⟩
   cases hw:whD d
   · have:FH d=false:=by cases d<;>first|rfl|cases hw
     walk_at "g"
     exact h0 this
   · obtain ⟨n,rfl⟩:∃ n,d=.int n:=by cases d<;>first|exact ⟨_,rfl⟩|cases hw
     walk_at "g"
     refine ⟨n,rfl,?_⟩
     have e:FH (.int n)=DI n:=rfl
     rw [e] at h0 h1
     cases hx:DI n<;>rw [hx] at h0 h1<;>walk_at "g"
     · exact h0 rfl
     · exact h1 rfl
abbrev mn (a b:Int):Int:=if b<a then b else a
def sq1 (k:Int)(w h:Nat)(x y:Int):D:=sp4 x y (mn k (w - x)) (mn k (h - y))
def sqs (k:Int)(w h:Nat):List D:=(Y7 k w).flatMap fun x=>(Y7 k h).map fun y=>sq1 k w h x y
theorem IK {k:Int}{w i:Nat}{d:D}(h:((Y7 k w).map D.int)[i]?=some d):∃ x:Int,(Y7 k w)[i]?=some x/\d=.int x/\0<=x/\x<w:=by
 rw [List.getElem?_map] at h
 obtain ⟨x,ex,rfl⟩:=Option.map_eq_some_iff.mp h
 have m:=List.mem_of_getElem? ex
 unfold Y7 at m
 simp only [List.mem_filter,List.mem_map,List.mem_range] at m
 obtain ⟨⟨n,hn,rfl⟩,_⟩:=m
 exact ⟨_,ex,rfl,by omega,by omega⟩
theorem ER (k:Int)(w:Nat):(Y7 k w).length<=w:=by
 unfold Y7
 refine Nat.le_trans (List.length_filter_le ..) ?_
 simp
abbrev AL:Stmt:=top 31
theorem CG:FnScope ["board","side","wide","high"] ["board","side"] (J3 AL):=⟨rfl,rfl,rfl,by decide +kernel,rfl,by decide +kernel,by decide +kernel⟩
def Q1k (c:Cs):DSO:=fun ds P Ed=>∃ d d':D,ds=[d,d']/\tkD d=true/\AJ d=true/\(FN d').isSome=true/\AJ d'=true/\(BK d=false->Ed c.NoBoard)/\(FH d'=false->Ed c.NoBoard)/\∀ (w h:Nat) (k:Int),d=t2 w h->d'=.int k->(1<=w/\w<=16/\1<=h/\h<=16/\1<=k/\k<=16)->P (sqs k w h)
structure C_squares_of (P:Program)(w:World)(K:Fg)(mg:Str->Option Value)(base:Heap)(c:Cs):Prop where
 check_board_:Callee P w K mg base (CX1 P w base) "check_board" 3 ["thing"] (J8 K BT (YQ c))
 check_squares_side_:Callee P w K mg base (CX1 P w base) "check_squares_side" 2 ["thing"] (J8 K BT (J6u c))
theorem PX {f:Addr} (F:Fun K "squares_of" "squares_of" AL f fd) (Z:Bi mg) {c:Cs} (Y:Ex K mg base c) (G:C_squares_of P w K mg base c):FnOk P w K mg base (CX1 P w base) 4 f fd ["board","side"] (DH K BT (Q1k c)):=by
 refine F.okDXO CG (fun ds PP Ed h=>?_) (fun cdv A outer s H E M bg ds PP Ed hr hE hS_=>?_)
 · obtain ⟨d,d',rfl,hd,hno,hd',hno',h0,h0',hP⟩:=h
   rfl
 · obtain ⟨d,d',rfl,hd,hno,hd',hno',h0,h0',hP⟩:=hS_
   refine ⟨_,(J4 (OJ (GG hE JU G.check_board_ hr.m rfl (J0 (jdv 0) J1)))
    (J4 (OJ (GG hE JU G.check_squares_side_ hr.m rfl (J0 (jdv 1) J1)))
    (J4 (CM (BR [2,3]) (jdv 0) (PG.or (AV (n:=2) K (by rfl) (by rfl) (J6 (pg_name (i:=2) CG.nd rfl (by walk_at "o")) (J6 (pg_name (i:=3) CG.nd rfl (by walk_at "o")) Y1))) (AW (n:=2) K (by rfl) (by rfl) (J6 (pg_name (i:=2) CG.nd rfl (by walk_at "o")) (J6 (pg_name (i:=3) CG.nd rfl (by walk_at "o")) Y1)))))
    (J7 (XX (X:=(V1 (CX1 P w base) P w K mg base ["board","side","wide","high"] "squares_of" (J3 AL) f cdv A outer s H E)) (V4 0) (V4 1) (RK (X:=(V1 (CX1 P w base) P w K mg base ["board","side","wide","high"] "squares_of" (J3 AL) f cdv A outer s H E)) (N':=["left","top","high","side","wide"]) (map:=[none,none,some 3,some 1,some 2]) (mp2:=[some 0,none,some 2,some 3,some 4]) (by rfl) (by rfl) (by decide +kernel) (by rfl) ⟨⟨rfl,rfl,rfl,by walk_at "o"⟩,⟨⟨rfl,rfl,rfl,by walk_at "o"⟩,⟨⟨rfl,rfl,rfl,by walk_at "o"⟩,True.intro⟩⟩⟩ (gkeep_name rfl) (gkeep_name rfl) rfl rfl fun cl0 C0 fp0 s0 H0=>⟨(pg_name (X:=(Q0 (V1 (CX1 P w base) P w K mg base ["board","side","wide","high"] "squares_of" (J3 AL) f cdv A outer s H E) ["left","top","high","side","wide"] _ cl0 C0 fp0 s0 H0).nox) (i:=0) (Z2 ["left","top","high","side","wide"] (by decide +kernel)) rfl (by walk_at "o")),(HA (X:=(Q0 (V1 (CX1 P w base) P w K mg base ["board","side","wide","high"] "squares_of" (J3 AL) f cdv A outer s H E) ["left","top","high","side","wide"] _ cl0 C0 fp0 s0 H0).nox) rfl Z.range_ (J0 J5 (J0 (jdv 2) (J0 (jdv 3) J1)))),(pg_name (X:=(Q0 (V1 (CX1 P w base) P w K mg base ["board","side","wide","high"] "squares_of" (J3 AL) f cdv A outer s H E) ["left","top","high","side","wide"] _ cl0 C0 fp0 s0 H0).nox) (i:=1) (Z2 ["left","top","high","side","wide"] (by decide +kernel)) rfl (by walk_at "o")),AG,(Z9 (X:=(Q0 (V1 (CX1 P w base) P w K mg base ["board","side","wide","high"] "squares_of" (J3 AL) f cdv A outer s H E) ["left","top","high","side","wide"] _ cl0 C0 fp0 s0 H0).nox) (J0 (jdv 0) (J0 (jdv 1) (J0 (Q5 (CV (by rfl)) HG rfl Z.min_ IB (J0 (jdv 3) (J0 (Q4 AR Y8 (jdv 4) (jdv 0)) J1))) (J0 (Q5 (CV (by rfl)) HG rfl Z.min_ IB (J0 (jdv 3) (J0 (Q4 AR Y8 (jdv 2) (jdv 1)) J1))) J1)))))⟩) (HA rfl Z.range_ (J0 J5 (J0 (jdv 2) (J0 (jdv 1) J1))))))))),?_⟩
   walk_at "g"
   refine ⟨by show (AJ d&&true)=true;rw [hno];rfl,d,rfl,hd,hno,h0,fun hb=>?_⟩
   walk_at "g"
   refine ⟨by show (AJ d'&&true)=true;rw [hno'];rfl,d',rfl,hd',hno',h0',fun hb'=>?_⟩
   obtain ⟨w,h,rfl,h1,h2,h3,h4⟩:∃ w h:Nat,d=t2 w h/\1<=w/\w<=16/\1<=h/\h<=16:=by
    unfold BK at hb
    split at hb
    · rename_i x y
      simp only [DI,Bool.and_eq_true,decide_eq_true_eq] at hb
      exact ⟨x.toNat,y.toNat,by rw [Int.toNat_of_nonneg (by omega),Int.toNat_of_nonneg (by omega)],by omega,by omega,by omega,by omega⟩
    · cases hb
   obtain ⟨k,rfl,h5,h6⟩:∃ k:Int,d'=.int k/\1<=k/\k<=16:=by
    unfold FH at hb'
    split at hb'
    · simp only [DI,Bool.and_eq_true,decide_eq_true_eq] at hb'
      exact ⟨_,rfl,hb'.1,hb'.2⟩
    · cases hb'
   replace hP:=hP w h k rfl rfl ⟨h1,h2,h3,h4,h5,h6⟩
   have mw:=ER k w
   have mh:=ER k h
   walk_at "g"
   refine And.intro (by omega) ?_
   rw [CZ (by omega)]
   refine And.intro (by rw [List.length_map];omega) ?_
   refine ⟨fun i acc=>acc=((Y7 k w).take i).flatMap fun x=>(Y7 k h).map fun y=>sq1 k w h x y,rfl,?_,?_⟩
   · rintro i x acc e rfl
     obtain ⟨x,ex,rfl,x0,x1⟩:=IK e
     clear e
     walk_at "g"
     refine And.intro (by omega) ?_
     rw [CZ (by omega)]
     refine And.intro (by rw [List.length_map];omega) ?_
     rw [List.take_add_one,ex,Option.toList_some,List.flatMap_append]
     refine ⟨fun j acc=>acc=((Y7 k w).take i).flatMap (fun x=>(Y7 k h).map fun y=>sq1 k w h x y)++((Y7 k h).take j).map fun y=>sq1 k w h x y,by simp,?_,?_⟩
     · rintro j y acc e rfl
       obtain ⟨y,ey,rfl,y0,y1⟩:=IK e
       clear e
       walk_at "g"
       rw [List.take_add_one,ey,Option.toList_some,List.map_append,<- List.append_assoc]
       rfl
     · rintro acc rfl
       rw [List.length_map,List.take_length]
       simp
   · rintro acc rfl
     rw [List.length_map,List.take_length]
     exact hP
def WK (ts:List T3)(y:Int):D->D
 | .int x=>MK (seenN ts x y ts.length)
 | _=>.non
def J7l (ts:List T3)(w:Nat):D->List D
 | .int y=>(V6 0 w).map (WK ts y)
 | _=>[]
def Y9 (ts:List T3)(w h:Nat):List (List D):=(V6 0 h).map (J7l ts w)
theorem BF {n:Nat}{d:D}(h:d∈V6 0 n):∃ i:Nat,i<n/\d=.int i:=by
 unfold V6 at h
 obtain ⟨i,hi,rfl⟩:=List.mem_map.mp h
 exact ⟨i,List.mem_range.mp hi,by simp⟩
theorem rangeD_le (n:Nat):(V6 0 n).length=n:=by unfold V6;simp
theorem UA (o:Option (Nat×Int×Int)):plain (MK o)=true:=by
 rcases o with _|⟨a,b,e⟩<;>rfl
def isN (d:D):Prop:=d=.non\/∃ i,d=.int i
theorem QN (o:Option (Nat×Int×Int)):isN (MK o):=by
 rcases o with _|⟨a,b,e⟩
 · exact .inl rfl
 · exact .inr ⟨_,rfl⟩
theorem isN.noL {d:D}(h:isN d):noL d=true:=by rcases h with rfl|⟨i,rfl⟩<;>rfl
theorem isN.fine {d:D}(h:isN d)(n:Nat):BU n d=true:=by rcases h with rfl|⟨i,rfl⟩<;>cases n<;>rfl
theorem KF {ts:List T3}{w h:Nat}:(Y9 ts w h).length=h/\∀ r∈Y9 ts w h,r.length=w/\∀ d∈r,isN d:=by
 refine ⟨by unfold Y9;rw [List.length_map,rangeD_le],fun r hr=>?_⟩
 obtain ⟨d,hd,rfl⟩:=List.mem_map.mp hr
 obtain ⟨y,hy,rfl⟩:=BF hd
 refine ⟨by show ((V6 0 w).map (WK ts y)).length=w;rw [List.length_map,rangeD_le],fun d hd=>?_⟩
 obtain ⟨x,hx,rfl⟩:=List.mem_map.mp hd
 obtain ⟨x,hx,rfl⟩:=BF hx
 exact QN _
abbrev BP:Stmt:=top 29
theorem ET:FnScope ["faces","board","wide","high"] ["faces","board"] (J3 BP):=⟨rfl,rfl,rfl,by decide +kernel,rfl,by decide +kernel,by decide +kernel⟩
def PM (c:Cs):DSG:=fun ds P Ed=>∃ (ts:List T3) (d:D),ds=[.lst (ts.map T3.d),d]/\(∀ t∈ts,t.ok 100/\t.pos)/\ts.length<=500/\tkD d=true/\AJ d=true/\(BK d=false->Ed c.NoBoard)/\∀ w h:Nat,d=t2 w h->(1<=w/\w<=16/\1<=h/\h<=16)->P (Y9 ts w h)
structure C_painted (P:Program)(w:World)(K:Fg)(mg:Str->Option Value)(base:Heap)(c:Cs):Prop where
 check_board_:Callee P w K mg base (CX1 P w base) "check_board" 3 ["thing"] (J8 K BT (YQ c))
 seen_at_:Callee P w K mg base CX0 "seen_at" 5 ["faces","dot"] (J8 K BT J6j)
theorem XC {f:Addr} (F:Fun K "painted" "painted" BP f fd) (Z:Bi mg) {c:Cs} (Y:Ex K mg base c) (G:C_painted P w K mg base c):FnOk P w K mg base (CX1 P w base) 6 f fd ["faces","board"] (AX K BT (PM c)):=by
 refine F.okDXG ET (fun ds PP Ed h=>?_) (fun cdv A outer s H E M bg ds PP Ed hr hE hS_=>?_)
 · obtain ⟨ts,d,rfl,hts,hl,hd,hno,h0,hP⟩:=h
   rfl
 · obtain ⟨ts,d,rfl,hts,hl,hd,hno,h0,hP⟩:=hS_
   refine ⟨_,(HU (OJ (GG hE JU G.check_board_ hr.m rfl (J0 (jdv 1) J1)))
    (HU (CM (BR [2,3]) (jdv 1) (PG.or (AV (n:=2) K (by rfl) (by rfl) (J6 (pg_name (i:=2) ET.nd rfl (by walk_at "o")) (J6 (pg_name (i:=3) ET.nd rfl (by walk_at "o")) Y1))) (AW (n:=2) K (by rfl) (by rfl) (J6 (pg_name (i:=2) ET.nd rfl (by walk_at "o")) (J6 (pg_name (i:=3) ET.nd rfl (by walk_at "o")) Y1)))))
    (ZJ (X:=(V1 (CX1 P w base) P w K mg base ["faces","board","wide","high"] "painted" (J3 BP) f cdv A outer s H E)) (V4 0) (Q5h (X:=(V1 (CX1 P w base) P w K mg base ["faces","board","wide","high"] "painted" (J3 BP) f cdv A outer s H E)) (N':=["y","wide","faces"]) (map:=[none,some 2,some 0]) (by rfl) (by rfl) (by decide +kernel) (by rfl) ⟨⟨rfl,rfl,rfl,by walk_at "o"⟩,⟨⟨rfl,rfl,rfl,by walk_at "o"⟩,True.intro⟩⟩ (gkeep_name rfl) fun cl0 C0 fp0 s0 H0=>⟨(pg_name (X:=(Q0 (V1 (CX1 P w base) P w K mg base ["faces","board","wide","high"] "painted" (J3 BP) f cdv A outer s H E) ["y","wide","faces"] _ cl0 C0 fp0 s0 H0)) (i:=0) (Z2 ["y","wide","faces"] (by decide +kernel)) rfl (by walk_at "o")),AG,(J4p (X:=(Q0 (V1 (CX1 P w base) P w K mg base ["faces","board","wide","high"] "painted" (J3 BP) f cdv A outer s H E) ["y","wide","faces"] _ cl0 C0 fp0 s0 H0)) (V4 0) (MG (X:=(Q0 (V1 (CX1 P w base) P w K mg base ["faces","board","wide","high"] "painted" (J3 BP) f cdv A outer s H E) ["y","wide","faces"] _ cl0 C0 fp0 s0 H0)) (N':=["x","faces","y"]) (map:=[none,some 2,some 0]) (by rfl) (by rfl) (by decide +kernel) (by rfl) ⟨⟨rfl,rfl,rfl,by walk_at "o"⟩,⟨⟨rfl,rfl,rfl,by walk_at "o"⟩,True.intro⟩⟩ (gkeep_name rfl) fun cl1 C1 fp1 s1 H1=>⟨(pg_name (X:=(Q0 (Q0 (V1 (CX1 P w base) P w K mg base ["faces","board","wide","high"] "painted" (J3 BP) f cdv A outer s H E) ["y","wide","faces"] _ cl0 C0 fp0 s0 H0) ["x","faces","y"] _ cl1 C1 fp1 s1 H1)) (i:=0) (Z2 ["x","faces","y"] (by decide +kernel)) rfl (by walk_at "o")),AG,(J9 (X:=(Q0 (Q0 (V1 (CX1 P w base) P w K mg base ["faces","board","wide","high"] "painted" (J3 BP) f cdv A outer s H E) ["y","wide","faces"] _ cl0 C0 fp0 s0 H0) ["x","faces","y"] _ cl1 C1 fp1 s1 H1)) G.seen_at_ hr.m rfl (J0 (jdv 1) (J0 (Z9 (J0 (jdv 0) (J0 (jdv 2) J1))) J1)))⟩) (AK rfl Z.range_ (J0 (jdv 1) J1)))⟩) (AK rfl Z.range_ (J0 (jdv 3) J1))))),?_⟩
   walk_at "g"
   refine ⟨by show (AJ d&&true)=true;rw [hno];rfl,d,rfl,hd,hno,h0,fun hb=>?_⟩
   obtain ⟨wd,h,rfl,h1,h2,h3,h4⟩:∃ w h:Nat,d=t2 w h/\1<=w/\w<=16/\1<=h/\h<=16:=by
    unfold BK at hb
    split at hb
    · rename_i x y
      simp only [DI,Bool.and_eq_true,decide_eq_true_eq] at hb
      exact ⟨x.toNat,y.toNat,by rw [Int.toNat_of_nonneg (by omega),Int.toNat_of_nonneg (by omega)],by omega,by omega,by omega,by omega⟩
    · cases hb
   replace hP:=hP wd h rfl ⟨h1,h2,h3,h4⟩
   walk_at "g"
   refine And.intro ⟨by omega,by omega⟩ ?_
   walk_at "g"
   refine And.intro (by rw [rangeD_le];omega) ?_
   refine ⟨fun i acc=>acc=((V6 0 h).take i).map (J7l ts wd),rfl,fun i x acc e hacc=>?_,fun acc hacc=>?_⟩
   · have et:((V6 0 h).take (i+1)).map (J7l ts wd)=acc++[J7l ts wd x]:=by rw [hacc,List.take_succ,show (V6 0 h)[i]?=some x from e,List.map_append];rfl
     rw [et]
     obtain ⟨y,hy,rfl⟩:=BF (List.mem_of_getElem? e)
     clear et e hacc
     walk_at "g"
     refine And.intro ⟨by omega,by omega⟩ ?_
     walk_at "g"
     refine And.intro (by rw [rangeD_le];omega) ?_
     refine HZ (WK ts y) (fun d Q hd hQ=>?_) (fun d hd=>?_) rfl
     · obtain ⟨x,hx,rfl⟩:=BF hd
       have hx:x<wd:=hx
       walk_at "g"
       exact ⟨ts,x,y,rfl,hts,hl,(Bd.of (by omega) (by omega)),(Bd.of (by omega) (by omega)),hQ⟩
     · obtain ⟨x,hx,rfl⟩:=BF hd
       exact UA _
   · rw [hacc,show ((V6 0 h).take (V6 0 (Int.toNat h)).length)=V6 0 h from List.take_length]
     exact hP
structure R4 where
 x:Int
 y:Int
 z:Int
 w:Int
abbrev R4.d (r:R4):D:=sp4 r.x r.y r.z r.w
structure R4.ok (r:R4)(n:Nat):Prop where
 x:Bd n r.x
 y:Bd n r.y
 z:Bd n r.z
 w:Bd n r.w
theorem R4.ok.mono {r:R4}{m n:Nat}(h:r.ok m)(k:m<=n):r.ok n:=⟨h.x.mono k,h.y.mono k,h.z.mono k,h.w.mono k⟩
structure M4 where
 a:R4
 b:R4
 c:R4
 e:R4
abbrev M4.d (m:M4):D:=.tup [m.a.d,m.b.d,m.c.d,m.e.d]
structure M4.ok (m:M4)(n:Nat):Prop where
 a:m.a.ok n
 b:m.b.ok n
 c:m.c.ok n
 e:m.e.ok n
def J9h (r s:R4):Int:=r.x*s.x+r.y*s.y+r.z*s.z+r.w*s.w
def app (m:M4)(s:R4):R4:=⟨J9h m.a s,J9h m.b s,J9h m.c s,J9h m.e s⟩
structure Scal (r r':R4):Prop where
 x:r'.x*r.w=r.x*r'.w
 y:r'.y*r.w=r.y*r'.w
 z:r'.z*r.w=r.z*r'.w
 w:0<r'.w
abbrev HN:Stmt:=top 47
theorem GM:FnScope ["_law_x","_law_y","_law_z","_law_w","_law_common"] ["_law_x","_law_y","_law_z","_law_w"] (J3 HN):=⟨rfl,rfl,rfl,by decide +kernel,rfl,by decide +kernel,by decide +kernel⟩
def J0k:DSp:=fun ds P _=>∃ (r:R4) (n:Nat),ds=[.int r.x,.int r.y,.int r.z,.int r.w]/\0<r.w/\r.ok n/\n<=9000/\∀ r':R4,Scal r r'->r'.ok n->P r'.d
structure C__law_spot (P:Program)(w:World)(K:Fg)(mg:Str->Option Value)(base:Heap)(c:Cs):Prop where
 _law_gcd_:Callee P w K mg base CX0 "_law_gcd" 1 ["_law_one","_law_other"] (J8 K BT J6s)
theorem SD {f:Addr} (F:Fun K "_law_spot" "_law_spot" HN f fd) (Z:Bi mg) {c:Cs} (Y:Ex K mg base c) (G:C__law_spot P w K mg base c):FnOk P w K mg base CX0 2 f fd ["_law_x","_law_y","_law_z","_law_w"] (J8 K BT J0k):=by
 refine F.okD GM (fun ds PP Ed h=>?_) (fun cdv A outer s H E M bg ds PP Ed hr hS_=>?_)
 · obtain ⟨r,n,rfl,h0,ro,hn,hP⟩:=h
   rfl
 · obtain ⟨r,n,rfl,h0,ro,hn,hP⟩:=hS_
   refine ⟨_,(J4 (V0 (i:=4) GM.nd rfl (by walk_at "o") (J9 G._law_gcd_ hr.m rfl (J0 (J9 G._law_gcd_ hr.m rfl (J0 (jdv 0) (J0 (jdv 1) J1))) (J0 (J9 G._law_gcd_ hr.m rfl (J0 (jdv 2) (J0 (jdv 3) J1))) J1))))
    (J4 (Z3 (Y3 GC CT (jdv 3) J5 (V7 _)) (J7 (V0 (i:=4) GM.nd rfl (by walk_at "o") (Q4 AR Y8 J5 (jdv 4)))) Y0)
    (J7 (V2 (Z9 (J0 (Q4 KG CH (jdv 0) (jdv 4)) (J0 (Q4 KG CH (jdv 1) (jdv 4)) (J0 (Q4 KG CH (jdv 2) (jdv 4)) (J0 (Q4 KG CH (jdv 3) (jdv 4)) J1))))))))),?_⟩
   walk_at "g"
   refine ⟨_,_,rfl,?_⟩
   walk_at "g"
   refine ⟨_,_,rfl,?_⟩
   walk_at "g"
   refine ⟨_,_,rfl,?_⟩
   have hne:r.w≠0:=by omega
   have eg:((Int.gcd ((Int.gcd r.x r.y:Nat):Int) ((Int.gcd r.z r.w:Nat):Int):Nat):Int)=low [r.x,r.y,r.z] r.w:=by
    have:=UV r.x r.y r.z r.w
    have p:=(ZG (ns:=[r.x,r.y,r.z]) hne).2 h0
    have q:Int.gcd ((Int.gcd r.x r.y:Nat):Int) ((Int.gcd r.z r.w:Nat):Int)=Nat.gcd (Int.gcd r.x r.y) (Int.gcd r.z r.w):=rfl
    rw [q];omega
   rw [eg]
   walk_at "g"
   refine IfP.f (by simp;omega) ?_
   obtain ⟨a1,a2,a3,a4,e1,e2,e3,e4,p4,_,⟨q1,q2,q3⟩,⟨l1,l2,l3,l4⟩⟩:=J4d (x:=r.x) (y:=r.y) (z:=r.z) hne
   have hl:∀ i:Int,(low [r.x,r.y,r.z] r.w≠0/\∃ n,Bd n (low [r.x,r.y,r.z] r.w)/\n<=9000):=fun i=>⟨J4e hne,n,Nat.lt_of_le_of_lt (Q3c hne) ro.w,hn⟩
   walk_at "g"
   refine ⟨hl 0,hl 0,hl 0,hl 0,?_⟩
   walk_at "g"
   have:=hP ⟨a1,a2,a3,a4⟩ ⟨q1,q2,q3,p4⟩ ⟨Nat.lt_of_le_of_lt l1 ro.x,Nat.lt_of_le_of_lt l2 ro.y,Nat.lt_of_le_of_lt l3 ro.z,Nat.lt_of_le_of_lt l4 ro.w⟩
   subst e1 e2 e3 e4
   exact this
structure Sq where
 l:Nat
 t:Nat
 w:Nat
 h:Nat
abbrev Sq.d (q:Sq):D:=sp4 q.l q.t q.w q.h
def Sq.in (q:Sq)(x y:Int):Prop:=(q.l:Int)<=x/\x<q.l+q.w/\(q.t:Int)<=y/\y<q.t+q.h
instance (q:Sq) (x y:Int):Decidable (q.in x y):=inferInstanceAs (Decidable (_/\_/\_/\_))
def Sq.dots (q:Sq):List (Int×Int):=(List.range q.w).flatMap fun (i:Nat)=>(List.range q.h).map fun (j:Nat)=>((q.l:Int)+(i:Int),(q.t:Int)+(j:Int))
theorem Sq.mem_dots {q:Sq}{x y:Int}:(x,y)∈q.dots↔q.in x y:=by
 unfold Sq.dots Sq.in
 rw [List.mem_flatMap]
 constructor
 · rintro ⟨i,hi,h⟩
   obtain ⟨j,hj,e⟩:=List.mem_map.mp h
   have hi:=List.mem_range.mp hi
   have hj:=List.mem_range.mp hj
   injection e with e1 e2
   omega
 · rintro ⟨h1,h2,h3,h4⟩
   exact ⟨(x - q.l).toNat,List.mem_range.mpr (by omega),List.mem_map.mpr ⟨(y - q.t).toNat,List.mem_range.mpr (by omega),Prod.ext (show (q.l:Int)+((x - q.l).toNat:Int)=x by omega) (show (q.t:Int)+((y - q.t).toNat:Int)=y by omega)⟩⟩
theorem OX {α β:Type}(f:α->List β)(n:Nat):∀ l:List α,(∀ a∈l,(f a).length=n)->(l.flatMap f).length=l.length*n
 | [],_=>by simp
 | a::l,h=>by
   rw [List.flatMap_cons,List.length_append,h a (List.mem_cons_self ..),OX f n l fun b hb=>h b (List.mem_cons_of_mem _ hb),List.length_cons,Nat.succ_mul]
   omega
theorem Sq.dots_len (q:Sq):q.dots.length=q.w*q.h:=by
 unfold Sq.dots
 rw [OX _ q.h _ fun a _=>by simp]
 simp
theorem Sq.dots_nodup (q:Sq):q.dots.Nodup:=by
 unfold Sq.dots
 have key:∀ l:List Nat,l.Nodup->(l.flatMap fun (i:Nat)=>(List.range q.h).map fun (j:Nat)=>((q.l:Int)+(i:Int),(q.t:Int)+(j:Int))).Nodup:=by
  intro l
  induction l with
  | nil=>intro _;exact List.nodup_nil
  | cons a l ih =>
    intro nd
    rw [List.nodup_cons] at nd
    rw [List.flatMap_cons]
    refine List.nodup_append.mpr ⟨?_,ih nd.2,fun x hx y hy e=>?_⟩
    · have:∀ m:List Nat,m.Nodup->(m.map fun j:Nat=>((q.l:Int)+(a:Int),(q.t:Int)+(j:Int))).Nodup:=by
       intro m
       induction m with
       | nil=>intro _;exact List.nodup_nil
       | cons b m ih2 =>
         intro nm
         rw [List.nodup_cons] at nm
         rw [List.map_cons,List.nodup_cons]
         refine ⟨fun z=>nm.1 ?_,ih2 nm.2⟩
         obtain ⟨c,hc,e⟩:=List.mem_map.mp z
         injection e with _ e2
         have:c=b:=by omega
         rw [<- this];exact hc
      exact this _ List.nodup_range
    · obtain ⟨j,_,rfl⟩:=List.mem_map.mp hx
      obtain ⟨i2,hi2,hy⟩:=List.mem_flatMap.mp hy
      obtain ⟨j2,_,rfl⟩:=List.mem_map.mp hy
      injection e with e1 _
      have:i2=a:=by omega
      exact nd.1 (by rw [<- this];exact hi2)
 exact key _ List.nodup_range
theorem GE {α:Type}[DecidableEq α]:∀ {l1 l2:List α},l1.Nodup->(∀ x∈l1,x∈l2)->l1.length<=l2.length
 | [],_,_,_=>Nat.zero_le _
 | a::l1,l2,nd,h=>by
   rw [List.nodup_cons] at nd
   have m:=h a (List.mem_cons_self ..)
   have ih:=GE (l1:=l1) (l2:=l2.erase a) nd.2 fun x hx=>(List.mem_erase_of_ne (fun z=>nd.1 (by rw [<- z];exact hx))).mpr (h x (List.mem_cons_of_mem _ hx))
   rw [List.length_erase_of_mem m] at ih
   have:=List.length_pos_of_mem m
   rw [List.length_cons]
   omega
abbrev Sn:=Option (Nat×Int×Int)
def dpD:Sn->Option D:=Option.map fun z=>t2 z.2.1 z.2.2
structure DpOk (q:Sq)(st:Int->Int->Sn)(ks:List (List Int))(xs:List D):Prop where
 len:ks.length=xs.length
 nd:ks.Nodup
 inn:∀ k∈ks,∃ x y,k=[x,y]/\q.in x y
 at':∀ x y,q.in x y->AT ks xs [x,y]=dpD (st x y)
 bd:∀ x y,q.in x y->Q8o (st x y)
 pb:∀ x y i a b,q.in x y->st x y=some (i,a,b)->0<b
theorem VI {k:List Int}{d:D}:∀ {ks:List (List Int)} {xs:List D} {j:Nat},ks.Nodup->ks[j]?=some k->xs[j]?=some d->AT ks xs k=some d
 | [],_,_,_,e,_=>by simp at e
 | _::_,[],_,_,_,e=>by simp at e
 | k0::ks,x::xs,0,nd,e1,e2=>by
   simp at e1 e2
   unfold AT
   rw [if_pos e1,e2]
 | k0::ks,x::xs,j+1,nd,e1,e2=>by
   simp at e1 e2
   rw [List.nodup_cons] at nd
   unfold AT
   rw [if_neg (fun z=>nd.1 (by rw [z];exact List.mem_of_getElem? e1))]
   exact VI nd.2 e1 e2
theorem MB {k:List Int}{d:D}:∀ {ks:List (List Int)} {xs:List D},AT ks xs k=some d->d∈xs/\k∈ks
 | [],_,h=>by unfold AT at h;cases h
 | _::_,[],h=>by unfold AT at h;cases h
 | k0::ks,x::xs,h=>by
   unfold AT at h
   by_cases e:k0=k
   · rw [if_pos e] at h
     cases h
     exact ⟨List.mem_cons_self ..,by rw [e];exact List.mem_cons_self ..⟩
   · rw [if_neg e] at h
     obtain ⟨h1,h2⟩:=MB h
     exact ⟨List.mem_cons_of_mem _ h1,List.mem_cons_of_mem _ h2⟩
section
variable {q:Sq}{st:Int->Int->Sn}{ks:List (List Int)}{xs:List D}
theorem DpOk.val (h:DpOk q st ks xs){d:D}(m:d∈xs):∃ x y i a b,q.in x y/\st x y=some (i,a,b)/\d=t2 a b/\Bd 500 a/\Bd 500 b:=by
 obtain ⟨j,ej⟩:=List.getElem?_of_mem m
 have hj:=(List.getElem?_eq_some_iff.mp ej).1
 have ek:ks[j]?=some (ks[j]'(by rw [h.len];exact hj)):=List.getElem?_eq_getElem _
 obtain ⟨x,y,e,hin⟩:=h.inn _ (List.mem_of_getElem? ek)
 have f:=VI h.nd ek ej
 rw [e,h.at' x y hin] at f
 have ok:=h.bd x y hin
 cases es:st x y with
 | none=>rw [es] at f;cases f
 | some z =>
   obtain ⟨i,a,b⟩:=z
   rw [es] at f ok
   exact ⟨x,y,i,a,b,hin,es,(Option.some.inj f).symm,ok.1,ok.2⟩
theorem DpOk.has (h:DpOk q st ks xs){x y:Int}{i:Nat}{a b:Int}(hin:q.in x y)(e:st x y=some (i,a,b)):t2 a b∈xs:=by
 have f:=h.at' x y hin
 rw [e] at f
 exact (MB f).1
theorem DpOk.all (h:DpOk q st ks xs):(∀ x y,q.in x y->∃ z,st x y=some z)↔¬ (ks.length<q.w*q.h):=by
 have mem:∀ x y,q.in x y->([x,y]∈ks↔∃ z,st x y=some z):=fun x y hin=>by
  have f:=h.at' x y hin
  constructor
  · intro m
    obtain ⟨d,e⟩:=OY h.len m
    rw [e] at f
    cases es:st x y with
    | none=>rw [es] at f;cases f
    | some z=>exact ⟨z,rfl⟩
  · rintro ⟨z,e⟩
    rw [e] at f
    exact (MB f).2
 have tok:∀ k∈ks,k∈q.dots.map fun p=>[p.1,p.2]:=fun k m=>by
  obtain ⟨x,y,rfl,hin⟩:=h.inn k m
  exact List.mem_map.mpr ⟨(x,y),Sq.mem_dots.mpr hin,rfl⟩
 have lenm:(q.dots.map fun p=>[p.1,p.2]).length=q.w*q.h:=by rw [List.length_map,Sq.dots_len]
 constructor
 · intro ha
   have nd:(q.dots.map fun p=>[p.1,p.2]).Nodup:=by
    have:∀ l:List (Int×Int),l.Nodup->(l.map fun p=>[p.1,p.2]).Nodup:=by
     intro l
     induction l with
     | nil=>intro _;exact List.nodup_nil
     | cons a l ih =>
       intro nd
       rw [List.nodup_cons] at nd
       rw [List.map_cons,List.nodup_cons]
       refine ⟨fun z=>nd.1 ?_,ih nd.2⟩
       obtain ⟨c,hc,e⟩:=List.mem_map.mp z
       have:c=a:=by
        obtain ⟨c1,c2⟩:=c
        obtain ⟨a1,a2⟩:=a
        simp at e
        rw [Prod.mk.injEq];exact e
       rw [<- this];exact hc
    exact this _ q.dots_nodup
   have:=GE nd (l2:=ks) fun k m=>by
    obtain ⟨⟨x,y⟩,hm,rfl⟩:=List.mem_map.mp m
    have hin:=Sq.mem_dots.mp hm
    exact (mem x y hin).mpr (ha x y hin)
   omega
 · intro hl x y hin
   by_cases z:[x,y]∈ks
   · exact (mem x y hin).mp z
   · have:=GE (l1:=[x,y]::ks) (l2:=q.dots.map fun p=>[p.1,p.2]) (List.nodup_cons.mpr ⟨z,h.nd⟩) fun k m=>by
      rcases List.mem_cons.mp m with e|e
      · rw [e];exact List.mem_map.mpr ⟨(x,y),Sq.mem_dots.mpr hin,rfl⟩
      · exact tok k e
     rw [List.length_cons] at this
     omega
theorem DpOk.nil (hst:∀ x y,q.in x y->st x y=none):DpOk q st [] []:=⟨rfl,List.nodup_nil,(fun _ m=>by cases m),fun x y hin=>by rw [hst x y hin];rfl,fun x y hin=>by rw [hst x y hin];trivial,fun x y i a b hin e=>by rw [hst x y hin] at e;cases e⟩
theorem DpOk.congr {st':Int->Int->Sn}(h:DpOk q st ks xs)(e:∀ x y,q.in x y->st' x y=st x y):DpOk q st' ks xs:=⟨h.len,h.nd,h.inn,fun x y hin=>by rw [e x y hin];exact h.at' x y hin,fun x y hin=>by rw [e x y hin];exact h.bd x y hin,fun x y i a b hin q=>h.pb x y i a b hin (by rw [<- e x y hin];exact q)⟩
def PQ (st:Int->Int->Sn)(x y:Int)(v:Sn):Int->Int->Sn:=fun x' y'=>if x'=x/\y'=y then v else st x' y'
theorem IF {x y:Int}{v:Sn}:PQ st x y v x y=v:=by unfold PQ;rw [if_pos ⟨rfl,rfl⟩]
theorem JZ {x y x' y':Int}{v:Sn}(h:¬ (x'=x/\y'=y)):PQ st x y v x' y'=st x' y':=by unfold PQ;rw [if_neg h]
theorem DpOk.put (h:DpOk q st ks xs){x y:Int}{i:Nat}{a b:Int}(hin:q.in x y)(ok:Bd 500 a/\Bd 500 b)(b0:0<b):DpOk q (PQ st x y (some (i,a,b))) (FG ks xs [x,y] (t2 a b)).1 (FG ks xs [x,y] (t2 a b)).2 where
 len:=J3g _ _ h.len
 nd:=WR h.nd
 inn:=fun k m=>by
  rw [QP] at m
  split at m
  · exact h.inn k m
  · rcases List.mem_append.mp m with z|z
    · exact h.inn k z
    · rw [List.mem_singleton.mp z];exact ⟨x,y,rfl,hin⟩
 at':=fun x' y' hin'=>by
  rw [J1b _ _ h.len]
  by_cases z:x'=x/\y'=y
  · obtain ⟨rfl,rfl⟩:=z
    rw [if_pos rfl,IF];rfl
  · rw [if_neg (fun e=>z (by simp at e;exact ⟨e.1.symm,e.2.symm⟩)),JZ z]
    exact h.at' x' y' hin'
 bd:=fun x' y' hin'=>by
  by_cases z:x'=x/\y'=y
  · obtain ⟨rfl,rfl⟩:=z
    rw [IF];exact ok
  · rw [JZ z];exact h.bd x' y' hin'
 pb:=fun x' y' i' a' b' hin' e=>by
  by_cases z:x'=x/\y'=y
  · obtain ⟨rfl,rfl⟩:=z
    rw [IF] at e;cases e;exact b0
  · rw [JZ z] at e;exact h.pb x' y' i' a' b' hin' e
end
def ED (q:Sq)(st:Int->Int->Sn)(x y:Nat)(d:D):D:=if q.in x y then (match st x y with|some (k,_,_)=>.int k|none=>d) else d
def AI (q:Sq)(st:Int->Int->Sn)(rows:List (List D)):List (List D):=rows.mapIdx fun y row=>row.mapIdx fun x d=>ED q st x y d
section
variable {q:Sq}{st st':Int->Int->Sn}{rows:List (List D)}
theorem NW:(AI q st rows).length=rows.length:=by unfold AI;simp
theorem QR {y:Nat}{row:List D}(e:rows[y]?=some row):(AI q st rows)[y]?=some (row.mapIdx fun x d=>ED q st x y d):=by
 unfold AI
 rw [List.getElem?_mapIdx,e];rfl
theorem GW (h:∀ x y:Int,q.in x y->st' x y=st x y):AI q st' rows=AI q st rows:=by
 unfold AI
 congr 1
 funext y row
 congr 1
 funext x d
 unfold ED
 by_cases z:q.in x y
 · rw [if_pos z,if_pos z,h _ _ z]
 · rw [if_neg z,if_neg z]
theorem UM (h:∀ x y:Int,q.in x y->st x y=none):AI q st rows=rows:=by
 unfold AI
 apply List.ext_getElem?
 intro y
 rw [List.getElem?_mapIdx]
 cases rows[y]? with
 | none=>rfl
 | some row =>
   show some _=some _
   congr 1
   apply List.ext_getElem?
   intro x
   rw [List.getElem?_mapIdx]
   cases row[x]? with
   | none=>rfl
   | some d =>
     show some _=some _
     congr 1
     show ED q st x y d=d
     unfold ED
     by_cases z:q.in x y
     · rw [if_pos z,h _ _ z]
     · rw [if_neg z]
theorem WX {x y:Nat}{row:List D}{n:Nat}{a b:Int}(hin:q.in x y)(e:rows[y]?=some row):(AI q st rows).set y ((row.mapIdx fun x d=>ED q st x y d).set x (.int n))=AI q (PQ st x y (some (n,a,b))) rows:=by
 apply List.ext_getElem?
 intro y'
 by_cases z:y=y'
 · subst z
   have hy:y<(AI q st rows).length:=by rw [NW];exact (List.getElem?_eq_some_iff.mp e).1
   rw [List.getElem?_set,if_pos rfl,if_pos hy,QR e]
   congr 1
   apply List.ext_getElem?
   intro x'
   rw [List.getElem?_mapIdx]
   by_cases z2:x=x'
   · subst z2
     rw [List.getElem?_set,if_pos rfl,List.length_mapIdx]
     cases er:row[x]? with
     | none =>
       rw [if_neg (by have:=List.getElem?_eq_none_iff.mp er;omega)];rfl
     | some d =>
       rw [if_pos (List.getElem?_eq_some_iff.mp er).1]
       show some _=some _
       congr 1
       show D.int n=ED q (PQ st x y (some (n,a,b))) x y d
       unfold ED
       rw [if_pos hin,IF]
   · rw [List.getElem?_set_ne z2,List.getElem?_mapIdx]
     cases row[x']? with
     | none=>rfl
     | some d =>
       show some _=some _
       congr 1
       unfold ED
       rw [JZ (fun w=>z2 (by omega))]
 · rw [List.getElem?_set_ne z]
   unfold AI
   rw [List.getElem?_mapIdx,List.getElem?_mapIdx]
   cases rows[y']? with
   | none=>rfl
   | some row' =>
     show some (row'.mapIdx fun x' d=>ED q st x' y' d)=some (row'.mapIdx fun x' d=>ED q (PQ st x y (some (n,a,b))) x' y' d)
     have:(fun (x':Nat) d=>ED q st x' y' d)=fun (x':Nat) d=>ED q (PQ st x y (some (n,a,b))) x' y' d:=by
      funext x' d
      unfold ED
      rw [JZ (fun w=>z (by omega))]
     rw [this]
end
def EC (q:Sq):List (Int×Int):=[((q.l:Int),(q.t:Int)),((q.l:Int),(q.t:Int)+q.h - 1),((q.l:Int)+q.w - 1,(q.t:Int)),((q.l:Int)+q.w - 1,(q.t:Int)+q.h - 1)]
def QQ (t:T3)(q:Sq)(st:Int->Int->Sn):Prop:=(∀ x y,q.in x y->∃ z,st x y=some z)/\∀ c∈EC q,∀ x y i a b,q.in x y->st x y=some (i,a,b)->¬ (t.top c.1 c.2*sgn t.tn*b<a*DL t.tn)
theorem Q1x (t:T3)(x y u v:Int):t.top x y=t.top u v+(t.top 1 0 - t.top 0 0)*(x - u)+(t.top 0 1 - t.top 0 0)*(y - v):=by
 unfold T3.top T3.wA T3.wB T3.wC det
 grind
theorem J2i {q:Sq}{x y:Int}(t:T3)(s:Int)(hin:q.in x y):∃ c∈EC q,t.top c.1 c.2*s<=t.top x y*s:=by
 have key:∀ u v:Int,(u,v)∈EC q->0<=(t.top 1 0 - t.top 0 0)*s*(x - u)->0<=(t.top 0 1 - t.top 0 0)*s*(y - v)->∃ c∈EC q,t.top c.1 c.2*s<=t.top x y*s:=fun u v m h1 h2=>by
  refine ⟨(u,v),m,?_⟩
  have e:t.top x y*s=t.top u v*s+(t.top 1 0 - t.top 0 0)*s*(x - u)+(t.top 0 1 - t.top 0 0)*s*(y - v):=by
   rw [Q1x t x y u v]
   generalize t.top 1 0 - t.top 0 0=A
   generalize t.top 0 1 - t.top 0 0=B
   grind
  show t.top u v*s<=_
  omega
 generalize (t.top 1 0 - t.top 0 0)*s=A at key
 generalize (t.top 0 1 - t.top 0 0)*s=B at key
 obtain ⟨h1,h2,h3,h4⟩:=hin
 have nn:∀ a b:Int,a<=0->b<=0->0<=a*b:=fun a b ha hb=>by
  have:=Int.mul_nonneg (show 0<=-a by omega) (show 0<=-b by omega)
  rw [Int.neg_mul_neg] at this
  exact this
 by_cases ha:0<=A<;>by_cases hb:0<=B
 · exact key _ _ (by simp [EC]) (Int.mul_nonneg ha (show 0<=x - q.l by omega)) (Int.mul_nonneg hb (show 0<=y - q.t by omega))
 · exact key _ _ (List.mem_cons_of_mem _ (List.mem_cons_self ..)) (Int.mul_nonneg ha (show 0<=x - q.l by omega)) (nn _ _ (by omega) (show y - (q.t+q.h - 1)<=0 by omega))
 · exact key _ _ (List.mem_cons_of_mem _ (List.mem_cons_of_mem _ (List.mem_cons_self ..))) (nn _ _ (by omega) (show x - (q.l+q.w - 1)<=0 by omega)) (Int.mul_nonneg hb (show 0<=y - q.t by omega))
 · exact key _ _ (List.mem_cons_of_mem _ (List.mem_cons_of_mem _ (List.mem_cons_of_mem _ (List.mem_cons_self ..)))) (nn _ _ (by omega) (show x - (q.l+q.w - 1)<=0 by omega)) (nn _ _ (by omega) (show y - (q.t+q.h - 1)<=0 by omega))
theorem J1h {q:Sq}{st:Int->Int->Sn}{ks:List (List Int)}{xs:List D}{t:T3}{n:Nat}{x y:Int}(h:DpOk q st ks xs)(hp:QQ t q st)(hin:q.in x y):AE x y n t (st x y)=st x y:=by
 obtain ⟨⟨i,a,b⟩,e⟩:=hp.1 x y hin
 have b0:=h.pb x y i a b hin e
 obtain ⟨c,mc,hc⟩:=J2i t (sgn t.tn) hin
 have no:=hp.2 c mc x y i a b hin e
 rw [e]
 unfold AE
 by_cases z:t.has x y
 · rw [if_pos z]
   show (if t.top x y*sgn t.tn*b<a*DL t.tn then _ else _)=_
   rw [if_neg]
   have:=Int.mul_le_mul_of_nonneg_right hc (Int.le_of_lt b0)
   omega
 · rw [if_neg z]
theorem J0r {x y:Int}{n:Nat}{t:T3}{s:Sn}:AE x y n t (AE x y n t s)=AE x y n t s:=by
 unfold AE
 by_cases z:t.has x y
 · rw [if_pos z,if_pos z]
   match s with
   | none=>simp
   | some (i,a,b) =>
     by_cases w:t.top x y*sgn t.tn*b<a*DL t.tn
     · simp [w]
     · simp [w]
 · rw [if_neg z,if_neg z]
theorem LB {x y:Int}{n:Nat}{t:T3}{s:Sn}(h:¬ t.has x y):AE x y n t s=s:=by unfold AE;rw [if_neg h]
theorem J0s {x y:Int}{n:Nat}{t:T3}(h:t.has x y):AE x y n t none=some (n,t.top x y*sgn t.tn,DL t.tn):=by unfold AE;rw [if_pos h]
theorem WH {x y:Int}{n i:Nat}{a b:Int}{t:T3}(h:t.has x y)(l:t.top x y*sgn t.tn*b<a*DL t.tn):AE x y n t (some (i,a,b))=some (n,t.top x y*sgn t.tn,DL t.tn):=by unfold AE;rw [if_pos h];simp [l]
theorem J0t {x y:Int}{n i:Nat}{a b:Int}{t:T3}(h:t.has x y)(l:¬ t.top x y*sgn t.tn*b<a*DL t.tn):AE x y n t (some (i,a,b))=some (i,a,b):=by unfold AE;rw [if_pos h];simp [l]
theorem J6g {n:Int}(h:n≠0):0<DL n:=by unfold DL;split<;>omega
abbrev CB:Stmt:=top 32
theorem BN:FnScope ["square","left","top","wide","high"] ["square"] (J3 CB):=⟨rfl,rfl,rfl,by decide +kernel,rfl,by decide +kernel,by decide +kernel⟩
def KU (q:Sq):List D:=q.dots.map fun p=>t2 p.1 p.2
def J9y (q:Sq):D->List D
 | .int x=>(List.range q.h).map fun (j:Nat)=>t2 x ((q.t:Int)+(j:Int))
 | _=>[]
theorem YA (q:Sq):(V6 q.l q.w).flatMap (J9y q)=KU q:=by
 unfold KU Sq.dots V6
 rw [List.flatMap_map,List.map_flatMap]
 congr 1
 funext i
 show (List.range q.h).map _=_
 rw [List.map_map];rfl
def Q2e (x:Int):D->D
 | .int y=>t2 x y
 | _=>.non
theorem J5x (q:Sq)(x:Int):(V6 q.t q.h).map (Q2e x)=J9y q (.int x):=by
 unfold V6 J9y
 rw [List.map_map];rfl
theorem HP {l:Int}{n:Nat}{d:D}(h:d∈V6 l n):∃ i:Nat,i<n/\d=.int (l+i):=by
 unfold V6 at h
 obtain ⟨i,hi,rfl⟩:=List.mem_map.mp h
 exact ⟨i,List.mem_range.mp hi,rfl⟩
def LA:DSp:=fun ds P _=>∃ q:Sq,ds=[q.d]/\q.l<=16/\q.t<=16/\q.w<=16/\q.h<=16/\P (.lst (KU q))
theorem XF {f:Addr} (F:Fun K "dots_in" "dots_in" CB f fd) (Z:Bi mg) {c:Cs} (Y:Ex K mg base c):FnOk P w K mg base CX0 1 f fd ["square"] (J8 K BT LA):=by
 refine F.okD BN (fun ds PP Ed h=>?_) (fun cdv A outer s H E M bg ds PP Ed hr hS_=>?_)
 · obtain ⟨q,rfl,hl,ht,hw,hh,hP⟩:=h
   rfl
 · obtain ⟨q,rfl,hl,ht,hw,hh,hP⟩:=hS_
   refine ⟨_,(J4 (CM (BR [1,2,3,4]) (jdv 0) (PG.or (AV (n:=4) K (by rfl) (by rfl) (J6 (pg_name (i:=1) BN.nd rfl (by walk_at "o")) (J6 (pg_name (i:=2) BN.nd rfl (by walk_at "o")) (J6 (pg_name (i:=3) BN.nd rfl (by walk_at "o")) (J6 (pg_name (i:=4) BN.nd rfl (by walk_at "o")) Y1))))) (AW (n:=4) K (by rfl) (by rfl) (J6 (pg_name (i:=1) BN.nd rfl (by walk_at "o")) (J6 (pg_name (i:=2) BN.nd rfl (by walk_at "o")) (J6 (pg_name (i:=3) BN.nd rfl (by walk_at "o")) (J6 (pg_name (i:=4) BN.nd rfl (by walk_at "o")) Y1)))))))
    (J7 (V2 (GH (X:=(V1 CX0 P w K mg base ["square","left","top","wide","high"] "dots_in" (J3 CB) f cdv A outer s H E).nox) (V4 0) (V4 1) (RK (X:=(V1 CX0 P w K mg base ["square","left","top","wide","high"] "dots_in" (J3 CB) f cdv A outer s H E).nox) (N':=["x","y","top","high"]) (map:=[none,none,some 2,some 4]) (mp2:=[some 0,none,some 2,some 3]) (by rfl) (by rfl) (by decide +kernel) (by rfl) ⟨⟨rfl,rfl,rfl,by walk_at "o"⟩,⟨⟨rfl,rfl,rfl,by walk_at "o"⟩,True.intro⟩⟩ (gkeep_name rfl) (gkeep_name rfl) rfl rfl fun cl0 C0 fp0 s0 H0=>⟨(pg_name (X:=(Q0 (V1 CX0 P w K mg base ["square","left","top","wide","high"] "dots_in" (J3 CB) f cdv A outer s H E).nox ["x","y","top","high"] _ cl0 C0 fp0 s0 H0).nox) (i:=0) (Z2 ["x","y","top","high"] (by decide +kernel)) rfl (by walk_at "o")),(ON (X:=(Q0 (V1 CX0 P w K mg base ["square","left","top","wide","high"] "dots_in" (J3 CB) f cdv A outer s H E).nox ["x","y","top","high"] _ cl0 C0 fp0 s0 H0).nox) rfl Z.range_ (J0 (jdv 2) (J0 (Q4 AS Y8 (jdv 2) (jdv 3)) J1))),(pg_name (X:=(Q0 (V1 CX0 P w K mg base ["square","left","top","wide","high"] "dots_in" (J3 CB) f cdv A outer s H E).nox ["x","y","top","high"] _ cl0 C0 fp0 s0 H0).nox) (i:=1) (Z2 ["x","y","top","high"] (by decide +kernel)) rfl (by walk_at "o")),AG,(Z9 (X:=(Q0 (V1 CX0 P w K mg base ["square","left","top","wide","high"] "dots_in" (J3 CB) f cdv A outer s H E).nox ["x","y","top","high"] _ cl0 C0 fp0 s0 H0).nox) (J0 (jdv 0) (J0 (jdv 1) J1)))⟩) (ON rfl Z.range_ (J0 (jdv 1) (J0 (Q4 AS Y8 (jdv 1) (jdv 3)) J1))))))),?_⟩
   walk_at "g"
   refine And.intro ⟨by omega,by omega,by omega,by omega⟩ ?_
   rw [show ((q.l:Int)+q.w - q.l).toNat=q.w by omega]
   refine And.intro (by rw [rangeD_len];omega) ?_
   refine IA (J9y q) (fun x hx acc Q hQ=>?_) (by rw [YA];exact hP)
   obtain ⟨i,hi,rfl⟩:=HP hx
   walk_at "g"
   refine And.intro ⟨by omega,by omega,by omega,by omega⟩ ?_
   rw [show ((q.t:Int)+q.h - q.t).toNat=q.h by omega]
   refine And.intro (by rw [rangeD_len];omega) ?_
   refine IQ (Q2e ((q.l:Int)+i)) (fun y Q hy hQ=>?_) (fun y hy=>?_) (by rw [J5x];exact hQ)
   · obtain ⟨j,hj,rfl⟩:=HP hy
     walk_at "g"
     exact hQ
   · obtain ⟨j,hj,rfl⟩:=HP hy
     rfl
abbrev AD:Stmt:=top 33
theorem Z6:FnScope ["square","left","top","wide","high"] ["square"] (J3 AD):=⟨rfl,rfl,rfl,by decide +kernel,rfl,by decide +kernel,by decide +kernel⟩
def Q8m (q:Sq):D->List D
 | .int x=>[t2 x q.t,t2 x ((q.t:Int)+q.h - 1)]
 | _=>[]
def RQ:DSp:=fun ds P _=>∃ q:Sq,ds=[q.d]/\P (.lst ((EC q).map fun p=>t2 p.1 p.2))
theorem OA {f:Addr} (F:Fun K "corner_dots" "corner_dots" AD f fd) (Z:Bi mg) {c:Cs} (Y:Ex K mg base c):FnOk P w K mg base CX0 1 f fd ["square"] (J8 K BT RQ):=by
 refine F.okD Z6 (fun ds PP Ed h=>?_) (fun cdv A outer s H E M bg ds PP Ed hr hS_=>?_)
 · obtain ⟨q,rfl,hP⟩:=h
   rfl
 · obtain ⟨q,rfl,hP⟩:=hS_
   refine ⟨_,(J4 (CM (BR [1,2,3,4]) (jdv 0) (PG.or (AV (n:=4) K (by rfl) (by rfl) (J6 (pg_name (i:=1) Z6.nd rfl (by walk_at "o")) (J6 (pg_name (i:=2) Z6.nd rfl (by walk_at "o")) (J6 (pg_name (i:=3) Z6.nd rfl (by walk_at "o")) (J6 (pg_name (i:=4) Z6.nd rfl (by walk_at "o")) Y1))))) (AW (n:=4) K (by rfl) (by rfl) (J6 (pg_name (i:=1) Z6.nd rfl (by walk_at "o")) (J6 (pg_name (i:=2) Z6.nd rfl (by walk_at "o")) (J6 (pg_name (i:=3) Z6.nd rfl (by walk_at "o")) (J6 (pg_name (i:=4) Z6.nd rfl (by walk_at "o")) Y1)))))))
    (J7 (V2 (GH (X:=(V1 CX0 P w K mg base ["square","left","top","wide","high"] "corner_dots" (J3 AD) f cdv A outer s H E).nox) (V4 0) (V4 1) (RK (X:=(V1 CX0 P w K mg base ["square","left","top","wide","high"] "corner_dots" (J3 AD) f cdv A outer s H E).nox) (N':=["x","y","top","high"]) (map:=[none,none,some 2,some 4]) (mp2:=[some 0,none,some 2,some 3]) (by rfl) (by rfl) (by decide +kernel) (by rfl) ⟨⟨rfl,rfl,rfl,by walk_at "o"⟩,⟨⟨rfl,rfl,rfl,by walk_at "o"⟩,True.intro⟩⟩ (gkeep_name rfl) (gkeep_name rfl) rfl rfl fun cl0 C0 fp0 s0 H0=>⟨(pg_name (X:=(Q0 (V1 CX0 P w K mg base ["square","left","top","wide","high"] "corner_dots" (J3 AD) f cdv A outer s H E).nox ["x","y","top","high"] _ cl0 C0 fp0 s0 H0).nox) (i:=0) (Z2 ["x","y","top","high"] (by decide +kernel)) rfl (by walk_at "o")),(Z5 (X:=(Q0 (V1 CX0 P w K mg base ["square","left","top","wide","high"] "corner_dots" (J3 AD) f cdv A outer s H E).nox ["x","y","top","high"] _ cl0 C0 fp0 s0 H0).nox) (by rfl) (Z9 (J0 (jdv 2) (J0 (Q4 AR Y8 (Q4 AS Y8 (jdv 2) (jdv 3)) J5) J1)))),(pg_name (X:=(Q0 (V1 CX0 P w K mg base ["square","left","top","wide","high"] "corner_dots" (J3 AD) f cdv A outer s H E).nox ["x","y","top","high"] _ cl0 C0 fp0 s0 H0).nox) (i:=1) (Z2 ["x","y","top","high"] (by decide +kernel)) rfl (by walk_at "o")),AG,(Z9 (X:=(Q0 (V1 CX0 P w K mg base ["square","left","top","wide","high"] "corner_dots" (J3 AD) f cdv A outer s H E).nox ["x","y","top","high"] _ cl0 C0 fp0 s0 H0).nox) (J0 (jdv 0) (J0 (jdv 1) J1)))⟩) (Z5 (by rfl) (Z9 (J0 (jdv 1) (J0 (Q4 AR Y8 (Q4 AS Y8 (jdv 1) (jdv 3)) J5) J1)))))))),?_⟩
   walk_at "g"
   refine IA (Q8m q) (fun x hx acc Q hQ=>?_) hP
   obtain ⟨n,rfl⟩:∃ n,x=.int n:=by
    simp only [List.mem_cons,List.not_mem_nil,or_false] at hx
    rcases hx with e|e<;>exact ⟨_,e⟩
   clear hx
   walk_at "g"
   refine IQ (Q2e n) (fun y Q hy hQ=>?_) (fun y hy=>?_) hQ
   · simp only [List.mem_cons,List.not_mem_nil,or_false] at hy
     rcases hy with rfl|rfl<;>(walk_at "g";exact hQ)
   · simp only [List.mem_cons,List.not_mem_nil,or_false] at hy
     rcases hy with rfl|rfl<;>rfl
abbrev V5:Stmt:=top 34
theorem AH:FnScope ["face","square","depths","wide","high","corners"] ["face","square","depths"] (J3 V5):=⟨rfl,rfl,rfl,by decide +kernel,rfl,by decide +kernel,by decide +kernel⟩
def Q4d (t:T3):D->D
 | .tup [.int x,.int y]=>t2 (t.top x y*sgn t.tn) (DL t.tn)
 | _=>.non
theorem RG {q:Sq}{x y:Int}(m:(x,y)∈EC q)(hl:q.l<=16)(ht:q.t<=16)(hw:q.w<=16)(hh:q.h<=16)(w1:1<=q.w)(h1:1<=q.h):Bd 100 x/\Bd 100 y:=by
 unfold EC at m
 simp only [List.mem_cons,List.not_mem_nil,or_false,Prod.mk.injEq] at m
 rcases m with ⟨rfl,rfl⟩|⟨rfl,rfl⟩|⟨rfl,rfl⟩|⟨rfl,rfl⟩<;>exact ⟨(Bd.of (by omega) (by omega):Bd 8 _).mono (by decide),(Bd.of (by omega) (by omega):Bd 8 _).mono (by decide)⟩
def ZH:D->D->Bool
 | .tup [.int a,.int b],.tup [.int c,.int e]=>decide (a*e<c*b)
 | _,_=>false
theorem J4z (l xs:List D):(l.flatMap fun d=>xs.map fun e=>D.bl (ZH d e))=(l.flatMap fun d=>xs.map (ZH d)).map D.bl:=by
 rw [List.map_flatMap]
 congr 1
 funext d
 rw [List.map_map];rfl
def J6k:DSp:=fun ds P _=>∃ (t:T3) (q:Sq) (tg:Tg) (ks:List (List Int)) (xs:List D) (st:Int->Int->Sn),ds=[t.d,q.d,.dct tg ks xs]/\t.ok 100/\t.tn≠0/\(q.l<=16/\q.t<=16/\1<=q.w/\q.w<=16/\1<=q.h/\q.h<=16)/\DpOk q st ks xs/\∀ b:Bool,(b=true↔QQ t q st)->P (.bl b)
structure C_is_passed_over (P:Program)(w:World)(K:Fg)(mg:Str->Option Value)(base:Heap)(c:Cs):Prop where
 unreduced_depth_:Callee P w K mg base (CX1 P w base) "unreduced_depth" 4 ["face","dot"] (J8 K BT (Q0h c))
 corner_dots_:Callee P w K mg base CX0 "corner_dots" 1 ["square"] (J8 K BT RQ)
 is_less_:Callee P w K mg base CX0 "is_less" 1 ["one","other"] (J8 K BT TM)
theorem KJ {f:Addr} (F:Fun K "is_passed_over" "is_passed_over" V5 f fd) (Z:Bi mg) {c:Cs} (Y:Ex K mg base c) (G:C_is_passed_over P w K mg base c):FnOk P w K mg base CX0 5 f fd ["face","square","depths"] (J8 K BT J6k):=by
 refine F.okD AH (fun ds PP Ed h=>?_) (fun cdv A outer s H E M bg ds PP Ed hr hS_=>?_)
 · obtain ⟨t,q,tg,ks,xs,st,rfl,ok,hn,⟨hl,ht,w1,hw,h1,hh⟩,hD,hP⟩:=h
   rfl
 · obtain ⟨t,q,tg,ks,xs,st,rfl,ok,hn,⟨hl,ht,w1,hw,h1,hh⟩,hD,hP⟩:=hS_
   refine ⟨_,(J4 (CM (BR [3,4]) (LW (WJ K (by rfl)) (jdv 1) (OL J5) OM) (PG.or (AV (n:=2) K (by rfl) (by rfl) (J6 (pg_name (i:=3) AH.nd rfl (by walk_at "o")) (J6 (pg_name (i:=4) AH.nd rfl (by walk_at "o")) Y1))) (AW (n:=2) K (by rfl) (by rfl) (J6 (pg_name (i:=3) AH.nd rfl (by walk_at "o")) (J6 (pg_name (i:=4) AH.nd rfl (by walk_at "o")) Y1)))))
    (J4 (Z3 (Y3 GC CT (Q5 J2n Q0a rfl Z.len_ AU (J0 (jdv 2) J1)) (Q4 Y5 CH (jdv 3) (jdv 4)) (V7 _)) (J7 (V2 HW)) Y0)
    (J4 (OH (X:=(V1 CX0 P w K mg base ["face","square","depths","wide","high","corners"] "is_passed_over" (J3 V5) f cdv A outer s H E).nox) false (i:=5) AH.nd rfl (by walk_at "o") (V4 0) (MG (X:=(V1 CX0 P w K mg base ["face","square","depths","wide","high","corners"] "is_passed_over" (J3 V5) f cdv A outer s H E).nox) (N':=["dot","face"]) (map:=[none,some 0]) (by rfl) (by rfl) (by decide +kernel) (by rfl) ⟨⟨rfl,rfl,rfl,by walk_at "o"⟩,True.intro⟩ (gkeep_name rfl) fun cl0 C0 fp0 s0 H0=>⟨(pg_name (X:=(Q0 (V1 CX0 P w K mg base ["face","square","depths","wide","high","corners"] "is_passed_over" (J3 V5) f cdv A outer s H E).nox ["dot","face"] _ cl0 C0 fp0 s0 H0)) (i:=0) (Z2 ["dot","face"] (by decide +kernel)) rfl (by walk_at "o")),AG,(GG (X:=(Q0 (V1 CX0 P w K mg base ["face","square","depths","wide","high","corners"] "is_passed_over" (J3 V5) f cdv A outer s H E).nox ["dot","face"] _ cl0 C0 fp0 s0 H0)) DW EG G.unreduced_depth_ hr.m rfl (J0 (jdv 1) (J0 (jdv 0) J1)))⟩) (Z5 (by rfl) (J9 G.corner_dots_ hr.m rfl (J0 (jdv 1) J1))))
    (J7 (V2 (ZL (Q5 (RI K (by rfl) (by rfl)) SZ rfl Z.any_ J5z (J0 (GH (X:=(V1 CX0 P w K mg base ["face","square","depths","wide","high","corners"] "is_passed_over" (J3 V5) f cdv A outer s H E).nox) (V4 0) (V4 1) (RK (X:=(V1 CX0 P w K mg base ["face","square","depths","wide","high","corners"] "is_passed_over" (J3 V5) f cdv A outer s H E).nox) (N':=["depth","there","depths"]) (map:=[none,none,some 2]) (mp2:=[some 0,none,some 2]) (by rfl) (by rfl) (by decide +kernel) (by rfl) ⟨⟨rfl,rfl,rfl,by walk_at "o"⟩,True.intro⟩ (gkeep_name rfl) (gkeep_name rfl) rfl rfl fun cl0 C0 fp0 s0 H0=>⟨(pg_name (X:=(Q0 (V1 CX0 P w K mg base ["face","square","depths","wide","high","corners"] "is_passed_over" (J3 V5) f cdv A outer s H E).nox ["depth","there","depths"] _ cl0 C0 fp0 s0 H0).nox) (i:=0) (Z2 ["depth","there","depths"] (by decide +kernel)) rfl (by walk_at "o")),(J4o (X:=(Q0 (V1 CX0 P w K mg base ["face","square","depths","wide","high","corners"] "is_passed_over" (J3 V5) f cdv A outer s H E).nox ["depth","there","depths"] _ cl0 C0 fp0 s0 H0).nox) (by rfl) (jdv 2)),(pg_name (X:=(Q0 (V1 CX0 P w K mg base ["face","square","depths","wide","high","corners"] "is_passed_over" (J3 V5) f cdv A outer s H E).nox ["depth","there","depths"] _ cl0 C0 fp0 s0 H0).nox) (i:=1) (Z2 ["depth","there","depths"] (by decide +kernel)) rfl (by walk_at "o")),AG,(J9 (X:=(Q0 (V1 CX0 P w K mg base ["face","square","depths","wide","high","corners"] "is_passed_over" (J3 V5) f cdv A outer s H E).nox ["depth","there","depths"] _ cl0 C0 fp0 s0 H0).nox) G.is_less_ hr.m rfl (J0 (jdv 0) (J0 (jdv 1) J1)))⟩) (Z5 (by rfl) (jdv 5))) J1)))))))),?_⟩
   have wb:Bd 64 (q.w:Int):=Bd.of (by omega) (by omega)
   have hb:Bd 64 (q.h:Int):=Bd.of (by omega) (by omega)
   walk_at "g"
   refine And.intro (fun z=>absurd z.1 (show ¬ (HT.sIx 4 0 (some 2)=0) by decide)) ?_
   walk_at "g"
   refine ⟨tg,ks,xs,.inl rfl,?_⟩
   walk_at "g"
   have hall:=hD.all
   by_cases hlt:ks.length<q.w*q.h
   · refine IfP.t (decide_eq_true (by rw [<- Int.natCast_mul];omega)) ?_
     walk_at "g"
     exact hP false ⟨fun z=>(by cases z),fun z=>absurd hlt (hall.mp z.1)⟩
   · refine IfP.f (decide_eq_false (by rw [<- Int.natCast_mul];omega)) ?_
     walk_at "g"
     refine ⟨q,rfl,?_⟩
     walk_at "g"
     refine HZ (Q4d t) (fun d Q hd hQ=>?_) (fun d hd=>?_) ?_
     · obtain ⟨⟨x,y⟩,hm,rfl⟩:=List.mem_map.mp hd
       have hx:=RG hm hl ht hw hh w1 h1
       walk_at "g"
       exact ⟨t,x,y,100,rfl,ok,hx.1,hx.2,by decide,by decide,fun z=>absurd z hn,fun _=>hQ⟩
     · obtain ⟨⟨x,y⟩,hm,rfl⟩:=List.mem_map.mp hd
       rfl
     walk_at "g"
     refine IA (fun d=>xs.map fun e=>.bl (ZH d e)) (fun d hd acc Q hQ=>?_) ?_
     · obtain ⟨⟨x,y⟩,hm,rfl⟩:=List.mem_map.mp (by rw [List.map_map] at hd;exact hd)
       have hx:=RG hm hl ht hw hh w1 h1
       obtain ⟨o1,o2⟩:=PF ok hx.1 hx.2
       walk_at "g"
       refine ⟨tg,ks,xs,.inl rfl,?_⟩
       refine And.intro (by
        rw [<- hD.len]
        have:=GE hD.nd (l2:=q.dots.map fun p=>[p.1,p.2]) fun k m=>by
         obtain ⟨x,y,rfl,hin⟩:=hD.inn k m
         exact List.mem_map.mpr ⟨(x,y),Sq.mem_dots.mpr hin,rfl⟩
        rw [List.length_map,Sq.dots_len] at this
        have:=Nat.mul_le_mul hw hh
        omega) ?_
       refine IQ (fun e=>.bl (ZH (Q4d t (t2 x y)) e)) (fun e Q he hQ=>?_) (fun e he=>rfl) hQ
       obtain ⟨x',y',i,a,b,hin,es,rfl,ba,bb⟩:=hD.val he
       walk_at "g"
       exact ⟨_,_,_,_,rfl,⟨o1.mono (by decide),o2.mono (by decide)⟩,⟨ba.mono (by decide),bb.mono (by decide)⟩,hQ⟩
     · rw [J4z]
       walk_at "g"
       rw [MF]
       walk_at "g"
       refine hP _ ?_
       rw [Bool.not_eq_true',<- Bool.not_eq_true,List.any_eq_true]
       constructor
       · intro hno
         refine ⟨hall.mpr hlt,fun c mc x y i a b hin es hlt'=>hno ⟨true,List.mem_flatMap.mpr ⟨Q4d t (t2 c.1 c.2),List.mem_map.mpr ⟨t2 c.1 c.2,List.mem_map.mpr ⟨c,mc,rfl⟩,rfl⟩,List.mem_map.mpr ⟨t2 a b,hD.has hin es,decide_eq_true hlt'⟩⟩,rfl⟩⟩
       · rintro hp ⟨z,mz,ez⟩
         obtain ⟨d,md,mz⟩:=List.mem_flatMap.mp mz
         obtain ⟨d',md',rfl⟩:=List.mem_map.mp md
         obtain ⟨c,mc,rfl⟩:=List.mem_map.mp md'
         obtain ⟨e,me,rfl⟩:=List.mem_map.mp mz
         obtain ⟨x',y',i,a,b,hin,es,rfl,ba,bb⟩:=hD.val me
         exact hp.2 c mc x' y' i a b hin es (of_decide_eq_true ez)
abbrev GN:Stmt:=top 35
theorem FR:FnScope ["rows","depths","square","number","face","dot","depth"] ["rows","depths","square","number","face"] (J3 GN):=⟨rfl,rfl,rfl,by decide +kernel,rfl,by decide +kernel,by decide +kernel⟩
theorem MC {q:Sq}{i:Nat}{d:D}(e:(KU q)[i]?=some d):∃ x y:Int,q.dots[i]?=some (x,y)/\d=t2 x y/\q.in x y:=by
 unfold KU at e
 rw [List.getElem?_map] at e
 obtain ⟨⟨x,y⟩,e1,rfl⟩:=Option.map_eq_some_iff.mp e
 exact ⟨x,y,e1,rfl,Sq.mem_dots.mp (List.mem_of_getElem? e1)⟩
theorem dotsT_len (q:Sq):(KU q).length=q.dots.length:=by unfold KU;simp
theorem PD {q:Sq}{st st' st'':Int->Int->Sn}{i:Nat}{x y:Int}{n:Nat}{t:T3}(ed:q.dots[i]?=some (x,y))(hst:∀ x y,st' x y=if (x,y)∈q.dots.take i then AE x y n t (st x y) else st x y)(h2:∀ x' y',st'' x' y'=if x'=x/\y'=y then AE x y n t (st' x y) else st' x' y'):∀ x' y',st'' x' y'=if (x',y')∈q.dots.take (i+1) then AE x' y' n t (st x' y') else st x' y':=fun x' y'=>by
 rw [h2,List.take_add_one,ed,Option.toList_some]
 by_cases z:x'=x/\y'=y
 · obtain ⟨rfl,rfl⟩:=z
   rw [if_pos ⟨rfl,rfl⟩,if_pos (by simp),hst]
   split
   · exact J0r
   · rfl
 · rw [if_neg z,hst]
   have:((x',y')∈List.take i q.dots++[(x,y)])↔(x',y')∈List.take i q.dots:=by
    rw [List.mem_append,List.mem_singleton,Prod.mk.injEq]
    exact ⟨fun w=>w.elim id fun w=>absurd w z,.inl⟩
   by_cases w:(x',y')∈List.take i q.dots
   · rw [if_pos w,if_pos (this.mpr w)]
   · rw [if_neg w,if_neg (fun v=>w (this.mp v))]
theorem UD {st':Int->Int->Sn}{x y:Int}{s:Sn}(e:s=st' x y):∀ x' y',st' x' y'=if x'=x/\y'=y then s else st' x' y':=fun x' y'=>by
 by_cases z:x'=x/\y'=y
 · obtain ⟨rfl,rfl⟩:=z
   rw [if_pos ⟨rfl,rfl⟩,e]
 · rw [if_neg z]
theorem DpOk.small {q:Sq}{st:Int->Int->Sn}{ks:List (List Int)}{xs:List D}(h:DpOk q st ks xs)(hw:q.w<=16)(hh:q.h<=16):ks.length<=256:=by
 have:=GE h.nd (l2:=q.dots.map fun p=>[p.1,p.2]) fun k m=>by
  obtain ⟨x,y,rfl,hin⟩:=h.inn k m
  exact List.mem_map.mpr ⟨(x,y),Sq.mem_dots.mpr hin,rfl⟩
 rw [List.length_map,Sq.dots_len] at this
 have:=Nat.mul_le_mul hw hh
 omega
theorem Q7s {a a2:Addr}{rs:List Addr}{r1 r2:List (List D)}{t1 t2:Tg}{k1 k2:List (List Int)}{x1 x2:List D}{ρ:Ev}(e0:ρ[0]?=some (some (grd K a rs r2)))(e1:ρ[1]?=some (some (dcg K a2 t2 k2 x2))):ZQ [grp K a rs r1,dcp K a2 t1 k1 x1] ρ [grp K a rs r2,dcp K a2 t2 k2 x2]:=by
 refine ⟨rfl,fun p hp=>?_,fun i p' e=>?_⟩
 · rcases List.mem_cons.mp hp with z|z
   · rw [z];exact OS
   · rw [List.mem_singleton.mp z];exact J5p
 · match i,e with
   | 0,e=>cases e;exact e0
   | 1,e=>cases e;exact e1
   | i+2,e=>simp at e
def Q5s (q:Sq)(rows:List (List D)):Prop:=q.t+q.h<=rows.length/\∀ row∈rows,q.l+q.w<=row.length
def J0h (K:Fg):DSU:=fun qs ds P=>∃ (a a2:Addr) (rs:List Addr) (rows:List (List D)) (tg:Tg) (ks:List (List Int)) (xs:List D) (q:Sq) (n:Nat) (t:T3) (st:Int->Int->Sn),(qs=[grp K a rs (AI q st rows),dcp K a2 tg ks xs]/\ds=[q.d,.int n,t.d])/\rs.length=rows.length/\Q5s q rows/\(q.l<=16/\q.t<=16/\q.w<=16/\q.h<=16)/\t.ok 100/\t.pos/\DpOk q st ks xs /\
 ∀ tg' ks' xs' st',(∀ x y,q.in x y->st' x y=AE x y n t (st x y))->DpOk q st' ks' xs'->P [grp K a rs (AI q st' rows),dcp K a2 tg' ks' xs'] .non
structure C_paint_face (P:Program)(w:World)(K:Fg)(mg:Str->Option Value)(base:Heap)(c:Cs):Prop where
 dots_in_:Callee P w K mg base CX0 "dots_in" 1 ["square"] (J8 K BT LA)
 has_dot_:Callee P w K mg base CX0 "has_dot" 4 ["face","dot"] (J8 K BT KZ)
 unreduced_depth_:Callee P w K mg base (CX1 P w base) "unreduced_depth" 4 ["face","dot"] (J8 K BT (Q0h c))
 is_less_:Callee P w K mg base CX0 "is_less" 1 ["one","other"] (J8 K BT TM)
theorem PY {f:Addr} (F:Fun K "paint_face" "paint_face" GN f fd) (Z:Bi mg) {c:Cs} (Y:Ex K mg base c) (G:C_paint_face P w K mg base c):FnOk P w K mg base CX0 5 f fd ["rows","depths","square","number","face"] (CL K BT (J0h K)):=by
 refine F.okDU FR (fun qs ds PP h=>?_) (fun cdv A outer s H E M bg qs ds PP hr hS_ hat=>?_)
 · obtain ⟨a,a2,rs,rows,tg,ks,xs,q,n,t,st,⟨rfl,rfl⟩,hlr,⟨ft,fl⟩,⟨hl,ht,hw,hh⟩,ok,pos,hD,hP⟩:=h
   rfl
 · obtain ⟨a,a2,rs,rows,tg,ks,xs,q,n,t,st,⟨rfl,rfl⟩,hlr,⟨ft,fl⟩,⟨hl,ht,hw,hh⟩,ok,pos,hD,hP⟩:=hS_
   refine ⟨_,(HS (AY (V4 5) PassesOwn.never rfl (Z5 (by rfl) (J9 G.dots_in_ hr.m rfl (J0 (jdv 2) J1))) (pg_name (i:=5) FR.nd rfl (by walk_at "o")) (J7 (Z3 (AC (by rfl) (J9 G.has_dot_ hr.m rfl (J0 (jdv 4) (J0 (jdv 5) J1))) (fun _=>rfl)) (J4 (V0 (i:=6) FR.nd rfl (by walk_at "o") (GG DW EG G.unreduced_depth_ hr.m rfl (J0 (jdv 4) (J0 (jdv 5) J1))))
    (J7 (Z3 (JQ (Y3 (J1i K (by rfl) hr.units) Q2z (jdv 5) (jdv 1) (by with_unfolding_all rfl)) (GY (AC (by rfl) (J9 G.is_less_ hr.m rfl (J0 (jdv 6) (J0 (Q8 (J8r K (by rfl) hr.units) Q2x (jdv 1) (jdv 5) (fun _ _=>rfl)) J1))) (fun _=>rfl)))) (J4 (J4k (i:=1) (by rfl) (jdv 6) (GV (pv 1) (JE.h (jdv 5)) (J7j K (by rfl) hr.units)))
    (J7 (KP (i:=0) (by rfl) (jdv 3) (GV (FI IN (pv 0) (JE.h (Q8 (Q9 K (by rfl)) V9 (jdv 5) J5 (fun _ _=>rfl))) (fun _ _=>rfl)) (JE.h (Q8 (Q9 K (by rfl)) V9 (jdv 5) J5 (fun _ _=>rfl))) DY)))) Y0))) Y0)))
    ZI),?_⟩
   walk_at "g"
   refine ⟨q,rfl,hl,ht,hw,hh,?_⟩
   walk_at "g"
   refine ⟨fun i ρ=>∃ tg' ks' xs' st' v5 v6,ρ=[some (grd K a rs (AI q st' rows)),some (dcg K a2 tg' ks' xs'),some q.d,some (.int n),some t.d,v5,v6]/\DpOk q st' ks' xs'/\∀ x y,st' x y=if (x,y)∈q.dots.take i then AE x y n t (st x y) else st x y,⟨tg,ks,xs,st,_,_,rfl,hD,fun x y=>by simp⟩,?_,?_⟩
   · rintro i z ρ e ⟨tg',ks',xs',st',v5,v6,rfl,hD',hst⟩
     obtain ⟨x,y,ed,rfl,hin⟩:=MC e
     clear e
     have hin0:=hin
     obtain ⟨x0,x1,y0,y1⟩:=hin0
     obtain ⟨x,rfl⟩:∃ m:Nat,x=m:=⟨x.toNat,by omega⟩
     obtain ⟨y,rfl⟩:∃ m:Nat,y=m:=⟨y.toNat,by omega⟩
     have bx:Bd 100 (x:Int):=(Bd.of (by omega) (by omega):Bd 8 _).mono (by decide)
     have b_y:Bd 100 (y:Int):=(Bd.of (by omega) (by omega):Bd 8 _).mono (by decide)
     obtain ⟨o1,o2⟩:=PF ok bx b_y
     have hf:=hD'.at' x y hin
     have hsm:=hD'.small hw hh
     obtain ⟨row,er⟩:∃ row,rows[y]?=some row:=⟨rows[y]'(by omega),List.getElem?_eq_getElem _⟩
     have hrow:=fl row (List.mem_of_getElem? er)
     walk_at "g"
     refine ⟨t,x,y,100,rfl,ok,bx,b_y,by decide,?_⟩
     by_cases hhas:t.has x y
     · refine IfP.t (by simp [hhas]) ?_
       have tn0:=T3.has_tn pos hhas
       walk_at "g"
       refine ⟨t,x,y,100,rfl,ok,bx,b_y,by decide,by decide,fun z=>absurd z tn0,fun _=>?_⟩
       walk_at "g"
       refine ⟨tg',ks',xs',[(x:Int),(y:Int)],.inr ⟨a2,rfl⟩,rfl,?_⟩
       have put:AE x y n t (st' x y)=some (n,t.top x y*sgn t.tn,DL t.tn)->∀ tg'',∃ tg1 ks1 xs1 st1 v5 v6,[some (grd K a rs ((AI q st' rows).set y ((row.mapIdx fun x d=>ED q st' x y d).set x (.int n)))),some (dcg K a2 tg'' (FG ks' xs' [(x:Int),(y:Int)] (t2 (t.top x y*sgn t.tn) (DL t.tn))).1 (FG ks' xs' [(x:Int),(y:Int)] (t2 (t.top x y*sgn t.tn) (DL t.tn))).2),some q.d,some (D.int n),some t.d,some (t2 x y),some (t2 (t.top x y*sgn t.tn) (DL t.tn))]=[some (grd K a rs (AI q st1 rows)),some (dcg K a2 tg1 ks1 xs1),some q.d,some (.int n),some t.d,v5,v6]/\DpOk q st1 ks1 xs1/\∀ x y,st1 x y=if (x,y)∈q.dots.take (i+1) then AE x y n t (st x y) else st x y:=fun hs tg'' =>
        ⟨tg'',_,_,PQ st' x y (some (n,t.top x y*sgn t.tn,DL t.tn)),_,_,by rw [WX hin er],hD'.put hin ⟨o1,o2⟩ (J6g tn0),PD ed hst fun x' y'=>by rw [hs];rfl⟩
       have store:AE x y n t (st' x y)=some (n,t.top x y*sgn t.tn,DL t.tn)->Q4t (Q1e K 1 (QD 6) (QD 5)) (Q1d K 0 (QD 3) (dOp oIx (QD 5) (dC (D.int 1))) (dOp oIx (QD 5) (dC (D.int 0)))) { nx:=fun ρ=>∃ tg1 ks1 xs1 st1 v5 v6,ρ=[some (grd K a rs (AI q st1 rows)),some (dcg K a2 tg1 ks1 xs1),some q.d,some (.int n),some t.d,v5,v6]/\DpOk q st1 ks1 xs1/\∀ x y,st1 x y=if (x,y)∈q.dots.take (i+1) then AE x y n t (st x y) else st x y,rt:=fun _=>False } [some (grd K a rs (AI q st' rows)),some (dcg K a2 tg' ks' xs'),some q.d,some (.int n),some t.d,some (t2 x y),some (t2 (t.top x y*sgn t.tn) (DL t.tn))]:=fun hs=>by
        refine ⟨a2,tg',ks',xs',rfl,?_⟩
        walk_at "g"
        refine ⟨[(x:Int),(y:Int)],rfl,by omega,fun tg''=>?_⟩
        refine ⟨a,rs,AI q st' rows,rfl,by rw [NW];exact hlr,?_⟩
        walk_at "g"
        refine ⟨y,_,rfl,QR er,?_⟩
        walk_at "g"
        refine ⟨x,rfl,by rw [List.length_mapIdx];omega,?_⟩
        exact put hs tg''
       cases es:st' x y with
       | none =>
         rw [es] at hf
         rw [show AT ks' xs' [(x:Int),(y:Int)]=none from hf]
         walk_at "g"
         exact store (by rw [es];exact J0s hhas)
       | some zz =>
         obtain ⟨j,aa,bb⟩:=zz
         rw [es] at hf
         have hf:AT ks' xs' [(x:Int),(y:Int)]=some (t2 aa bb):=hf
         have hb:=hD'.bd x y hin
         rw [es] at hb
         rw [hf]
         walk_at "g"
         refine ⟨tg',ks',xs',[(x:Int),(y:Int)],t2 aa bb,.inr ⟨a2,rfl⟩,rfl,hf,?_⟩
         walk_at "g"
         refine ⟨_,_,_,_,rfl,⟨o1.mono (by decide),o2.mono (by decide)⟩,⟨hb.1.mono (by decide),hb.2.mono (by decide)⟩,?_⟩
         by_cases hlt:t.top x y*sgn t.tn*bb<aa*DL t.tn
         · refine IfP.t (by simp [hlt]) ?_
           exact store (by rw [es];exact WH hhas hlt)
         · refine IfP.f (by simp [hlt]) ?_
           walk_at "g"
           exact ⟨tg',ks',xs',st',_,_,rfl,hD',PD ed hst (UD (by rw [es];exact J0t hhas hlt))⟩
     · refine IfP.f (by simp [hhas]) ?_
       walk_at "g"
       exact ⟨tg',ks',xs',st',_,_,rfl,hD',PD ed hst (UD (LB hhas))⟩
   · rintro ρ ⟨tg',ks',xs',st',v5,v6,rfl,hD',hst⟩
     refine ⟨_,Q7s rfl rfl,hP tg' ks' xs' st' (fun x y hin=>?_) hD'⟩
     rw [hst,dotsT_len,List.take_length,if_pos (Sq.mem_dots.mpr hin)]
abbrev EV:Stmt:=top 36
theorem AA:FnScope ["rows","faces","square","depths","passed","number","face"] ["rows","faces","square"] (J3 EV):=⟨rfl,rfl,rfl,by decide +kernel,rfl,by decide +kernel,by decide +kernel⟩
theorem Q7l {i j:Nat}{p1 p2:Pc}{ρ:Ev}(a1:p1.at)(a2:p2.at)(e1:ρ[i]?=some (some p1.g))(e2:ρ[j]?=some (some p2.g)):IV [i,j] [p1,p2] ρ:=by
 refine ⟨rfl,fun k p e=>?_⟩
 match k,e with
 | 0,e=>cases e;exact ⟨a1,i,rfl,e1⟩
 | 1,e=>cases e;exact ⟨a2,j,rfl,e2⟩
 | k+2,e=>simp at e
theorem Q0v {i:Nat}{p1:Pc}{ρ:Ev}(a1:p1.at)(e1:ρ[i]?=some (some p1.g)):IV [i] [p1] ρ:=by
 refine ⟨rfl,fun k p e=>?_⟩
 match k,e with
 | 0,e=>cases e;exact ⟨a1,i,rfl,e1⟩
 | k+1,e=>simp at e
theorem Q0z {a:Addr}{rs:List Addr}{r1 r2:List (List D)}{ρ:Ev}(e0:ρ[0]?=some (some (grd K a rs r2))):ZQ [grp K a rs r1] ρ [grp K a rs r2]:=by
 refine ⟨rfl,fun p hp=>?_,fun i p' e=>?_⟩
 · rw [List.mem_singleton.mp hp];exact OS
 · match i,e with
   | 0,e=>cases e;exact e0
   | i+1,e=>simp at e
open Classical in
noncomputable def HQ (ts:List T3) (q:Sq):Nat->Nat
 | 0=>0
 | i+1=>match ts[i]? with
   | some t=>if t.tn≠0/\QQ t q (fun x y=>seenN ts x y i) then HQ ts q i+1 else HQ ts q i
   | none=>HQ ts q i
open Classical in
theorem WW {ts:List T3}{q:Sq}{i:Nat}{t:T3}(e:ts[i]?=some t):HQ ts q (i+1)=if t.tn≠0/\QQ t q (fun x y=>seenN ts x y i) then HQ ts q i+1 else HQ ts q i:=by
 show (match ts[i]? with|some t=>(if t.tn≠0/\QQ t q (fun x y=>seenN ts x y i) then HQ ts q i+1 else HQ ts q i)|none=>HQ ts q i)=_
 rw [e]
structure Sq.ok (q:Sq):Prop where
 l:q.l<=16
 t:q.t<=16
 w1:1<=q.w
 w:q.w<=16
 h1:1<=q.h
 h:q.h<=16
def Q1m (K:Fg):DSU:=fun qs ds P=>∃ (a:Addr) (rs:List Addr) (rows:List (List D)) (q:Sq) (ts:List T3),(qs=[grp K a rs rows]/\ds=[.lst (ts.map T3.d),q.d])/\rs.length=rows.length/\Q5s q rows/\q.ok/\(∀ t∈ts,t.ok 100/\t.pos)/\ts.length<=500/\P [grp K a rs (AI q (fun x y=>seenN ts x y ts.length) rows)] (.int (HQ ts q ts.length))
structure C_paint_square (P:Program)(w:World)(K:Fg)(mg:Str->Option Value)(base:Heap)(c:Cs):Prop where
 is_passed_over_:Callee P w K mg base CX0 "is_passed_over" 5 ["face","square","depths"] (J8 K BT J6k)
 turn_:Callee P w K mg base CX0 "turn" 2 ["face"] (J8 K BT YJ)
 paint_face_:Callee P w K mg base CX0 "paint_face" 5 ["rows","depths","square","number","face"] (CL K BT (J0h K))
theorem MU {f:Addr} (F:Fun K "paint_square" "paint_square" EV f fd) (Z:Bi mg) {c:Cs} (Y:Ex K mg base c) (G:C_paint_square P w K mg base c):FnOk P w K mg base CX0 6 f fd ["rows","faces","square"] (CL K BT (Q1m K)):=by
 refine F.okDU AA (fun qs ds PP h=>?_) (fun cdv A outer s H E M bg qs ds PP hr hS_ hat=>?_)
 · obtain ⟨a,rs,rows,q,ts,⟨rfl,rfl⟩,hlr,fits,qok,hts,htl,hP⟩:=h
   rfl
 · obtain ⟨a,rs,rows,q,ts,⟨rfl,rfl⟩,hlr,fits,qok,hts,htl,hP⟩:=hS_
   refine ⟨_,(HS (J1r (i:=3) AA.nd rfl (by walk_at "o"))
    (HS (V0 (i:=4) AA.nd rfl (by walk_at "o") J5)
    (HS (AY (BR [5,6]) PassesOwn.never rfl (VB (by rfl) (J0 (jdv 1) J1) (ZB K (by rfl) rfl Z.enumerate_ (JA.h (J0 (jdv 1) J1)))) (PG.or (AV (n:=2) K (by rfl) (by rfl) (J6 (pg_name (i:=5) AA.nd rfl (by walk_at "o")) (J6 (pg_name (i:=6) AA.nd rfl (by walk_at "o")) Y1))) (AW (n:=2) K (by rfl) (by rfl) (J6 (pg_name (i:=5) AA.nd rfl (by walk_at "o")) (J6 (pg_name (i:=6) AA.nd rfl (by walk_at "o")) Y1)))) (J4 (Z3 (Y3 FJ DC (J9 G.turn_ hr.m rfl (J0 (jdv 6) J1)) J5 (V7 _)) (J7 SJ) Y0)
    (J7 (Z3 (AC (by rfl) (J4q G.is_passed_over_ hr.m rfl (J0 (jdv 6) (J0 (jdv 2) (J0 (jdv 3) J1)))) (fun _=>rfl)) (J7 (J8p (i:=4) AA.nd rfl (by walk_at "o") J5 Q3m)) (J7 (LV (js:=[0,3]) (by decide) (LN G.paint_face_ hr.m rfl (BS (pv 0) (BS (pv 3) (JA.h (J0 (jdv 2) (J0 (jdv 5) (J0 (jdv 6) J1)))))))))))))
    (J8m (jdv 4))))),?_⟩
   walk_at "g"
   intro a2 tg0
   walk_at "g"
   refine ⟨fun i ρ=>∃ tg ks xs v5 v6,ρ=[some (grd K a rs (AI q (fun x y=>seenN ts x y i) rows)),some (.lst (ts.map T3.d)),some q.d,some (dcg K a2 tg ks xs),some (.int (HQ ts q i)),v5,v6]/\DpOk q (fun x y=>seenN ts x y i) ks xs,⟨tg0,[],[],_,_,by rw [UM (q:=q) (st:=fun x y=>seenN ts x y 0) (rows:=rows) (fun _ _ _=>rfl)];rfl,DpOk.nil fun _ _ _=>rfl⟩,?_,?_⟩
   · rintro i z ρ e ⟨tg,ks,xs,v5,v6,rfl,hD⟩
     obtain ⟨t,et,rfl⟩:=RD e
     clear e
     obtain ⟨ok,pos⟩:=hts t (List.mem_of_getElem? et)
     have hs:∀ x y:Int,seenN ts x y (i+1)=AE x y i t (seenN ts x y i):=fun x y=>NM et
     have hpn:=WW (q:=q) et
     walk_at "g"
     refine ⟨t,100,rfl,ok,by decide,?_⟩
     walk_at "g"
     by_cases tn0:t.tn=0
     · refine IfP.t (by simp [tn0]) ?_
       have hsame:∀ x y:Int,q.in x y->seenN ts x y (i+1)=seenN ts x y i:=fun x y _=>by rw [hs];exact LB fun hh=>T3.has_tn pos hh tn0
       rw [if_neg (fun z=>z.1 tn0)] at hpn
       walk_at "g"
       exact ⟨tg,ks,xs,_,_,by rw [GW hsame,hpn];rfl,hD.congr hsame⟩
     · refine IfP.f (by simp [tn0]) ?_
       walk_at "g"
       refine ⟨t,q,tg,ks,xs,_,rfl,ok,tn0,⟨qok.l,qok.t,qok.w1,qok.w,qok.h1,qok.h⟩,hD,fun b hb=>⟨rfl,?_⟩⟩
       cases b with
       | true =>
         have hp:=hb.mp rfl
         have hsame:∀ x y:Int,q.in x y->seenN ts x y (i+1)=seenN ts x y i:=fun x y hin=>by rw [hs];exact J1h hD hp hin
         rw [if_pos ⟨tn0,hp⟩] at hpn
         walk_at "g"
         exact ⟨tg,ks,xs,_,_,by rw [GW hsame,hpn];rfl,hD.congr hsame⟩
       | false =>
         have hp:¬ QQ t q (fun x y=>seenN ts x y i):=fun z=>by have:=hb.mpr z;cases this
         rw [if_neg (fun z=>hp z.2)] at hpn
         walk_at "g"
         refine ⟨_,Q7l OS J5p rfl rfl,?_⟩
         walk_at "g"
         refine ⟨a,a2,rs,rows,tg,ks,xs,q,i,t,_,⟨rfl,rfl⟩,hlr,fits,⟨qok.l,qok.t,qok.w,qok.h⟩,ok,pos,hD,fun tg' ks' xs' st' hst hD'=>?_⟩
         have hsame:∀ x y:Int,q.in x y->seenN ts x y (i+1)=st' x y:=fun x y hin=>by rw [hs,hst x y hin]
         exact ⟨tg',ks',xs',_,_,by rw [GW hsame,hpn];rfl,hD'.congr hsame⟩
   · rintro ρ ⟨tg,ks,xs,v5,v6,rfl,hD⟩
     have el:(FK (ts.map T3.d)).length=ts.length:=by simp [FK]
     rw [el]
     walk_at "g"
     exact ⟨_,Q0z rfl,hP⟩
theorem TJ {d:D}(h:AJ d=true):bor d=d:=by cases d<;>first|rfl|cases h
def sqQ (k:Int)(w h:Nat)(x y:Int):Sq:=⟨x.toNat,y.toNat,(mn k (w - x)).toNat,(mn k (h - y)).toNat⟩
def sqL (k:Int)(w h:Nat):List Sq:=(Y7 k w).flatMap fun x=>(Y7 k h).map fun y=>sqQ k w h x y
theorem IJ {k:Int}{w:Nat}{x:Int}(m:x∈Y7 k w):0<=x/\x<w/\x % k=0:=by
 unfold Y7 at m
 simp only [List.mem_filter,List.mem_map,List.mem_range,decide_eq_true_eq] at m
 obtain ⟨⟨n,hn,rfl⟩,h⟩:=m
 exact ⟨by omega,by omega,h⟩
theorem J1o {k:Int}{w:Nat}{x:Int}(h0:0<=x)(h1:x<w)(h2:x % k=0):x∈Y7 k w:=by
 unfold Y7
 simp only [List.mem_filter,List.mem_map,List.mem_range,decide_eq_true_eq]
 exact ⟨⟨x.toNat,by omega,by omega⟩,h2⟩
theorem Q6h {k:Int}{w h:Nat}{x y:Int}(hk:1<=k)(mx:x∈Y7 k w)(my:y∈Y7 k h):sq1 k w h x y=(sqQ k w h x y).d:=by
 obtain ⟨x0,x1,_⟩:=IJ mx
 obtain ⟨y0,y1,_⟩:=IJ my
 have e1:((sqQ k w h x y).l:Int)=x:=Int.toNat_of_nonneg x0
 have e2:((sqQ k w h x y).t:Int)=y:=Int.toNat_of_nonneg y0
 have e3:((sqQ k w h x y).w:Int)=mn k (w - x):=Int.toNat_of_nonneg (by unfold mn;split<;>omega)
 have e4:((sqQ k w h x y).h:Int)=mn k (h - y):=Int.toNat_of_nonneg (by unfold mn;split<;>omega)
 show sq1 k w h x y=sp4 _ _ _ _
 rw [e1,e2,e3,e4]
 rfl
theorem J2x {k:Int}{w h:Nat}(hk:1<=k):sqs k w h=(sqL k w h).map Sq.d:=by
 unfold sqs sqL
 rw [List.map_flatMap]
 have key:∀ l:List Int,(∀ x∈l,x∈Y7 k w)->(l.flatMap fun x=>(Y7 k h).map fun y=>sq1 k w h x y)=l.flatMap fun x=>((Y7 k h).map fun y=>sqQ k w h x y).map Sq.d:=by
  intro l
  induction l with
  | nil=>intro _;rfl
  | cons a l ih =>
    intro hm
    rw [List.flatMap_cons,List.flatMap_cons,ih fun x hx=>hm x (List.mem_cons_of_mem _ hx),List.map_map]
    congr 1
    exact List.map_congr_left fun y hy=>Q6h hk (hm a (List.mem_cons_self ..)) hy
 exact key _ fun x hx=>hx
theorem NC {k:Int}{w h:Nat}{q:Sq}(m:q∈sqL k w h)(hk:1<=k)(hk2:k<=16)(hw:w<=16)(hh:h<=16):q.ok/\q.l+q.w<=w/\q.t+q.h<=h:=by
 unfold sqL at m
 obtain ⟨x,mx,m⟩:=List.mem_flatMap.mp m
 obtain ⟨y,my,rfl⟩:=List.mem_map.mp m
 obtain ⟨x0,x1,_⟩:=IJ mx
 obtain ⟨y0,y1,_⟩:=IJ my
 have e1:((sqQ k w h x y).l:Int)=x:=Int.toNat_of_nonneg x0
 have e2:((sqQ k w h x y).t:Int)=y:=Int.toNat_of_nonneg y0
 have e3:((sqQ k w h x y).w:Int)=mn k (w - x):=Int.toNat_of_nonneg (by unfold mn;split<;>omega)
 have e4:((sqQ k w h x y).h:Int)=mn k (h - y):=Int.toNat_of_nonneg (by unfold mn;split<;>omega)
 generalize sqQ k w h x y=q at *
 have b1:mn k (w - x)<=k/\mn k (w - x)<=w - x/\1<=mn k (w - x):=by unfold mn;split<;>omega
 have b2:mn k (h - y)<=k/\mn k (h - y)<=h - y/\1<=mn k (h - y):=by unfold mn;split<;>omega
 exact ⟨⟨by omega,by omega,by omega,by omega,by omega,by omega⟩,by omega,by omega⟩
theorem QM {k:Int}{w h:Nat}(hw:w<=16)(hh:h<=16):(sqL k w h).length<=256:=by
 unfold sqL
 rw [OX _ (Y7 k h).length _ fun a _=>by simp]
 have h1:=ER k w
 have h2:=ER k h
 exact Nat.mul_le_mul (Nat.le_trans h1 hw) (Nat.le_trans h2 hh)
theorem J7e {k:Int}{w h:Nat}(hk:1<=k){x y:Nat}(hx:x<w)(hy:y<h):∃ q∈sqL k w h,q.in x y:=by
 have one:∀ {n m:Nat},n<m->∃ u∈Y7 k m,(u.toNat:Int)<=n/\(n:Int)<u.toNat+(mn k (m - u)).toNat:=fun {n m} hn=>by
  have h1:=Int.mul_ediv_add_emod (n:Int) k
  have h2:=Int.emod_nonneg (n:Int) (show k≠0 by omega)
  have h3:=Int.emod_lt_of_pos (n:Int) (show 0<k by omega)
  have h4:0<=k*((n:Int) / k):=Int.mul_nonneg (by omega) (Int.ediv_nonneg (by omega) (by omega))
  refine ⟨k*((n:Int) / k),J1o h4 (by omega) (Int.mul_emod_right ..),?_,?_⟩
  · rw [Int.toNat_of_nonneg h4];omega
  · rw [Int.toNat_of_nonneg h4]
    have:(n:Int)<k*((n:Int) / k)+mn k (m - k*((n:Int) / k)):=by unfold mn;split<;>omega
    omega
 obtain ⟨u,mu,u1,u2⟩:=one hx
 obtain ⟨v,mv,v1,v2⟩:=one hy
 exact ⟨sqQ k w h u v,List.mem_flatMap.mpr ⟨u,mu,List.mem_map.mpr ⟨v,mv,rfl⟩⟩,u1,u2,v1,v2⟩
def FE (qs:List Sq)(x y:Int):Bool:=qs.any fun q=>decide (q.in x y)
theorem J3y {a b:T3}(h:a.nums=b.nums):a=b:=by
 cases a
 cases b
 simp [T3.nums] at h
 simp [h]
instance:DecidableEq T3:=fun a b=>decidable_of_iff (a.nums=b.nums) ⟨J3y,fun h=>by rw [h]⟩
theorem EqG.mkT {t u:T3}{neg:Bool}{P:D->Prop}(h:P (.bl (decide (t=u)!=neg))):EqG neg t.d u.d P:=by
 refine ⟨_,_,rfl,rfl,Nat.le_of_ble_eq_true rfl,?_⟩
 have e:∀ p q:PyData,AQ t.d=some p->AQ u.d=some q->PyData.eqv p q=decide (t=u):=fun p q e1 e2=>by
  cases e1
  cases e2
  rw [Bool.eq_iff_iff,decide_eq_true_eq]
  obtain ⟨a1,a2,a3,a4,b1,b2,b3,b4,c1,c2,c3,c4⟩:=t
  obtain ⟨x1,x2,x3,x4,y1,y2,y3,y4,z1,z2,z3,z4⟩:=u
  simp only [PyData.eqv,PyData.eqvAll,Bool.and_true,T3.mk.injEq]
  simp [and_assoc]
 rw [e _ _ rfl rfl]
 exact h
def chP (ts us:List T3)(i:Nat):Bool:=decide (ts[i]?≠us[i]?)
def chN (ts us:List T3):List Nat:=(List.range (max ts.length us.length)).filter (chP ts us)
def chF (ts us:List T3):List T3:=(chN ts us).filterMap (fun i=>ts[i]?)++(chN ts us).filterMap (fun i=>us[i]?)
theorem J2j (ts us:List T3):(List.range (min ts.length us.length)).filter (chP ts us)++(List.range (max ts.length us.length - min ts.length us.length)).map (fun i=>min ts.length us.length+i)=chN ts us:=by
 have e:List.range (max ts.length us.length)=List.range (min ts.length us.length)++(List.range (max ts.length us.length - min ts.length us.length)).map (fun i=>min ts.length us.length+i):=by
  rw [<- List.range_add]
  congr 1
  omega
 unfold chN
 rw [e,List.filter_append]
 congr 1
 symm
 rw [List.filter_eq_self]
 intro i hi
 obtain ⟨j,hj,rfl⟩:=List.mem_map.mp hi
 have hj:=List.mem_range.mp hj
 unfold chP
 rw [decide_eq_true_eq]
 intro z
 by_cases q:ts.length<=us.length
 · rw [List.getElem?_eq_none (by omega)] at z
   have:=List.getElem?_eq_none_iff.mp z.symm
   omega
 · rw [List.getElem?_eq_none (l:=us) (by omega)] at z
   have:=List.getElem?_eq_none_iff.mp z
   omega
theorem NH (ts us:List T3):(chN ts us).length<=max ts.length us.length:=by
 unfold chN
 refine Nat.le_trans (List.length_filter_le ..) ?_
 simp
theorem CI {α β:Type}(f:α->Option β):∀ l:List α,(l.filterMap f).length<=l.length
 | []=>by simp
 | a::l=>by
   rw [List.filterMap_cons]
   have:=CI f l
   cases f a<;>simp<;>omega
theorem J0b (ts us:List T3):(chF ts us).length<=2*max ts.length us.length:=by
 unfold chF
 rw [List.length_append]
 have h1:=CI (fun i=>ts[i]?) (chN ts us)
 have h2:=CI (fun i=>us[i]?) (chN ts us)
 have:=NH ts us
 omega
theorem J0a {ts us:List T3}{t:T3}(m:t∈chF ts us):t∈ts\/t∈us:=by
 unfold chF at m
 rcases List.mem_append.mp m with z|z
 · obtain ⟨i,_,e⟩:=List.mem_filterMap.mp z
   exact .inl (List.mem_of_getElem? e)
 · obtain ⟨i,_,e⟩:=List.mem_filterMap.mp z
   exact .inr (List.mem_of_getElem? e)
theorem QO {ts us:List T3}{x y:Int}(h:∀ t∈chF ts us,¬ t.has x y):∀ n:Nat,seenN ts x y n=seenN us x y n
 | 0=>rfl
 | n+1=>by
   have ih:=QO h n
   show (match ts[n]? with|some t=>AE x y n t (seenN ts x y n)|none=>seenN ts x y n)=(match us[n]? with|some t=>AE x y n t (seenN us x y n)|none=>seenN us x y n)
   by_cases e:ts[n]?=us[n]?
   · rw [e,ih]
   · have hm:n∈chN ts us\/(ts[n]?=none/\us[n]?=none):=by
      by_cases z:n<max ts.length us.length
      · left
        unfold chN
        rw [List.mem_filter]
        exact ⟨List.mem_range.mpr z,decide_eq_true e⟩
      · right
        exact ⟨List.getElem?_eq_none (by omega),List.getElem?_eq_none (by omega)⟩
     rcases hm with hm|⟨z1,z2⟩
     · have one:∀ (l:List T3),(∀ t,l[n]?=some t->t∈chF ts us)->∀ s:Sn,(match l[n]? with|some t=>AE x y n t s|none=>s)=s:=fun l hl s=>by
        cases el:l[n]? with
        | none=>rfl
        | some t=>exact LB (h t (hl t el))
       rw [one ts (fun t et=>?_),one us (fun t et=>?_),ih]
       · unfold chF
         exact List.mem_append_right _ (List.mem_filterMap.mpr ⟨n,hm,et⟩)
       · unfold chF
         exact List.mem_append_left _ (List.mem_filterMap.mpr ⟨n,hm,et⟩)
     · exact absurd (z1.trans z2.symm) e
theorem JB {ts:List T3}{x y:Int}:∀ k:Nat,seenN ts x y (ts.length+k)=seenN ts x y ts.length
 | 0=>rfl
 | k+1=>by
   show (match ts[ts.length+k]? with|some t=>AE x y (ts.length+k) t (seenN ts x y (ts.length+k))|none=>seenN ts x y (ts.length+k))=_
   rw [List.getElem?_eq_none (by omega),JB k]
theorem J3b {ts us:List T3}{x y:Int}(h:∀ t∈chF ts us,¬ t.has x y):seenN ts x y ts.length=seenN us x y us.length:=by
 have e:=QO h (ts.length+us.length)
 rw [JB,Nat.add_comm,JB] at e
 exact e
def GJ (ts us:List T3)(q:Sq):Bool:=q.dots.any fun p=>(chF ts us).any fun t=>decide (t.has p.1 p.2)
def dmgL (ts us:List T3)(k:Int)(w h:Nat):List Sq:=(sqL k w h).filter (GJ ts us)
theorem J9l {ts us:List T3}{q:Sq}(h:GJ ts us q=false){x y:Int}(hin:q.in x y):∀ t∈chF ts us,¬ t.has x y:=fun t m z=>by
 have:GJ ts us q=true:=List.any_eq_true.mpr ⟨(x,y),Sq.mem_dots.mpr hin,List.any_eq_true.mpr ⟨t,m,decide_eq_true z⟩⟩
 rw [this] at h;cases h
def DN (qs:List Sq)(st:Int->Int->Sn)(x y:Nat)(d:D):D:=if FE qs x y=true then MK (st x y) else d
def mendR (qs:List Sq)(st:Int->Int->Sn)(rows:List (List D)):List (List D):=rows.mapIdx fun y row=>row.mapIdx fun x d=>DN qs st x y d
def YR (q:Sq)(x y:Nat)(d:D):D:=if q.in x y then .non else d
def JV (q:Sq)(rows:List (List D)):List (List D):=rows.mapIdx fun y row=>row.mapIdx fun x d=>YR q x y d
theorem ZF {f:Nat->Nat->D->D}{rows:List (List D)}{g:Nat->Nat->D->D}:(rows.mapIdx fun y row=>row.mapIdx fun x d=>f x y d).mapIdx (fun y row=>row.mapIdx fun x d=>g x y d)=rows.mapIdx fun y row=>row.mapIdx fun x d=>g x y (f x y d):=by
 apply List.ext_getElem?
 intro y
 rw [List.getElem?_mapIdx,List.getElem?_mapIdx,List.getElem?_mapIdx]
 cases rows[y]? with
 | none=>rfl
 | some row =>
   show some _=some _
   congr 1
   apply List.ext_getElem?
   intro x
   show ((row.mapIdx _).mapIdx _)[x]?=(row.mapIdx _)[x]?
   rw [List.getElem?_mapIdx,List.getElem?_mapIdx,List.getElem?_mapIdx]
   cases row[x]?<;>rfl
theorem GX {f g:Nat->Nat->D->D}{rows:List (List D)}(h:∀ x y d,f x y d=g x y d):(rows.mapIdx fun y row=>row.mapIdx fun x d=>f x y d)=rows.mapIdx fun y row=>row.mapIdx fun x d=>g x y d:=by
 have:f=g:=by funext x y d;exact h x y d
 rw [this]
theorem J4v {f:Nat->Nat->D->D}{rows:List (List D)}{x0 y0:Nat}{row0:List D}{v:D}(e:rows[y0]?=some row0):(rows.mapIdx fun y row=>row.mapIdx fun x d=>f x y d).set y0 ((row0.mapIdx fun x d=>f x y0 d).set x0 v)=rows.mapIdx fun y row=>row.mapIdx fun x d=>if x=x0/\y=y0 then v else f x y d:=by
 apply List.ext_getElem?
 intro y
 rw [List.getElem?_mapIdx]
 by_cases z:y0=y
 · subst z
   rw [List.getElem?_set,if_pos rfl,if_pos (by rw [List.length_mapIdx];exact (List.getElem?_eq_some_iff.mp e).1),e]
   show some _=some _
   congr 1
   apply List.ext_getElem?
   intro x
   rw [List.getElem?_mapIdx]
   by_cases z2:x0=x
   · subst z2
     rw [List.getElem?_set,if_pos rfl,List.length_mapIdx]
     cases er:row0[x0]? with
     | none=>rw [if_neg (by have:=List.getElem?_eq_none_iff.mp er;omega)];rfl
     | some d=>rw [if_pos (List.getElem?_eq_some_iff.mp er).1];simp
   · rw [List.getElem?_set_ne z2,List.getElem?_mapIdx]
     cases row0[x]? with
     | none=>rfl
     | some d =>
       show some _=some (if x=x0/\y0=y0 then v else f x y0 d)
       rw [if_neg (fun w=>z2 w.1.symm)]
 · rw [List.getElem?_set_ne z,List.getElem?_mapIdx]
   cases rows[y]? with
   | none=>rfl
   | some row =>
     show some (row.mapIdx fun x d=>f x y d)=some (row.mapIdx fun x d=>if x=x0/\y=y0 then v else f x y d)
     have:(fun x d=>f x y d)=fun x d=>if x=x0/\y=y0 then v else f x y d:=by
      funext x d
      rw [if_neg (fun w=>z w.2.symm)]
     rw [this]
def MJ (ps:List (Int×Int))(x y:Nat)(d:D):D:=if ((x:Int),(y:Int))∈ps then .non else d
theorem J0n {q:Sq}{rows:List (List D)}:(rows.mapIdx fun y row=>row.mapIdx fun x d=>MJ q.dots x y d)=JV q rows:=GX fun x y d=>by
 unfold MJ YR
 by_cases z:q.in x y
 · rw [if_pos z,if_pos (Sq.mem_dots.mpr z)]
 · rw [if_neg z,if_neg (fun w=>z (Sq.mem_dots.mp w))]
theorem J0m {rows:List (List D)}:(rows.mapIdx fun y row=>row.mapIdx fun x d=>MJ [] x y d)=rows:=by
 apply List.ext_getElem?
 intro y
 rw [List.getElem?_mapIdx]
 cases rows[y]? with
 | none=>rfl
 | some row =>
   show some _=some _
   congr 1
   apply List.ext_getElem?
   intro x
   rw [List.getElem?_mapIdx]
   cases row[x]?<;>rfl
theorem WD {ps:List (Int×Int)}{x0 y0:Nat}{rows:List (List D)}{row0:List D}(e:rows[y0]?=some row0):(rows.mapIdx fun y row=>row.mapIdx fun x d=>MJ ps x y d).set y0 ((row0.mapIdx fun x d=>MJ ps x y0 d).set x0 .non)=rows.mapIdx fun y row=>row.mapIdx fun x d=>MJ (ps++[((x0:Int),(y0:Int))]) x y d:=by
 rw [J4v e]
 refine GX fun x y d=>?_
 unfold MJ
 by_cases z:x=x0/\y=y0
 · obtain ⟨rfl,rfl⟩:=z
   rw [if_pos ⟨rfl,rfl⟩,if_pos (by simp)]
 · rw [if_neg z]
   have:(((x:Int),(y:Int))∈ps++[((x0:Int),(y0:Int))])↔((x:Int),(y:Int))∈ps:=by
    rw [List.mem_append,List.mem_singleton,Prod.mk.injEq]
    exact ⟨fun w=>w.elim id fun w=>absurd ⟨by omega,by omega⟩ z,.inl⟩
   by_cases w:((x:Int),(y:Int))∈ps
   · rw [if_pos w,if_pos (this.mpr w)]
   · rw [if_neg w,if_neg (fun v=>w (this.mp v))]
theorem YG {qs:List Sq}{q:Sq}{st:Int->Int->Sn}{x y:Nat}{d:D}:ED q st x y (YR q x y (DN qs st x y d))=DN (qs++[q]) st x y d:=by
 unfold ED YR DN
 have e:FE (qs++[q]) x y=(FE qs x y||decide (q.in x y)):=by unfold FE;simp
 rw [e]
 by_cases z:q.in x y
 · rw [if_pos z,if_pos z,decide_eq_true z,Bool.or_true,if_pos rfl]
   cases st x y with
   | none=>rfl
   | some s=>obtain ⟨a,b,c⟩:=s;rfl
 · rw [if_neg z,if_neg z,decide_eq_false z,Bool.or_false]
theorem XM {qs:List Sq}{q:Sq}{st:Int->Int->Sn}{rows:List (List D)}:AI q st (JV q (mendR qs st rows))=mendR (qs++[q]) st rows:=by
 unfold AI JV mendR
 rw [ZF,ZF]
 exact GX fun x y d=>YG
theorem J1n {st:Int->Int->Sn}{rows:List (List D)}:mendR [] st rows=rows:=by
 unfold mendR
 apply List.ext_getElem?
 intro y
 rw [List.getElem?_mapIdx]
 cases rows[y]? with
 | none=>rfl
 | some row =>
   show some _=some _
   congr 1
   apply List.ext_getElem?
   intro x
   rw [List.getElem?_mapIdx]
   cases row[x]?<;>rfl
theorem LQ {qs:List Sq}{st:Int->Int->Sn}{rows:List (List D)}:(mendR qs st rows).length=rows.length:=by unfold mendR;simp
theorem XN {qs:List Sq}{st:Int->Int->Sn}{rows:List (List D)}{w:Nat}(h:∀ r∈rows,r.length=w):∀ r∈mendR qs st rows,r.length=w:=fun r m=>by
 unfold mendR at m
 obtain ⟨i,hi,rfl⟩:=List.mem_mapIdx.mp m
 rw [List.length_mapIdx]
 exact h _ (List.getElem_mem hi)
theorem QG {q:Sq}{rows:List (List D)}:(JV q rows).length=rows.length:=by unfold JV;simp
theorem WC {q:Sq}{rows:List (List D)}{w:Nat}(h:∀ r∈rows,r.length=w):∀ r∈JV q rows,r.length=w:=fun r m=>by
 unfold JV at m
 obtain ⟨i,hi,rfl⟩:=List.mem_mapIdx.mp m
 rw [List.length_mapIdx]
 exact h _ (List.getElem_mem hi)
theorem QS {ts:List T3}{w h y:Nat}{row:List D}(e:(Y9 ts w h)[y]?=some row):y<h/\row=(V6 0 w).map (WK ts y):=by
 unfold Y9 at e
 rw [List.getElem?_map] at e
 obtain ⟨d,e1,e2⟩:=Option.map_eq_some_iff.mp e
 obtain ⟨rfl,hy⟩:=BZ e1
 refine ⟨hy,e2.symm.trans ?_⟩
 show (V6 0 w).map (WK ts (0+(y:Int)))=_
 rw [Int.zero_add]
theorem KN {ts us:List T3}{k:Int}{w h:Nat}(hk:1<=k):mendR (dmgL ts us k w h) (fun x y=>seenN us x y us.length) (Y9 ts w h)=Y9 us w h:=by
 apply List.ext_getElem?
 intro y
 unfold mendR
 rw [List.getElem?_mapIdx]
 by_cases hy:y<h
 · obtain ⟨row,er⟩:∃ row,(Y9 ts w h)[y]?=some row:=⟨(Y9 ts w h)[y]'(by unfold Y9;rw [List.length_map,rangeD_le];exact hy),List.getElem?_eq_getElem _⟩
   obtain ⟨row',er'⟩:∃ row,(Y9 us w h)[y]?=some row:=⟨(Y9 us w h)[y]'(by unfold Y9;rw [List.length_map,rangeD_le];exact hy),List.getElem?_eq_getElem _⟩
   obtain ⟨_,rfl⟩:=QS er
   obtain ⟨_,rfl⟩:=QS er'
   rw [er,er']
   show some _=some _
   congr 1
   apply List.ext_getElem?
   intro x
   rw [List.getElem?_mapIdx,List.getElem?_map,List.getElem?_map]
   by_cases hx:x<w
   · rw [show (V6 0 w)[x]?=some (.int x) by unfold V6;simp [hx]]
     show some (DN (dmgL ts us k w h) _ x y (WK ts y (.int x)))=some (WK us y (.int x))
     congr 1
     unfold DN
     by_cases z:FE (dmgL ts us k w h) x y=true
     · rw [if_pos z];rfl
     · rw [if_neg z]
       obtain ⟨q,mq,hin⟩:=J7e hk hx hy
       have hd:GJ ts us q=false:=by
        cases hd:GJ ts us q with
        | false=>rfl
        | true=>exact absurd (List.any_eq_true.mpr ⟨q,List.mem_filter.mpr ⟨mq,hd⟩,decide_eq_true hin⟩) z
       show MK (seenN ts x y ts.length)=MK (seenN us x y us.length)
       rw [J3b (J9l hd hin)]
   · rw [show (V6 0 w)[x]?=none by unfold V6;simp;omega]
     rfl
 · rw [List.getElem?_eq_none (l:=Y9 ts w h) (by unfold Y9;rw [List.length_map,rangeD_le];omega),List.getElem?_eq_none (l:=Y9 us w h) (by unfold Y9;rw [List.length_map,rangeD_le];omega)]
   rfl
abbrev Z8:Stmt:=top 38
theorem CP:FnScope ["older","newer","both","unlike"] ["older","newer"] (J3 Z8):=⟨rfl,rfl,rfl,by decide +kernel,rfl,by decide +kernel,by decide +kernel⟩
def EJ (i:Nat):D:=.int i
def BL (ts:List T3):D:=.lst (ts.map T3.d)
def dN:D->Nat
 | .int i=>i.toNat
 | _=>0
theorem atT {ts:List T3}{i:Nat}{t:T3}(e:ts[i]?=some t):atI (ts.map T3.d) (i:Int)=some t.d:=EN (by rw [List.getElem?_map,e];rfl)
theorem Q5c (ts us:List T3):((V6 0 (min ts.length us.length)).filter fun d=>chP ts us (dN d)).map id++V6 ((min ts.length us.length:Nat):Int) (max ts.length us.length - min ts.length us.length)=(chN ts us).map EJ:=by
 rw [<- J2j,List.map_append,List.map_id]
 congr 1
 · unfold V6
   rw [List.filter_map]
   have:((fun d=>chP ts us (dN d))∘fun (i:Nat)=>D.int (0+(i:Int)))=chP ts us:=by
    funext i
    show chP ts us (Int.toNat (0+(i:Int)))=_
    congr 1
    omega
   rw [this]
   exact List.map_congr_left fun i _=>by show D.int (0+(i:Int))=D.int i;rw [Int.zero_add]
 · unfold V6
   rw [List.map_map]
   exact List.map_congr_left fun i _=>by show D.int _=D.int _;simp
def Q1p:DSp:=fun ds P _=>∃ ts us:List T3,ds=[BL ts,BL us]/\ts.length<=100/\us.length<=100/\P (.lst ((chN ts us).map EJ))
theorem JM {f:Addr} (F:Fun K "changed_numbers" "changed_numbers" Z8 f fd) (Z:Bi mg) {c:Cs} (Y:Ex K mg base c):FnOk P w K mg base CX0 1 f fd ["older","newer"] (J8 K BT Q1p):=by
 refine F.okD CP (fun ds PP Ed h=>?_) (fun cdv A outer s H E M bg ds PP Ed hr hS_=>?_)
 · obtain ⟨ts,us,rfl,l1,l2,hP⟩:=h
   rfl
 · obtain ⟨ts,us,rfl,l1,l2,hP⟩:=hS_
   refine ⟨_,(J4 (V0 (i:=2) CP.nd rfl (by walk_at "o") (Q5 (CV (by rfl)) HG rfl Z.min_ IB (J0 (Q5 (Q7 K (by rfl)) BJ rfl Z.len_ AU (J0 (jdv 0) J1)) (J0 (Q5 (Q7 K (by rfl)) BJ rfl Z.len_ AU (J0 (jdv 1) J1)) J1))))
    (J4 (OH (X:=(V1 CX0 P w K mg base ["older","newer","both","unlike"] "changed_numbers" (J3 Z8) f cdv A outer s H E).nox) false (i:=3) CP.nd rfl (by walk_at "o") (V4 0) (MG (X:=(V1 CX0 P w K mg base ["older","newer","both","unlike"] "changed_numbers" (J3 Z8) f cdv A outer s H E).nox) (N':=["number","older","newer"]) (map:=[none,some 0,some 1]) (by rfl) (by rfl) (by decide +kernel) (by rfl) ⟨⟨rfl,rfl,rfl,by walk_at "o"⟩,⟨⟨rfl,rfl,rfl,by walk_at "o"⟩,True.intro⟩⟩ (gkeep_name rfl) fun cl0 C0 fp0 s0 H0=>⟨(pg_name (X:=(Q0 (V1 CX0 P w K mg base ["older","newer","both","unlike"] "changed_numbers" (J3 Z8) f cdv A outer s H E).nox ["number","older","newer"] _ cl0 C0 fp0 s0 H0)) (i:=0) (Z2 ["number","older","newer"] (by decide +kernel)) rfl (by walk_at "o")),(HV (Y3 (FZ K (by rfl) hr.units) DQ (Q8 (Q9 K (by rfl)) V9 (jdv 1) (jdv 0) (fun _ _=>rfl)) (Q8 (Q9 K (by rfl)) V9 (jdv 2) (jdv 0) (fun _ _=>rfl)) (V7 _))),(jdv (X:=(Q0 (V1 CX0 P w K mg base ["older","newer","both","unlike"] "changed_numbers" (J3 Z8) f cdv A outer s H E).nox ["number","older","newer"] _ cl0 C0 fp0 s0 H0)) 0)⟩) (AK rfl Z.range_ (J0 (jdv 2) J1)))
    (J7 (V2 (Q4 J3v J3x (jdv 3) (OO (J0 (jdv 2) (J0 (Q5 (IS (by rfl)) HG rfl Z.max_ TD (J0 (Q5 (Q7 K (by rfl)) BJ rfl Z.len_ AU (J0 (jdv 0) J1)) (J0 (Q5 (Q7 K (by rfl)) BJ rfl Z.len_ AU (J0 (jdv 1) J1)) J1))) J1)) (PV rfl rfl Z.list_ rfl Z.range_ (JA.h (J0 (jdv 2) (J0 (Q5 (IS (by rfl)) HG rfl Z.max_ TD (J0 (Q5 (Q7 K (by rfl)) BJ rfl Z.len_ AU (J0 (jdv 0) J1)) (J0 (Q5 (Q7 K (by rfl)) BJ rfl Z.len_ AU (J0 (jdv 1) J1)) J1))) J1)))))))))),?_⟩
   have e1:((fun i j=>if j<i then j else i) ((ts.map T3.d).length:Int) ((us.map T3.d).length:Int):Int)=((min ts.length us.length:Nat):Int):=by dsimp only;rw [List.length_map,List.length_map];split<;>omega
   have e2:((fun i j=>if j>i then j else i) ((ts.map T3.d).length:Int) ((us.map T3.d).length:Int):Int)=((max ts.length us.length:Nat):Int):=by dsimp only;rw [List.length_map,List.length_map];split<;>omega
   walk_at "g"
   rw [e1]
   refine And.intro ⟨by omega,by omega⟩ ?_
   refine And.intro (by rw [rangeD_len];omega) ?_
   rw [Int.toNat_natCast]
   refine NG id (fun d=>chP ts us (dN d)) (fun d Qf Q hd ht hf=>?_) (fun d hd _=>?_) ?_
   · obtain ⟨i,hi,rfl⟩:=BF hd
     obtain ⟨t,et⟩:∃ t,ts[i]?=some t:=⟨ts[i]'(by omega),List.getElem?_eq_getElem _⟩
     obtain ⟨u,eu⟩:∃ u,us[i]?=some u:=⟨us[i]'(by omega),List.getElem?_eq_getElem _⟩
     have hc:chP ts us (dN (.int i)) = !decide (t=u):=by
      show decide (ts[i]?≠us[i]?)=_
      rw [et,eu]
      simp
     rw [hc] at ht hf
     walk_at "g"
     rw [atT et]
     walk_at "g"
     rw [atT eu]
     walk_at "g"
     refine EqG.mkT ?_
     by_cases z:t=u
     · refine IfP.f (by simp [z]) (hf (by simp [z]))
     · refine IfP.t (by simp [z]) ?_
       walk_at "g"
       exact ht (by simp [z])
   · obtain ⟨i,hi,rfl⟩:=BF hd
     rfl
   · walk_at "g"
     rw [e2]
     refine And.intro ⟨by omega,by omega,by omega,by omega,by omega⟩ ?_
     rw [show (((max ts.length us.length:Nat):Int) - ((min ts.length us.length:Nat):Int)).toNat=max ts.length us.length - min ts.length us.length by omega]
     have hl:=NH ts us
     have e:=Q5c ts us
     walk_at "g"
     rw [e]
     exact ⟨by have:=congrArg List.length e;rw [List.length_append,List.length_map (f:=EJ)] at this;omega,hP⟩
abbrev Z0:Stmt:=top 39
theorem GB:FnScope ["older","newer","numbers"] ["older","newer"] (J3 Z0):=⟨rfl,rfl,rfl,by decide +kernel,rfl,by decide +kernel,by decide +kernel⟩
def tkF (xs:List D)(ns:List Nat):List D:=ns.filterMap fun i=>xs[i]?
theorem NB (ts:List T3)(ns:List Nat):tkF (ts.map T3.d) ns=(ns.filterMap fun i=>ts[i]?).map T3.d:=by
 unfold tkF
 rw [List.map_filterMap]
 congr 1
 funext i
 rw [List.getElem?_map]
def Q6j (ns:List Nat):D->List D
 | .lst xs=>tkF xs ns
 | _=>[]
def NA (xs:List D)(d:D):D:=xs.getD (dN d) .non
theorem RS (xs:List D):∀ ns:List Nat,(((ns.map EJ).filter fun d=>decide (dN d<xs.length)).map (NA xs))=tkF xs ns
 | []=>rfl
 | n::ns=>by
   have ih:=RS xs ns
   unfold tkF at ih ⊢
   rw [List.map_cons,List.filterMap_cons]
   have en:dN (EJ n)=n:=by show (Int.toNat (n:Int))=n;omega
   by_cases h:n<xs.length
   · rw [List.filter_cons_of_pos (by rw [en];simp [h]),List.map_cons,ih,List.getElem?_eq_getElem h]
     show NA xs (EJ n)::_=xs[n]::_
     congr 1
     unfold NA
     rw [en,List.getD_eq_getElem?_getD,List.getElem?_eq_getElem h];rfl
   · rw [List.filter_cons_of_neg (by rw [en];simp;omega),ih,List.getElem?_eq_none (by omega)]
def Q1q:DSp:=fun ds P _=>∃ ts us:List T3,ds=[BL ts,BL us]/\ts.length<=100/\us.length<=100/\P (BL (chF ts us))
structure C_changed_faces (P:Program)(w:World)(K:Fg)(mg:Str->Option Value)(base:Heap)(c:Cs):Prop where
 changed_numbers_:Callee P w K mg base CX0 "changed_numbers" 1 ["older","newer"] (J8 K BT Q1p)
theorem LP {f:Addr} (F:Fun K "changed_faces" "changed_faces" Z0 f fd) (Z:Bi mg) {c:Cs} (Y:Ex K mg base c) (G:C_changed_faces P w K mg base c):FnOk P w K mg base CX0 2 f fd ["older","newer"] (J8 K BT Q1q):=by
 refine F.okD GB (fun ds PP Ed h=>?_) (fun cdv A outer s H E M bg ds PP Ed hr hS_=>?_)
 · obtain ⟨ts,us,rfl,l1,l2,hP⟩:=h
   rfl
 · obtain ⟨ts,us,rfl,l1,l2,hP⟩:=hS_
   refine ⟨_,(J4 (V0 (i:=2) GB.nd rfl (by walk_at "o") (J9 G.changed_numbers_ hr.m rfl (J0 (jdv 0) (J0 (jdv 1) J1))))
    (J7 (V2 (GH (X:=(V1 CX0 P w K mg base ["older","newer","numbers"] "changed_faces" (J3 Z0) f cdv A outer s H E).nox) (V4 0) (V4 1) (RK (X:=(V1 CX0 P w K mg base ["older","newer","numbers"] "changed_faces" (J3 Z0) f cdv A outer s H E).nox) (N':=["faces","number","numbers"]) (map:=[none,none,some 2]) (mp2:=[some 0,none,some 2]) (by rfl) (by rfl) (by decide +kernel) (by rfl) ⟨⟨rfl,rfl,rfl,by walk_at "o"⟩,True.intro⟩ (gkeep_name rfl) (gkeep_name rfl) rfl rfl fun cl0 C0 fp0 s0 H0=>⟨(pg_name (X:=(Q0 (V1 CX0 P w K mg base ["older","newer","numbers"] "changed_faces" (J3 Z0) f cdv A outer s H E).nox ["faces","number","numbers"] _ cl0 C0 fp0 s0 H0).nox) (i:=0) (Z2 ["faces","number","numbers"] (by decide +kernel)) rfl (by walk_at "o")),(Z5 (X:=(Q0 (V1 CX0 P w K mg base ["older","newer","numbers"] "changed_faces" (J3 Z0) f cdv A outer s H E).nox ["faces","number","numbers"] _ cl0 C0 fp0 s0 H0).nox) (by rfl) (jdv 2)),(pg_name (X:=(Q0 (V1 CX0 P w K mg base ["older","newer","numbers"] "changed_faces" (J3 Z0) f cdv A outer s H E).nox ["faces","number","numbers"] _ cl0 C0 fp0 s0 H0).nox) (i:=1) (Z2 ["faces","number","numbers"] (by decide +kernel)) rfl (by walk_at "o")),(HV (Y3 GC CT (jdv 1) (Q5 (Q7 K (by rfl)) BJ rfl Z.len_ AU (J0 (jdv 0) J1)) (V7 _))),(Q8 (X:=(Q0 (V1 CX0 P w K mg base ["older","newer","numbers"] "changed_faces" (J3 Z0) f cdv A outer s H E).nox ["faces","number","numbers"] _ cl0 C0 fp0 s0 H0).nox) (Q9 K (by rfl)) V9 (jdv 0) (jdv 1) (fun _ _=>rfl))⟩) (Z5 (by rfl) (Z9 (J0 (jdv 0) (J0 (jdv 1) J1)))))))),?_⟩
   walk_at "g"
   refine ⟨ts,us,rfl,l1,l2,?_⟩
   have hl:=NH ts us
   walk_at "g"
   refine IA (Q6j (chN ts us)) (fun d hd acc Q hQ=>?_) ?_
   · obtain ⟨xs,rfl,hxl,hxp⟩:∃ xs:List T3,d=BL xs/\xs.length<=100/\True:=by
      simp only [List.mem_cons,List.not_mem_nil,or_false] at hd
      rcases hd with e|e
      · exact ⟨ts,e,l1,trivial⟩
      · exact ⟨us,e,l2,trivial⟩
     clear hd
     walk_at "g"
     refine And.intro (by rw [List.length_map];omega) ?_
     refine J5w (NA (xs.map T3.d)) (fun d=>decide (dN d<(xs.map T3.d).length)) (fun d Qt Qf Q hd ht hf=>?_) (fun d hd hh=>?_) (by rw [RS];exact hQ)
     · obtain ⟨i,hi,rfl⟩:=List.mem_map.mp hd
       have en:dN (EJ i)=i:=by show (Int.toNat (i:Int))=i;omega
       rw [en] at ht hf
       walk_at "g"
       by_cases z:i<(xs.map T3.d).length
       · refine IfP.t (decide_eq_true (by omega)) ?_
         have:=ht (decide_eq_true z)
         unfold NA at this
         rw [en,List.getD_eq_getElem?_getD,List.getElem?_eq_getElem z] at this
         walk_at "g"
         rw [EN (List.getElem?_eq_getElem z)]
         exact this
       · exact IfP.f (decide_eq_false (by omega)) (hf (decide_eq_false z))
     · obtain ⟨i,hi,rfl⟩:=List.mem_map.mp hd
       have en:dN (EJ i)=i:=by show (Int.toNat (i:Int))=i;omega
       rw [en] at hh
       have hh:=of_decide_eq_true hh
       unfold NA
       rw [en,List.getD_eq_getElem?_getD,List.getElem?_eq_getElem hh]
       show L2.plain ((xs.map T3.d)[i])=true
       rw [List.getElem_map]
       rfl
   · rw [show [BL ts,BL us].flatMap (Q6j (chN ts us))=(chF ts us).map T3.d by
      rw [List.flatMap_cons,List.flatMap_cons,List.flatMap_nil,List.append_nil]
      show tkF _ _++tkF _ _=_
      rw [NB,NB,<- List.map_append]
      rfl]
     exact hP
abbrev AO:Stmt:=top 40
theorem JC:FnScope ["older","newer","board","side","squares","faces"] ["older","newer","board","side"] (J3 AO):=⟨rfl,rfl,rfl,by decide +kernel,rfl,by decide +kernel,by decide +kernel⟩
def Q3o:D->D->Bool
 | .tup [.tup [.int ax,.int ay,.int az,.int aw],.tup [.int bx,.int b_y,.int bz,.int bw],.tup [.int cx,.int cy,.int cz,.int cw]],.tup [.int x,.int y]=>decide ((T3.mk ax ay az aw bx b_y bz bw cx cy cz cw).has x y)
 | _,_=>false
def J9k (ts us:List T3):D->Bool
 | .tup [.int l,.int t,.int w,.int h]=>GJ ts us ⟨l.toNat,t.toNat,w.toNat,h.toNat⟩
 | _=>false
theorem J5g (ts us:List T3)(q:Sq):J9k ts us q.d=GJ ts us q:=by
 show GJ ts us ⟨Int.toNat (q.l:Int),Int.toNat (q.t:Int),Int.toNat (q.w:Int),Int.toNat (q.h:Int)⟩=_
 simp only [Int.toNat_natCast]
theorem YB (ts us:List T3)(qs:List Sq):(((qs.map Sq.d).filter (J9k ts us)).map id)=(qs.filter (GJ ts us)).map Sq.d:=by
 have:(J9k ts us∘Sq.d)=GJ ts us:=by funext q;exact J5g ts us q
 rw [List.map_id,List.filter_map,this]
theorem Q0e (q:Sq)(l:List T3):((KU q).flatMap fun d=>(l.map T3.d).map fun t=>D.bl (Q3o t d))=(q.dots.flatMap fun p=>l.map fun t=>decide (t.has p.1 p.2)).map D.bl:=by
 unfold KU
 rw [List.flatMap_map,List.map_flatMap]
 congr 1
 funext p
 rw [List.map_map,List.map_map]
 rfl
theorem J6f (q:Sq)(l:List T3):(q.dots.flatMap fun p=>l.map fun t=>decide (t.has p.1 p.2)).any id=q.dots.any fun p=>l.any fun t=>decide (t.has p.1 p.2):=by
 rw [List.any_flatMap]
 congr 1
 funext p
 rw [List.any_map]
 rfl
def Q1o (c:Cs):DSO:=fun ds P Ed=>∃ (ts us:List T3) (d d':D),ds=[BL ts,BL us,d,d']/\(∀ t∈ts,t.ok 100/\t.pos)/\(∀ t∈us,t.ok 100/\t.pos)/\ts.length<=100/\us.length<=100/\tkD d=true/\AJ d=true/\(FN d').isSome=true/\AJ d'=true/\(BK d=false->Ed c.NoBoard)/\(FH d'=false->Ed c.NoBoard)/\∀ (w h:Nat) (k:Int),d=t2 w h->d'=.int k->(1<=w/\w<=16/\1<=h/\h<=16/\1<=k/\k<=16)->P ((dmgL ts us k w h).map Sq.d)
structure C_damaged (P:Program)(w:World)(K:Fg)(mg:Str->Option Value)(base:Heap)(c:Cs):Prop where
 squares_of_:Callee P w K mg base (CX1 P w base) "squares_of" 4 ["board","side"] (DH K BT (Q1k c))
 changed_faces_:Callee P w K mg base CX0 "changed_faces" 2 ["older","newer"] (J8 K BT Q1q)
 has_dot_:Callee P w K mg base CX0 "has_dot" 4 ["face","dot"] (J8 K BT KZ)
 dots_in_:Callee P w K mg base CX0 "dots_in" 1 ["square"] (J8 K BT LA)
theorem XG {f:Addr} (F:Fun K "damaged" "damaged" AO f fd) (Z:Bi mg) {c:Cs} (Y:Ex K mg base c) (G:C_damaged P w K mg base c):FnOk P w K mg base (CX1 P w base) 5 f fd ["older","newer","board","side"] (DH K BT (Q1o c)):=by
 refine F.okDXO JC (fun ds PP Ed h=>?_) (fun cdv A outer s H E M bg ds PP Ed hr hE hS_=>?_)
 · obtain ⟨ts,us,d,d',rfl,hts,hus,l1,l2,hd,hno,hd',hno',h0,h0',hP⟩:=h
   rfl
 · obtain ⟨ts,us,d,d',rfl,hts,hus,l1,l2,hd,hno,hd',hno',h0,h0',hP⟩:=hS_
   refine ⟨_,(J4 (V0 (i:=4) JC.nd rfl (by walk_at "o") (QY hE JU G.squares_of_ hr.m rfl (J0 (jdv 2) (J0 (jdv 3) J1))))
    (J4 (V0 (i:=5) JC.nd rfl (by walk_at "o") (J9 G.changed_faces_ hr.m rfl (J0 (jdv 0) (J0 (jdv 1) J1))))
    (J7 (J4l (X:=(V1 (CX1 P w base) P w K mg base ["older","newer","board","side","squares","faces"] "damaged" (J3 AO) f cdv A outer s H E)) (V4 0) (MG (X:=(V1 (CX1 P w base) P w K mg base ["older","newer","board","side","squares","faces"] "damaged" (J3 AO) f cdv A outer s H E)) (N':=["square","faces"]) (map:=[none,some 5]) (by rfl) (by rfl) (by decide +kernel) (by rfl) ⟨⟨rfl,rfl,rfl,by walk_at "o"⟩,True.intro⟩ (gkeep_name rfl) fun cl0 C0 fp0 s0 H0=>⟨(pg_name (X:=(Q0 (V1 (CX1 P w base) P w K mg base ["older","newer","board","side","squares","faces"] "damaged" (J3 AO) f cdv A outer s H E) ["square","faces"] _ cl0 C0 fp0 s0 H0)) (i:=0) (Z2 ["square","faces"] (by decide +kernel)) rfl (by walk_at "o")),(HV (AC (by rfl) (Q5 (RI K (by rfl) (by rfl)) SZ rfl Z.any_ J5z (J0 (GH (X:=(Q0 (V1 (CX1 P w base) P w K mg base ["older","newer","board","side","squares","faces"] "damaged" (J3 AO) f cdv A outer s H E) ["square","faces"] _ cl0 C0 fp0 s0 H0)) (V4 0) (V4 1) (RK (X:=(Q0 (V1 (CX1 P w base) P w K mg base ["older","newer","board","side","squares","faces"] "damaged" (J3 AO) f cdv A outer s H E) ["square","faces"] _ cl0 C0 fp0 s0 H0)) (N':=["dot","face","faces"]) (map:=[none,none,some 1]) (mp2:=[some 0,none,some 2]) (by rfl) (by rfl) (by decide +kernel) (by rfl) ⟨⟨rfl,rfl,rfl,by walk_at "o"⟩,True.intro⟩ (gkeep_name rfl) (gkeep_name rfl) rfl rfl fun cl1 C1 fp1 s1 H1=>⟨(pg_name (X:=(Q0 (Q0 (V1 (CX1 P w base) P w K mg base ["older","newer","board","side","squares","faces"] "damaged" (J3 AO) f cdv A outer s H E) ["square","faces"] _ cl0 C0 fp0 s0 H0) ["dot","face","faces"] _ cl1 C1 fp1 s1 H1).nox) (i:=0) (Z2 ["dot","face","faces"] (by decide +kernel)) rfl (by walk_at "o")),(Z5 (X:=(Q0 (Q0 (V1 (CX1 P w base) P w K mg base ["older","newer","board","side","squares","faces"] "damaged" (J3 AO) f cdv A outer s H E) ["square","faces"] _ cl0 C0 fp0 s0 H0) ["dot","face","faces"] _ cl1 C1 fp1 s1 H1).nox) (by rfl) (jdv 2)),(pg_name (X:=(Q0 (Q0 (V1 (CX1 P w base) P w K mg base ["older","newer","board","side","squares","faces"] "damaged" (J3 AO) f cdv A outer s H E) ["square","faces"] _ cl0 C0 fp0 s0 H0) ["dot","face","faces"] _ cl1 C1 fp1 s1 H1).nox) (i:=1) (Z2 ["dot","face","faces"] (by decide +kernel)) rfl (by walk_at "o")),AG,(J9 (X:=(Q0 (Q0 (V1 (CX1 P w base) P w K mg base ["older","newer","board","side","squares","faces"] "damaged" (J3 AO) f cdv A outer s H E) ["square","faces"] _ cl0 C0 fp0 s0 H0) ["dot","face","faces"] _ cl1 C1 fp1 s1 H1).nox) G.has_dot_ hr.m rfl (J0 (jdv 1) (J0 (jdv 0) J1)))⟩) (Z5 (by rfl) (J9 G.dots_in_ hr.m rfl (J0 (jdv 0) J1)))) J1)) (fun _=>rfl))),(jdv (X:=(Q0 (V1 (CX1 P w base) P w K mg base ["older","newer","board","side","squares","faces"] "damaged" (J3 AO) f cdv A outer s H E) ["square","faces"] _ cl0 C0 fp0 s0 H0)) 0)⟩) (Z5 (by rfl) (jdv 4)))))),?_⟩
   walk_at "g"
   refine ⟨d,d',by simp [TJ hno,TJ hno'],hd,hno,hd',hno',h0,h0',fun w h k e1 e2 hb=>?_⟩
   subst e1 e2
   replace hP:=hP w h k rfl rfl hb
   obtain ⟨w1,w2,h1,h2,k1,k2⟩:=hb
   refine ⟨KK fun d hd=>?_,?_⟩
   · rw [J2x k1] at hd
     obtain ⟨q,_,rfl⟩:=List.mem_map.mp hd
     rfl
   have key:∀ q∈sqL k w h,q.ok/\q.l+q.w<=w/\q.t+q.h<=h:=fun q m=>NC m k1 k2 w2 h2
   have sml:=QM (k:=k) (w:=w) (h:=h) w2 h2
   rw [J2x k1]
   unfold dmgL at hP
   generalize sqL k w h=qs at hP key sml ⊢
   walk_at "g"
   refine ⟨ts,us,rfl,l1,l2,?_⟩
   have cl:=J0b ts us
   walk_at "g"
   refine And.intro (by rw [List.length_map];omega) ?_
   refine NG id (J9k ts us) (fun d Qf Q hd ht hf=>?_) (fun d hd _=>?_) (by rw [YB];exact hP)
   · obtain ⟨q,mq,rfl⟩:=List.mem_map.mp hd
     have qok:=(key q mq).1
     rw [J5g] at ht hf
     walk_at "g"
     refine ⟨q,rfl,qok.l,qok.t,qok.w,qok.h,?_⟩
     walk_at "g"
     refine And.intro (by rw [dotsT_len,Sq.dots_len];have:=Nat.mul_le_mul qok.w qok.h;omega) ?_
     refine IA (fun d=>((chF ts us).map T3.d).map fun t=>.bl (Q3o t d)) (fun d hd acc Q hQ=>?_) ?_
     · obtain ⟨i,ei⟩:=List.getElem?_of_mem hd
       obtain ⟨x,y,_,rfl,x0,x1,y0,y1⟩:=MC ei
       have bx:Bd 100 x:=(Bd.of (by have:=qok.l;have:=qok.w;omega) (by have:=qok.l;have:=qok.w;omega):Bd 8 _).mono (by decide)
       have b_y:Bd 100 y:=(Bd.of (by have:=qok.t;have:=qok.h;omega) (by have:=qok.t;have:=qok.h;omega):Bd 8 _).mono (by decide)
       clear hd ei
       walk_at "g"
       refine And.intro (by rw [List.length_map];omega) ?_
       refine IQ (fun t=>.bl (Q3o t (t2 x y))) (fun e Q he hQ=>?_) (fun e he=>rfl) hQ
       obtain ⟨t,mt,rfl⟩:=List.mem_map.mp he
       have ok:=((J0a mt).elim (hts t) (hus t)).1
       walk_at "g"
       exact ⟨t,x,y,100,rfl,ok,bx,b_y,by decide,hQ⟩
     · rw [Q0e]
       walk_at "g"
       rw [MF]
       walk_at "g"
       have ea:=J6f q (chF ts us)
       cases z:GJ ts us q with
       | true=>refine IfP.t (ea.trans z) ?_;walk_at "g";exact ht z
       | false=>exact IfP.f (ea.trans z) (hf z)
   · obtain ⟨q,mq,rfl⟩:=List.mem_map.mp hd
     rfl
abbrev FT:Stmt:=top 41
theorem BW:FnScope ["rows","square","x","y"] ["rows","square"] (J3 FT):=⟨rfl,rfl,rfl,by decide +kernel,rfl,by decide +kernel,by decide +kernel⟩
def J6i (K:Fg):DSU:=fun qs ds P=>∃ (a:Addr) (rs:List Addr) (rows:List (List D)) (q:Sq),(qs=[grp K a rs rows]/\ds=[q.d])/\rs.length=rows.length/\Q5s q rows/\q.ok/\P [grp K a rs (JV q rows)] .non
structure C_wipe_square (P:Program)(w:World)(K:Fg)(mg:Str->Option Value)(base:Heap)(c:Cs):Prop where
 dots_in_:Callee P w K mg base CX0 "dots_in" 1 ["square"] (J8 K BT LA)
theorem NX {f:Addr} (F:Fun K "wipe_square" "wipe_square" FT f fd) (Z:Bi mg) {c:Cs} (Y:Ex K mg base c) (G:C_wipe_square P w K mg base c):FnOk P w K mg base CX0 2 f fd ["rows","square"] (CL K BT (J6i K)):=by
 refine F.okDU BW (fun qs ds PP h=>?_) (fun cdv A outer s H E M bg qs ds PP hr hS_ hat=>?_)
 · obtain ⟨a,rs,rows,q,⟨rfl,rfl⟩,hlr,⟨ft,fl⟩,qok,hP⟩:=h
   rfl
 · obtain ⟨a,rs,rows,q,⟨rfl,rfl⟩,hlr,⟨ft,fl⟩,qok,hP⟩:=hS_
   refine ⟨_,(HS (AY (BR [2,3]) PassesOwn.never rfl (Z5 (by rfl) (J9 G.dots_in_ hr.m rfl (J0 (jdv 1) J1))) (PG.or (AV (n:=2) K (by rfl) (by rfl) (J6 (pg_name (i:=2) BW.nd rfl (by walk_at "o")) (J6 (pg_name (i:=3) BW.nd rfl (by walk_at "o")) Y1))) (AW (n:=2) K (by rfl) (by rfl) (J6 (pg_name (i:=2) BW.nd rfl (by walk_at "o")) (J6 (pg_name (i:=3) BW.nd rfl (by walk_at "o")) Y1)))) (J7 (KP (i:=0) (by rfl) HB (GV (FI IN (pv 0) (JE.h (jdv 3)) (fun _ _=>rfl)) (JE.h (jdv 2)) DY))))
    ZI),?_⟩
   walk_at "g"
   refine ⟨q,rfl,qok.l,qok.t,qok.w,qok.h,?_⟩
   walk_at "g"
   refine ⟨fun i ρ=>∃ v2 v3,ρ=[some (grd K a rs (rows.mapIdx fun y row=>row.mapIdx fun x d=>MJ (q.dots.take i) x y d)),some q.d,v2,v3],⟨_,_,by rw [List.take_zero,J0m];rfl⟩,?_,?_⟩
   · rintro i z ρ e ⟨v2,v3,rfl⟩
     obtain ⟨x,y,ed,rfl,x0,x1,y0,y1⟩:=MC e
     obtain ⟨x,rfl⟩:∃ n:Nat,x=n:=⟨x.toNat,by omega⟩
     obtain ⟨y,rfl⟩:∃ n:Nat,y=n:=⟨y.toNat,by omega⟩
     obtain ⟨row,er⟩:∃ row,rows[y]?=some row:=⟨rows[y]'(by omega),List.getElem?_eq_getElem _⟩
     have hrow:=fl row (List.mem_of_getElem? er)
     have et:q.dots.take (i+1)=q.dots.take i++[((x:Int),(y:Int))]:=by rw [List.take_add_one,ed];rfl
     rw [et]
     clear e
     walk_at "g"
     refine ⟨a,rs,_,rfl,by rw [List.length_mapIdx];exact hlr,?_⟩
     walk_at "g"
     refine ⟨y,_,rfl,by rw [List.getElem?_mapIdx,er];rfl,?_⟩
     walk_at "g"
     refine ⟨x,rfl,by rw [List.length_mapIdx];omega,?_⟩
     exact ⟨_,_,by rw [<- WD er];rfl⟩
   · rintro ρ ⟨v2,v3,rfl⟩
     rw [dotsT_len,List.take_length,J0n]
     exact ⟨_,Q0z rfl,hP⟩
abbrev EW:Stmt:=top 42
theorem IG:FnScope ["picture","older","newer","board","side","squares","rows","square"] ["picture","older","newer","board","side"] (J3 EW):=⟨rfl,rfl,rfl,by decide +kernel,rfl,by decide +kernel,by decide +kernel⟩
def YX:D->List D
 | .lst r=>r
 | _=>[]
def YM (c:Cs):DSG:=fun ds P Ed=>∃ (ts us:List T3) (d d':D) (rows:List (List D)),ds=[CC rows,BL ts,BL us,d,d']/\(∀ t∈ts,t.ok 100/\t.pos)/\(∀ t∈us,t.ok 100/\t.pos)/\ts.length<=100/\us.length<=100/\tkD d=true/\AJ d=true/\(FN d').isSome=true/\AJ d'=true/\(BK d=false->Ed c.NoBoard)/\(FH d'=false->Ed c.NoBoard)/\∀ (w h:Nat) (k:Int),d=t2 w h->d'=.int k->(1<=w/\w<=16/\1<=h/\h<=16/\1<=k/\k<=16)->(rows.length=h/\∀ r∈rows,r.length=w)/\P (mendR (dmgL ts us k w h) (fun x y=>seenN us x y us.length) rows)
structure C_mended (P:Program)(w:World)(K:Fg)(mg:Str->Option Value)(base:Heap)(c:Cs):Prop where
 damaged_:Callee P w K mg base (CX1 P w base) "damaged" 5 ["older","newer","board","side"] (DH K BT (Q1o c))
 wipe_square_:Callee P w K mg base CX0 "wipe_square" 2 ["rows","square"] (CL K BT (J6i K))
 paint_square_:Callee P w K mg base CX0 "paint_square" 6 ["rows","faces","square"] (CL K BT (Q1m K))
theorem J1j {f:Addr} (F:Fun K "mended" "mended" EW f fd) (Z:Bi mg) {c:Cs} (Y:Ex K mg base c) (G:C_mended P w K mg base c):FnOk P w K mg base (CX1 P w base) 7 f fd ["picture","older","newer","board","side"] (AX K BT (YM c)):=by
 refine F.okDXG IG (fun ds PP Ed h=>?_) (fun cdv A outer s H E M bg ds PP Ed hr hE hS_=>?_)
 · obtain ⟨ts,us,d,d',rows,rfl,hts,hus,l1,l2,hd,hno,hd',hno',h0,h0',hP⟩:=h
   rfl
 · obtain ⟨ts,us,d,d',rows,rfl,hts,hus,l1,l2,hd,hno,hd',hno',h0,h0',hP⟩:=hS_
   refine ⟨_,(HU (V0 (i:=5) IG.nd rfl (by walk_at "o") (QY hE JU G.damaged_ hr.m rfl (J0 (jdv 1) (J0 (jdv 2) (J0 (jdv 3) (J0 (jdv 4) J1))))))
    (HU (XW (X:=(V1 (CX1 P w base) P w K mg base ["picture","older","newer","board","side","squares","rows","square"] "mended" (J3 EW) f cdv A outer s H E)) (i:=6) IG.nd rfl (by walk_at "o") (V4 0) (Q5h (X:=(V1 (CX1 P w base) P w K mg base ["picture","older","newer","board","side","squares","rows","square"] "mended" (J3 EW) f cdv A outer s H E)) (N':=["row"]) (map:=[none]) (by rfl) (by rfl) (by decide +kernel) (by rfl) True.intro (gkeep_name rfl) fun cl0 C0 fp0 s0 H0=>⟨(pg_name (X:=(Q0 (V1 (CX1 P w base) P w K mg base ["picture","older","newer","board","side","squares","rows","square"] "mended" (J3 EW) f cdv A outer s H E) ["row"] _ cl0 C0 fp0 s0 H0)) (i:=0) (Z2 ["row"] (by decide +kernel)) rfl (by walk_at "o")),AG,(VC (X:=(Q0 (V1 (CX1 P w base) P w K mg base ["picture","older","newer","board","side","squares","rows","square"] "mended" (J3 EW) f cdv A outer s H E) ["row"] _ cl0 C0 fp0 s0 H0)) (J0 (jdv 0) J1) (EO (BG K (by rfl)) rfl Z.list_ EM (JA.h (J0 (jdv 0) J1))))⟩) (Z5 (by rfl) (jdv 0)))
    (HU (AY (V4 7) PassesOwn.leaving rfl (Z5 (by rfl) (jdv 5)) (pg_name (i:=7) IG.nd rfl (by walk_at "o")) (J4 (LV (js:=[6]) (by decide) (LN G.wipe_square_ hr.m rfl (BS (pv 6) (JA.h (J0 (jdv 7) J1)))))
    (J7 (LV (js:=[6]) (by decide) (LN G.paint_square_ hr.m rfl (BS (pv 6) (JA.h (J0 (jdv 2) (J0 (jdv 7) J1)))))))))
    (J4j (pv 6))))),?_⟩
   walk_at "g"
   refine ⟨ts,us,d,d',by show [_,_,bor d,bor d']=_;rw [TJ hno,TJ hno'];rfl,hts,hus,l1,l2,hd,hno,hd',hno',h0,h0',fun w h k e1 e2 hb=>?_⟩
   subst e1 e2
   obtain ⟨⟨hrl,hrw⟩,hP⟩:=hP w h k rfl rfl hb
   obtain ⟨w1,w2,h1,h2,k1,k2⟩:=hb
   refine ⟨KK fun d hd=>?_,?_⟩
   · obtain ⟨q,_,rfl⟩:=List.mem_map.mp hd
     rfl
   have key:∀ q∈dmgL ts us k w h,q.ok/\q.l+q.w<=w/\q.t+q.h<=h:=fun q m=>NC (List.mem_filter.mp m).1 k1 k2 w2 h2
   generalize dmgL ts us k w h=qs at hP key ⊢
   walk_at "g"
   refine And.intro (by rw [List.length_map];omega) ?_
   refine RH YX (fun x Q hx hQ=>?_) ?_
   · obtain ⟨row,_,rfl⟩:=List.mem_map.mp hx
     walk_at "g"
     exact hQ
   rw [show (rows.map D.lst).map YX=rows by rw [List.map_map];exact List.map_id _]
   intro a rs hrs
   walk_at "g"
   refine ⟨fun i ρ=>∃ v7,ρ=[some (CC rows),some (BL ts),some (BL us),some (t2 w h),some (.int k),some (.lst (qs.map Sq.d)),some (grd K a rs (mendR (qs.take i) (fun x y=>seenN us x y us.length) rows)),v7],⟨_,by rw [List.take_zero,J1n];rfl⟩,?_,?_⟩
   · rintro i z ρ e ⟨v7,rfl⟩
     rw [List.getElem?_map] at e
     obtain ⟨q,eq,rfl⟩:=Option.map_eq_some_iff.mp e
     obtain ⟨qok,ql,qt⟩:=key q (List.mem_of_getElem? eq)
     have et:qs.take (i+1)=qs.take i++[q]:=by rw [List.take_add_one,eq];rfl
     rw [et,<- XM]
     have hml:=LQ (qs:=qs.take i) (st:=fun x y=>seenN us x y us.length) (rows:=rows)
     have hmr:=XN (qs:=qs.take i) (st:=fun x y=>seenN us x y us.length) hrw
     generalize mendR (qs.take i) (fun x y=>seenN us x y us.length) rows=rows2 at hml hmr ⊢
     clear e et
     walk_at "g"
     refine ⟨_,Q0v OS rfl,?_⟩
     walk_at "g"
     refine ⟨a,rs,rows2,q,⟨rfl,rfl⟩,by omega,⟨by omega,fun row m=>by rw [hmr row m];exact ql⟩,qok,?_⟩
     walk_at "g"
     refine ⟨_,Q0v OS rfl,?_⟩
     walk_at "g"
     refine ⟨a,rs,JV q rows2,q,us,⟨rfl,rfl⟩,by rw [QG];omega,⟨by rw [QG];omega,fun row m=>by rw [WC hmr row m];exact ql⟩,qok,hus,by omega,?_⟩
     exact ⟨_,rfl⟩
   · rintro ρ ⟨v7,rfl⟩
     rw [List.length_map,List.take_length]
     walk_at "g"
     exact ⟨a,rs,_,rfl,hP⟩
structure Gd (r:R4):Prop where
 ok:r.ok 60
 w:0<r.w
def isF (d:D):Prop:=∃ a b c:R4,d=.tup [a.d,b.d,c.d]/\Gd a/\Gd b/\Gd c
theorem isF.pl {d:D}(h:isF d):plain d=true:=by obtain ⟨a,b,c,rfl,_⟩:=h;rfl
def t3R (a b c:R4):T3:=⟨a.x,a.y,a.z,a.w,b.x,b.y,b.z,b.w,c.x,c.y,c.z,c.w⟩
theorem isF.t {d:D}(h:isF d):∃ t:T3,d=t.d/\t.ok 100/\t.pos:=by
 obtain ⟨a,b,c,rfl,ha,hb,hc⟩:=h
 exact ⟨t3R a b c,rfl,⟨ha.ok.x.mono (by decide),ha.ok.y.mono (by decide),ha.ok.z.mono (by decide),ha.ok.w.mono (by decide),hb.ok.x.mono (by decide),hb.ok.y.mono (by decide),hb.ok.z.mono (by decide),hb.ok.w.mono (by decide),hc.ok.x.mono (by decide),hc.ok.y.mono (by decide),hc.ok.z.mono (by decide),hc.ok.w.mono (by decide)⟩,⟨ha.w,hb.w,hc.w⟩⟩
theorem isF.ts:∀ {xs:List D},(∀ d∈xs,isF d)->∃ ts:List T3,xs=ts.map T3.d/\∀ t∈ts,t.ok 100/\t.pos
 | [],_=>⟨[],rfl,fun _ m=>by cases m⟩
 | x::xs,h=>by
   obtain ⟨t,rfl,q⟩:=(h x (List.mem_cons_self ..)).t
   obtain ⟨ts,rfl,hs⟩:=isF.ts fun d m=>h d (List.mem_cons_of_mem _ m)
   refine ⟨t::ts,rfl,fun t' m=>?_⟩
   rcases List.mem_cons.mp m with z|z
   · rw [z];exact q
   · exact hs t' z
abbrev CY:Stmt:=top 50
theorem Z1:FnScope ["_law_bag_here","_law_wide","_law_w","_law_found","_law_k","_law_far","_law_x","_law_y"] ["_law_bag_here","_law_wide"] (J3 CY):=⟨rfl,rfl,rfl,by decide +kernel,rfl,by decide +kernel,by decide +kernel⟩
def NI:DSp:=fun ds P _=>∃ wide:Int,ds=[.bag,.int wide]/\0<=wide/\wide<=100/\∀ d,isF d->P d
structure C__law_board_face (P:Program)(w:World)(K:Fg)(mg:Str->Option Value)(base:Heap)(c:Cs):Prop where
 _law_digit_:Callee P w K mg base CX0 "_law_digit" 1 ["_law_bag_here","_law_many"] (J8 K BT HF)
 _law_spot_:Callee P w K mg base CX0 "_law_spot" 2 ["_law_x","_law_y","_law_z","_law_w"] (J8 K BT J0k)
theorem JN {f:Addr} (F:Fun K "_law_board_face" "_law_board_face" CY f fd) (Z:Bi mg) {c:Cs} (Y:Ex K mg base c) (G:C__law_board_face P w K mg base c):FnOk P w K mg base CX0 3 f fd ["_law_bag_here","_law_wide"] (J8 K BT NI):=by
 refine F.okD Z1 (fun ds PP Ed h=>?_) (fun cdv A outer s H E M bg ds PP Ed hr hS_=>?_)
 · obtain ⟨wide,rfl,w0,w1,hP⟩:=h
   rfl
 · obtain ⟨wide,rfl,w0,w1,hP⟩:=hS_
   refine ⟨_,(J4 (V0 (i:=2) Z1.nd rfl (by walk_at "o") (Q8 (Q9 K (by rfl)) V9 (EK (J0 J5 (J0 J5 (J0 J5 (J0 J5 J1))))) (J9 G._law_digit_ hr.m rfl (J0 (jdv 0) (J0 J5 J1))) (fun _ _=>rfl)))
    (J4 (KQ (i:=3) Z1.nd rfl (by walk_at "o") J1)
    (J4 (AY (V4 4) PassesOwn.never rfl (AK rfl Z.range_ (J0 J5 J1)) (pg_name (i:=4) Z1.nd rfl (by walk_at "o")) (J4 (V0 (i:=5) Z1.nd rfl (by walk_at "o") (Q8 (Q9 K (by rfl)) V9 (EK (J0 J5 (J0 J5 (J0 J5 (J0 J5 J1))))) (J9 G._law_digit_ hr.m rfl (J0 (jdv 0) (J0 J5 J1))) (fun _ _=>rfl)))
    (J4 (V0 (i:=6) Z1.nd rfl (by walk_at "o") (Q4 AR Y8 (Q4 AR Y8 (J9 G._law_digit_ hr.m rfl (J0 (jdv 0) (J0 (Q4 Y5 CH (Q4 AS Y8 (jdv 1) J5) (jdv 2)) J1))) (jdv 2)) (jdv 5)))
    (J4 (V0 (i:=7) Z1.nd rfl (by walk_at "o") (Q4 AS Y8 (Q4 AR Y8 (J9 G._law_digit_ hr.m rfl (J0 (jdv 0) (J0 (Q4 Y5 CH (Q4 AS Y8 (jdv 1) J5) (jdv 2)) J1))) (jdv 2)) (jdv 5)))
    (J7 (FD (i:=3) (by rfl) rfl (by walk_at "v") (J0 (J9 G._law_spot_ hr.m rfl (J0 (jdv 6) (J0 (jdv 7) (J0 (Q4 AR Y8 (J9 G._law_digit_ hr.m rfl (J0 (jdv 0) (J0 J5 J1))) J5) (J0 (jdv 2) J1))))) J1) (NV PySem.F.plainAttrs_list PySem.F.slot_list_append PySem.F.type_list_append DR (pv 3) (JA.h (J0 (J9 G._law_spot_ hr.m rfl (J0 (jdv 6) (J0 (jdv 7) (J0 (Q4 AR Y8 (J9 G._law_digit_ hr.m rfl (J0 (jdv 0) (J0 J5 J1))) J5) (J0 (jdv 2) J1))))) J1)))))))))
    (J4 (Z3 (Y3 FJ DC (J9 G._law_digit_ hr.m rfl (J0 (jdv 0) (J0 J5 J1))) J5 (V7 _)) (J7 (UZ (i:=3) rfl (by walk_at "v") (Q8 (Q9 K (by rfl)) V9 (jdv 3) J5 (fun _ _=>rfl)) J5 (GV (pv 3) (JE.h J5) DY))) Y0)
    (J7 (V2 (DV (PJ K (by rfl)) J5y rfl Z.tuple_ VY (J0 (jdv 3) J1)))))))),?_⟩
   walk_at "g"
   refine ⟨_,64,rfl,by decide,Bd.num _ (by decide),by decide,fun r r0 r1=>?_⟩
   walk_at "g"
   refine ixm r0 (by exact r1) fun dw mw=>?_
   obtain ⟨w',rfl,wp,wl⟩:∃ w':Int,dw=.int w'/\0<w'/\w'<=3:=by
    simp only [List.mem_cons,List.not_mem_nil,or_false] at mw
    rcases mw with e|e|e|e<;>exact ⟨_,e,by decide,by decide⟩
   have bw:Bd 4 w':=Bd.of (by omega) (by omega)
   have bwd:Bd 10 (wide+3):=Bd.of (by omega) (by omega)
   have pw:0<(wide+3)*w':=Int.mul_pos (by omega) wp
   have pl:(wide+3)*w'<=(wide+3)*3:=Int.mul_le_mul_of_nonneg_left wl (by omega)
   walk_at "g"
   refine ⟨fun i ρ=>∃ (rs:List R4) (v4 v5 v6 v7:Option D),ρ=[some .bag,some (.int wide),some (.int w'),some (.own (rs.map R4.d)),v4,v5,v6,v7]/\rs.length=i/\∀ r∈rs,Gd r,⟨[],_,_,_,_,rfl,rfl,fun _ m=>by cases m⟩,?_,?_⟩
   · rintro i x ρ e ⟨rs,v4,v5,v6,v7,rfl,hl,hg⟩
     obtain ⟨rfl,hi⟩:=BZ e
     walk_at "g"
     refine ⟨_,64,rfl,by decide,Bd.num _ (by decide),by decide,fun q q0 q1=>?_⟩
     walk_at "g"
     refine ixm q0 (by exact q1) fun df mf=>?_
     obtain ⟨far,rfl,f0,f1⟩:∃ far:Int,df=.int far/\0<=far/\far<=40:=by
      simp only [List.mem_cons,List.not_mem_nil,or_false] at mf
      rcases mf with e|e|e|e<;>exact ⟨_,e,by decide,by decide⟩
     walk_at "g"
     refine ⟨_,20,rfl,pw,(Bd.mul bwd bw).mono (by decide),by decide,fun x x0 x1=>?_⟩
     walk_at "g"
     refine ⟨_,20,rfl,pw,(Bd.mul bwd bw).mono (by decide),by decide,fun y y0 y1=>?_⟩
     walk_at "g"
     refine ⟨_,64,rfl,by decide,Bd.num _ (by decide),by decide,fun z z0 z1=>?_⟩
     walk_at "g"
     refine ⟨⟨x - w' - far,y - w'+far,z - 2,w'⟩,20,rfl,wp,⟨Bd.of (by dsimp only;omega) (by dsimp only;omega),Bd.of (by dsimp only;omega) (by dsimp only;omega),Bd.of (by dsimp only;omega) (by dsimp only;omega),bw.mono (by decide)⟩,by decide,fun s hsc hso=>?_⟩
     walk_at "g"
     refine And.intro (by show (true&&decide ((rs.map R4.d).length<1000))=true;rw [List.length_map];simp;omega) ?_
     refine ⟨rs++[s],_,_,_,_,by rw [List.map_append];rfl,by simp [hl],fun r m=>?_⟩
     rcases List.mem_append.mp m with z|z
     · exact hg r z
     · rw [List.mem_singleton.mp z];exact ⟨hso.mono (by decide),hsc.w⟩
   · rintro ρ ⟨rs,v4,v5,v6,v7,rfl,hl,hg⟩
     rw [rangeD_len] at hl
     obtain ⟨a,b,c,rfl⟩:∃ a b c,rs=[a,b,c]:=by
      match rs,hl with
      | [a,b,c],_=>exact ⟨a,b,c,rfl⟩
     walk_at "g"
     refine ⟨_,64,rfl,by decide,Bd.num _ (by decide),by decide,fun q q0 q1=>?_⟩
     walk_at "g"
     walk_at "sp"
     · walk_at "g"
       exact hP _ ⟨a,b,a,rfl,hg a (by simp),hg b (by simp),hg a (by simp)⟩
     · walk_at "g"
       exact hP _ ⟨a,b,c,rfl,hg a (by simp),hg b (by simp),hg c (by simp)⟩
abbrev BO:Stmt:=top 52
theorem FS:FnScope ["_law_bag_here","_law_wide","_law_k","_law_many"] ["_law_bag_here","_law_wide","_law_k"] (J3 BO):=⟨rfl,rfl,rfl,by decide +kernel,rfl,by decide +kernel,by decide +kernel⟩
def J0i:DSp:=fun ds P _=>∃ (wide k:Int),ds=[.bag,.int wide,.int k]/\0<=wide/\wide<=100/\∀ xs:List D,xs.length<=24->(∀ d∈xs,isF d)->P (.lst xs)
structure C__law_older (P:Program)(w:World)(K:Fg)(mg:Str->Option Value)(base:Heap)(c:Cs):Prop where
 _law_digit_:Callee P w K mg base CX0 "_law_digit" 1 ["_law_bag_here","_law_many"] (J8 K BT HF)
 _law_board_face_:Callee P w K mg base CX0 "_law_board_face" 3 ["_law_bag_here","_law_wide"] (J8 K BT NI)
theorem PZ {f:Addr} (F:Fun K "_law_older" "_law_older" BO f fd) (Z:Bi mg) {c:Cs} (Y:Ex K mg base c) (G:C__law_older P w K mg base c):FnOk P w K mg base CX0 4 f fd ["_law_bag_here","_law_wide","_law_k"] (J8 K BT J0i):=by
 refine F.okD FS (fun ds PP Ed h=>?_) (fun cdv A outer s H E M bg ds PP Ed hr hS_=>?_)
 · obtain ⟨wide,k,rfl,w0,w1,hP⟩:=h
   rfl
 · obtain ⟨wide,k,rfl,w0,w1,hP⟩:=hS_
   refine ⟨_,(J4 (V0 (i:=3) FS.nd rfl (by walk_at "o") (J9 G._law_digit_ hr.m rfl (J0 (jdv 0) (J0 J5 J1))))
    (J4 (Z3 (ZK (Y3 FJ DC (jdv 2) J5 (V7 _)) (J8n (Y3 GC CT (jdv 1) J5 (V7 _)) (UY (Y3 FJ DC (J9 G._law_digit_ hr.m rfl (J0 (jdv 0) (J0 J5 J1))) J5 (V7 _))))) (J7 (V0 (i:=3) FS.nd rfl (by walk_at "o") J5)) Y0)
    (J7 (V2 (EA (X:=(V1 CX0 P w K mg base ["_law_bag_here","_law_wide","_law_k","_law_many"] "_law_older" (J3 BO) f cdv A outer s H E).nox) (V4 0) (MG (X:=(V1 CX0 P w K mg base ["_law_bag_here","_law_wide","_law_k","_law_many"] "_law_older" (J3 BO) f cdv A outer s H E).nox) (N':=["_law_j","_law_bag_here","_law_wide"]) (map:=[none,some 0,some 1]) (by rfl) (by rfl) (by decide +kernel) (by rfl) ⟨⟨rfl,rfl,rfl,by walk_at "o"⟩,⟨⟨rfl,rfl,rfl,by walk_at "o"⟩,True.intro⟩⟩ (gkeep_name rfl) fun cl0 C0 fp0 s0 H0=>⟨(pg_name (X:=(Q0 (V1 CX0 P w K mg base ["_law_bag_here","_law_wide","_law_k","_law_many"] "_law_older" (J3 BO) f cdv A outer s H E).nox ["_law_j","_law_bag_here","_law_wide"] _ cl0 C0 fp0 s0 H0)) (i:=0) (Z2 ["_law_j","_law_bag_here","_law_wide"] (by decide +kernel)) rfl (by walk_at "o")),AG,(J9 (X:=(Q0 (V1 CX0 P w K mg base ["_law_bag_here","_law_wide","_law_k","_law_many"] "_law_older" (J3 BO) f cdv A outer s H E).nox ["_law_j","_law_bag_here","_law_wide"] _ cl0 C0 fp0 s0 H0)) G._law_board_face_ hr.m rfl (J0 (jdv 1) (J0 (jdv 2) J1)))⟩) (AK rfl Z.range_ (J0 (jdv 3) J1))))))),?_⟩
   have key:∀ many:Int,0<=many->many<=24->compI (gdN 0) MN (RF NI (fun _=>False) (J0g (QD 1) (J0g (QD 2) Q5k))) [none,some .bag,some (.int wide)] (V6 0 many.toNat) (fun acc=>PP (.lst acc)):=fun many h0 h1=>by
    refine VQ (fun _ y=>isF y) (fun i x Q e hQ=>?_) (fun i y h=>h.pl) (fun acc hl ha=>?_)
    · walk_at "g"
      exact ⟨wide,rfl,w0,w1,hQ⟩
    · rw [rangeD_len] at hl
      exact hP acc (by omega) fun d hd=>by
       obtain ⟨i,hi⟩:=List.getElem?_of_mem hd
       exact ha i d hi
   walk_at "g"
   refine ⟨_,64,rfl,by decide,Bd.num _ (by decide),by decide,fun many m0 m1=>?_⟩
   walk_at "g"
   walk_at "sp"
   · walk_at "g"
     walk_at "sp"
     · walk_at "g"
       refine ⟨_,64,rfl,by decide,Bd.num _ (by decide),by decide,fun q q0 q1=>?_⟩
       walk_at "g"
       walk_at "sp"
       · walk_at "g"
         (try refine And.intro ⟨by omega,by omega⟩ ?_)
         (try refine And.intro (by rw [rangeD_len];omega) ?_)
         exact key _ (by omega) (by omega)
       · walk_at "g"
         (try refine And.intro ⟨by omega,by omega⟩ ?_)
         (try refine And.intro (by rw [rangeD_len];omega) ?_)
         exact key _ (by omega) (by omega)
     · walk_at "g"
       (try refine And.intro ⟨by omega,by omega⟩ ?_)
       (try refine And.intro (by rw [rangeD_len];omega) ?_)
       exact key _ (by omega) (by omega)
   · walk_at "g"
     (try refine And.intro ⟨by omega,by omega⟩ ?_)
     (try refine And.intro (by rw [rangeD_len];omega) ?_)
     exact key _ (by omega) (by omega)
abbrev GO:Stmt:=top 51
theorem BC:FnScope ["_law_bag_here","_law_older_here","_law_wide","_law_newer_here","_law_step","_law_at","_law_told_round","_law_way"] ["_law_bag_here","_law_older_here","_law_wide"] (J3 GO):=⟨rfl,rfl,rfl,by decide +kernel,rfl,by decide +kernel,by decide +kernel⟩
def J0j:DSp:=fun ds P _=>∃ (xs:List D) (wide:Int),ds=[.bag,.lst xs,.int wide]/\0<=wide/\wide<=100/\xs.length<=24/\(∀ d∈xs,isF d)/\∀ ys:List D,ys.length<=24->(∀ d∈ys,isF d)->P (.lst ys)
structure C__law_newer (P:Program)(w:World)(K:Fg)(mg:Str->Option Value)(base:Heap)(c:Cs):Prop where
 _law_digit_:Callee P w K mg base CX0 "_law_digit" 1 ["_law_bag_here","_law_many"] (J8 K BT HF)
 _law_board_face_:Callee P w K mg base CX0 "_law_board_face" 3 ["_law_bag_here","_law_wide"] (J8 K BT NI)
theorem QA {f:Addr} (F:Fun K "_law_newer" "_law_newer" GO f fd) (Z:Bi mg) {c:Cs} (Y:Ex K mg base c) (G:C__law_newer P w K mg base c):FnOk P w K mg base CX0 4 f fd ["_law_bag_here","_law_older_here","_law_wide"] (J8 K BT J0j):=by
 refine F.okD BC (fun ds PP Ed h=>?_) (fun cdv A outer s H E M bg ds PP Ed hr hS_=>?_)
 · obtain ⟨xs,wide,rfl,w0,w1,hl,hx,hP⟩:=h
   rfl
 · obtain ⟨xs,wide,rfl,w0,w1,hl,hx,hP⟩:=hS_
   refine ⟨_,(J4 (OI (i:=3) BC.nd rfl (by walk_at "o") (J0 (jdv 1) J1) (EO (BG K (by rfl)) rfl Z.list_ EM (JA.h (J0 (jdv 1) J1))))
    (J4 (AY (V4 4) PassesOwn.never rfl (AK rfl Z.range_ (J0 (J9 G._law_digit_ hr.m rfl (J0 (jdv 0) (J0 J5 J1))) J1)) (pg_name (i:=4) BC.nd rfl (by walk_at "o")) (J7 (Z3 (Y3 J3t CT (Q5 (Q7 K (by rfl)) BJ rfl Z.len_ AU (J0 (jdv 3) J1)) J5 (V7 _)) (J4 (V0 (i:=5) BC.nd rfl (by walk_at "o") (J9 G._law_digit_ hr.m rfl (J0 (jdv 0) (J0 (Q5 (Q7 K (by rfl)) BJ rfl Z.len_ AU (J0 (jdv 3) J1)) J1))))
    (J4 (V0 (i:=6) BC.nd rfl (by walk_at "o") (Z9 (J0 (Q8 (Q9 K (by rfl)) V9 (Q8 (Q9 K (by rfl)) V9 (jdv 3) (jdv 5) (fun _ _=>rfl)) J5 (fun _ _=>rfl)) (J0 (Q8 (Q9 K (by rfl)) V9 (Q8 (Q9 K (by rfl)) V9 (jdv 3) (jdv 5) (fun _ _=>rfl)) J5 (fun _ _=>rfl)) (J0 (Q8 (Q9 K (by rfl)) V9 (Q8 (Q9 K (by rfl)) V9 (jdv 3) (jdv 5) (fun _ _=>rfl)) J5 (fun _ _=>rfl)) J1)))))
    (J7 (UZ (i:=3) rfl (by walk_at "v") (Q8 (Q9 K (by rfl)) V9 (EK (J0 (J9 G._law_board_face_ hr.m rfl (J0 (jdv 0) (J0 (jdv 2) J1))) (J0 (jdv 6) J1))) (DV MD SY rfl Z.int_ TF (J0 (DJ FJ DC (J9 G._law_digit_ hr.m rfl (J0 (jdv 0) (J0 J5 J1))) J5 (V7 _)) J1)) (fun _ _=>rfl)) (jdv 5) (GV (pv 3) (JE.h (jdv 5)) DY))))) Y0)))
    (J4 (V0 (i:=7) BC.nd rfl (by walk_at "o") (J9 G._law_digit_ hr.m rfl (J0 (jdv 0) (J0 J5 J1))))
    (J4 (Z3 (Y3 FJ DC (jdv 7) J5 (V7 _)) (J7 (V0 (i:=3) BC.nd rfl (by walk_at "o") (LW (WJ K (by rfl)) (jdv 3) OM (OL (J9 G._law_digit_ hr.m rfl (J0 (jdv 0) (J0 (Q4 AS Y8 (Q5 (Q7 K (by rfl)) BJ rfl Z.len_ AU (J0 (jdv 3) J1)) J5) J1))))))) Y0)
    (J4 (Z3 (ZK (Y3 FJ DC (jdv 7) J5 (V7 _)) (UY (Y3 GC CT (Q5 (Q7 K (by rfl)) BJ rfl Z.len_ AU (J0 (jdv 3) J1)) J5 (V7 _)))) (J7 (FD (i:=3) (by rfl) rfl (by walk_at "v") (J0 (J9 G._law_board_face_ hr.m rfl (J0 (jdv 0) (J0 (jdv 2) J1))) J1) (NV PySem.F.plainAttrs_list PySem.F.slot_list_append PySem.F.type_list_append DR (pv 3) (JA.h (J0 (J9 G._law_board_face_ hr.m rfl (J0 (jdv 0) (J0 (jdv 2) J1))) J1))))) Y0)
    (J7 (V2 (jdv 3)))))))),?_⟩
   walk_at "g"
   refine ⟨_,64,rfl,by decide,Bd.num _ (by decide),by decide,fun r r0 r1=>?_⟩
   walk_at "g"
   refine And.intro ⟨by omega,by omega⟩ ?_
   refine ⟨fun i ρ=>∃ (ys:List D) (v4 v5 v6 v7:Option D),ρ=[some .bag,some (.lst xs),some (.int wide),some (.own ys),v4,v5,v6,v7]/\ys.length<=24/\∀ d∈ys,isF d,⟨xs,_,_,_,_,rfl,hl,hx⟩,?_,?_⟩
   · rintro i x ρ e ⟨ys,v4,v5,v6,v7,rfl,hyl,hy⟩
     obtain ⟨rfl,hi⟩:=BZ e
     walk_at "g"
     walk_at "sp"
     · rename_i hp
       have hp:0<ys.length:=by omega
       walk_at "g"
       refine ⟨_,64,rfl,by omega,Bd.of (by omega) (by omega),by decide,fun at' a0 a1=>?_⟩
       walk_at "g"
       refine ixm a0 a1 fun d1 m1=>?_
       obtain ⟨a,b,c,rfl,ga⟩:=hy d1 m1
       walk_at "g"
       refine ixm a0 a1 fun d2 m2=>?_
       obtain ⟨a',b',c',rfl,gb⟩:=hy d2 m2
       walk_at "g"
       refine ixm a0 a1 fun d3 m3=>?_
       obtain ⟨a2,b2,c2,rfl,gc⟩:=hy d3 m3
       walk_at "g"
       refine ⟨wide,rfl,w0,w1,fun nf hnf=>?_⟩
       obtain ⟨n1,n2,n3,rfl,gn⟩:=hnf
       walk_at "g"
       refine ⟨_,64,rfl,by decide,Bd.num _ (by decide),by decide,fun q q0 q1=>?_⟩
       walk_at "g"
       refine ixm (by split<;>decide) (by show _<(2:Int);split<;>decide) fun d md=>?_
       have hd:isF d:=by
        simp only [List.mem_cons,List.not_mem_nil,or_false] at md
        rcases md with e|e
        · exact ⟨_,_,_,e,gn⟩
        · exact ⟨_,_,_,e,ga.2.1,gb.2.2,gc.1⟩
       have hix:ixN ys.length at'=some at'.toNat:=by unfold ixN;rw [if_pos a0,if_pos a1]
       have hpl:plain d=true:=hd.pl
       walk_at "g"
       refine And.intro hpl ?_
       rw [hix]
       walk_at "g"
       refine ⟨ys.set at'.toNat d,_,_,_,_,rfl,by rw [List.length_set];exact hyl,fun e he=>?_⟩
       rcases List.mem_or_eq_of_mem_set he with z|z
       · exact hy e z
       · rw [z];exact hd
     · walk_at "g"
       exact ⟨ys,_,_,_,_,rfl,hyl,hy⟩
   · rintro ρ ⟨ys,v4,v5,v6,v7,rfl,hyl,hy⟩
     walk_at "g"
     refine ⟨_,64,rfl,by decide,Bd.num _ (by decide),by decide,fun way y0 y1=>?_⟩
     obtain rfl|rfl|hw:way=0\/way=1\/2<=way:=by omega
     · walk_at "g"
       refine ⟨_,64,rfl,by omega,Bd.of (by omega) (by omega),by decide,fun q q0 q1=>?_⟩
       walk_at "g"
       refine hP _ ?_ fun d hd=>?_
       · unfold L2.SQ
         simp only [List.length_take,List.length_drop]
         omega
       · unfold L2.SQ at hd
         exact hy d (List.mem_of_mem_drop (List.mem_of_mem_take hd))
     · walk_at "g"
       walk_at "sp"
       · walk_at "g"
         refine ⟨wide,rfl,w0,w1,fun nf hnf=>?_⟩
         have hpl:plain nf=true:=hnf.pl
         walk_at "g"
         refine And.intro (by show (plain nf&&decide (ys.length<1000))=true;rw [hpl];simp;omega) ?_
         walk_at "g"
         refine hP _ (by simp;omega) fun d hd=>?_
         rcases List.mem_append.mp hd with z|z
         · exact hy d z
         · have:d=nf:=by simpa using z
           rw [this];exact hnf
       · walk_at "g"
         exact hP ys (by omega) hy
     · walk_at "g"
       refine IfP.f (by simp;omega) ?_
       walk_at "g"
       refine IfP.f (by simp;omega) ?_
       walk_at "g"
       exact hP ys (by omega) hy
abbrev EY:Stmt:=top 48
theorem Q3:FnScope ["_law_a","_law_b","_law_dot","_law_px","_law_py","_law_ax","_law_ay","_law_az","_law_aw","_law_bx","_law_by","_law_bz","_law_bw","_law_across","_law_down","_law_found","_law_number"] ["_law_a","_law_b","_law_dot"] (J3 EY):=⟨rfl,rfl,rfl,by decide +kernel,rfl,by decide +kernel,by decide +kernel⟩
theorem Q2n {n:Int}{P:D->Prop}(h:n≠0)(hp:P (.int (sgn n))):(atI [D.int 1,D.int (-1)] (if decide (n<0)=true then 1 else 0)).elim False P:=by
 rcases DP n with ⟨q,e⟩|⟨q,e⟩|⟨q,e⟩
 · rw [e] at hp
   rw [if_neg (by simp;omega)]
   exact hp
 · exact absurd q h
 · rw [e] at hp
   rw [if_pos (by simp;omega)]
   exact hp
theorem Q3b (ax ay aw bx b_y bw px py:Int):px*(ay*bw - aw*b_y)+py*(aw*bx - ax*bw)+ax*b_y - ay*bx=det ax ay aw bx b_y bw px py 1:=by unfold det;grind
abbrev T3.ra (t:T3):R4:=⟨t.ax,t.ay,t.az,t.aw⟩
abbrev T3.rb (t:T3):R4:=⟨t.bx,t.b_y,t.bz,t.bw⟩
abbrev T3.rc (t:T3):R4:=⟨t.cx,t.cy,t.cz,t.cw⟩
def Q1n:DSp:=fun ds P _=>∃ (a b:R4) (px py:Int),ds=[a.d,b.d,t2 px py]/\a.ok 100/\b.ok 100/\Bd 100 px/\Bd 100 py/\P (.int (sgn (shd a.x a.y a.w b.x b.y b.w px py)))
theorem MW {f:Addr} (F:Fun K "_law_shifted" "_law_shifted" EY f fd) (Z:Bi mg) {c:Cs} (Y:Ex K mg base c):FnOk P w K mg base CX0 1 f fd ["_law_a","_law_b","_law_dot"] (J8 K BT Q1n):=by
 refine F.okD Q3 (fun ds PP Ed h=>?_) (fun cdv A outer s H E M bg ds PP Ed hr hS_=>?_)
 · obtain ⟨a,b,px,py,rfl,⟨a1,a2,a3,a4⟩,⟨b1,b2,b3,b4⟩,hx,hy,hP⟩:=h
   rfl
 · obtain ⟨a,b,px,py,rfl,⟨a1,a2,a3,a4⟩,⟨b1,b2,b3,b4⟩,hx,hy,hP⟩:=hS_
   refine ⟨_,(J4 (CM (BR [3,4]) (jdv 2) (PG.or (AV (n:=2) K (by rfl) (by rfl) (J6 (pg_name (i:=3) Q3.nd rfl (by walk_at "o")) (J6 (pg_name (i:=4) Q3.nd rfl (by walk_at "o")) Y1))) (AW (n:=2) K (by rfl) (by rfl) (J6 (pg_name (i:=3) Q3.nd rfl (by walk_at "o")) (J6 (pg_name (i:=4) Q3.nd rfl (by walk_at "o")) Y1)))))
    (J4 (CM (BR [5,6,7,8]) (jdv 0) (PG.or (AV (n:=4) K (by rfl) (by rfl) (J6 (pg_name (i:=5) Q3.nd rfl (by walk_at "o")) (J6 (pg_name (i:=6) Q3.nd rfl (by walk_at "o")) (J6 (pg_name (i:=7) Q3.nd rfl (by walk_at "o")) (J6 (pg_name (i:=8) Q3.nd rfl (by walk_at "o")) Y1))))) (AW (n:=4) K (by rfl) (by rfl) (J6 (pg_name (i:=5) Q3.nd rfl (by walk_at "o")) (J6 (pg_name (i:=6) Q3.nd rfl (by walk_at "o")) (J6 (pg_name (i:=7) Q3.nd rfl (by walk_at "o")) (J6 (pg_name (i:=8) Q3.nd rfl (by walk_at "o")) Y1)))))))
    (J4 (CM (BR [9,10,11,12]) (jdv 1) (PG.or (AV (n:=4) K (by rfl) (by rfl) (J6 (pg_name (i:=9) Q3.nd rfl (by walk_at "o")) (J6 (pg_name (i:=10) Q3.nd rfl (by walk_at "o")) (J6 (pg_name (i:=11) Q3.nd rfl (by walk_at "o")) (J6 (pg_name (i:=12) Q3.nd rfl (by walk_at "o")) Y1))))) (AW (n:=4) K (by rfl) (by rfl) (J6 (pg_name (i:=9) Q3.nd rfl (by walk_at "o")) (J6 (pg_name (i:=10) Q3.nd rfl (by walk_at "o")) (J6 (pg_name (i:=11) Q3.nd rfl (by walk_at "o")) (J6 (pg_name (i:=12) Q3.nd rfl (by walk_at "o")) Y1)))))))
    (J4 (V0 (i:=13) Q3.nd rfl (by walk_at "o") (Q4 AR Y8 (Q4 Y5 CH (jdv 6) (jdv 12)) (Q4 Y5 CH (jdv 8) (jdv 10))))
    (J4 (V0 (i:=14) Q3.nd rfl (by walk_at "o") (Q4 AR Y8 (Q4 Y5 CH (jdv 8) (jdv 9)) (Q4 Y5 CH (jdv 5) (jdv 12))))
    (J4 (V0 (i:=15) Q3.nd rfl (by walk_at "o") (Q4 AR Y8 (Q4 AS Y8 (Q4 AS Y8 (Q4 Y5 CH (jdv 3) (jdv 13)) (Q4 Y5 CH (jdv 4) (jdv 14))) (Q4 Y5 CH (jdv 5) (jdv 10))) (Q4 Y5 CH (jdv 6) (jdv 9))))
    (J4 (AY (V4 16) PassesOwn.never rfl (Z5 (by rfl) (Z9 (J0 (jdv 15) (J0 (jdv 13) (J0 (jdv 14) J1))))) (pg_name (i:=16) Q3.nd rfl (by walk_at "o")) (J7 (Z3 (Y3 J3s J3w (jdv 16) J5 (V7 _)) (J7 (V2 (Q8 (Q9 K (by rfl)) V9 (EK (J0 J5 (J0 (HC J5) J1))) (DV MD SY rfl Z.int_ TF (J0 (DJ GC CT (jdv 16) J5 (V7 _)) J1)) (fun _ _=>rfl)))) Y0)) J2b)
    (J7 (V2 J5))))))))),?_⟩
   have d1:Bd 201 (a.y*b.w - a.w*b.y):=Bd.sub (Bd.mul a2 b4) (Bd.mul a4 b2)
   have d2:Bd 201 (a.w*b.x - a.x*b.w):=Bd.sub (Bd.mul a4 b1) (Bd.mul a1 b4)
   walk_at "g"
   rw [Q3b]
   unfold shd at hP
   generalize det a.x a.y a.w b.x b.y b.w px py 1=A0 at *
   generalize a.y*b.w - a.w*b.y=B0 at *
   generalize a.w*b.x - a.x*b.w=C0 at *
   walk_at "gr"
   by_cases hA:A0=0
   · rw [if_pos hA] at hP
     refine IfP.f (by simp [hA]) ?_
     walk_at "g"
     by_cases hB:B0=0
     · rw [if_pos hB] at hP
       refine IfP.f (by simp [hB]) ?_
       walk_at "g"
       by_cases hC:C0=0
       · refine IfP.f (by simp [hC]) ?_
         rw [hC] at hP
         exact hP
       · refine IfP.t (by simp [hC]) ?_
         walk_at "g"
         refine Q2n hC ?_
         exact hP
     · rw [if_neg hB] at hP
       refine IfP.t (by simp [hB]) ?_
       walk_at "g"
       refine Q2n hB ?_
       exact hP
   · rw [if_neg hA] at hP
     refine IfP.t (by simp [hA]) ?_
     walk_at "g"
     refine Q2n hA ?_
     exact hP
abbrev JH:Stmt:=top 49
theorem BM:FnScope ["_law_face","_law_dot","_law_a","_law_b","_law_c","_law_signs"] ["_law_face","_law_dot"] (J3 JH):=⟨rfl,rfl,rfl,by decide +kernel,rfl,by decide +kernel,by decide +kernel⟩
def J6o:DSp:=fun ds P _=>∃ (t:T3) (px py:Int),ds=[t.d,t2 px py]/\t.ok 100/\Bd 100 px/\Bd 100 py/\P (.bl (decide (t.has px py)))
theorem Q7r (x y z a b c:Int):PyData.eqv (.tuple [.int x,.int y,.int z]) (.tuple [.int a,.int b,.int c])=decide (x=a/\y=b/\z=c):=by
 by_cases h1:x=a<;>by_cases h2:y=b<;>by_cases h3:z=c<;>simp [PyData.eqv,PyData.eqvAll,h1,h2,h3]
structure C__law_has (P:Program)(w:World)(K:Fg)(mg:Str->Option Value)(base:Heap)(c:Cs):Prop where
 _law_shifted_:Callee P w K mg base CX0 "_law_shifted" 1 ["_law_a","_law_b","_law_dot"] (J8 K BT Q1n)
theorem UQ {f:Addr} (F:Fun K "_law_has" "_law_has" JH f fd) (Z:Bi mg) {c:Cs} (Y:Ex K mg base c) (G:C__law_has P w K mg base c):FnOk P w K mg base CX0 2 f fd ["_law_face","_law_dot"] (J8 K BT J6o):=by
 refine F.okD BM (fun ds PP Ed h=>?_) (fun cdv A outer s H E M bg ds PP Ed hr hS_=>?_)
 · obtain ⟨t,px,py,rfl,ok,hx,hy,hP⟩:=h
   rfl
 · obtain ⟨t,px,py,rfl,ok,hx,hy,hP⟩:=hS_
   refine ⟨_,(J4 (CM (BR [2,3,4]) (jdv 0) (PG.or (AV (n:=3) K (by rfl) (by rfl) (J6 (pg_name (i:=2) BM.nd rfl (by walk_at "o")) (J6 (pg_name (i:=3) BM.nd rfl (by walk_at "o")) (J6 (pg_name (i:=4) BM.nd rfl (by walk_at "o")) Y1)))) (AW (n:=3) K (by rfl) (by rfl) (J6 (pg_name (i:=2) BM.nd rfl (by walk_at "o")) (J6 (pg_name (i:=3) BM.nd rfl (by walk_at "o")) (J6 (pg_name (i:=4) BM.nd rfl (by walk_at "o")) Y1))))))
    (J4 (V0 (i:=5) BM.nd rfl (by walk_at "o") (Z9 (J0 (J9 G._law_shifted_ hr.m rfl (J0 (jdv 2) (J0 (jdv 3) (J0 (jdv 1) J1)))) (J0 (J9 G._law_shifted_ hr.m rfl (J0 (jdv 3) (J0 (jdv 4) (J0 (jdv 1) J1)))) (J0 (J9 G._law_shifted_ hr.m rfl (J0 (jdv 4) (J0 (jdv 2) (J0 (jdv 1) J1)))) J1)))))
    (J7 (V2 (J4r (DJ (WZ K (by rfl) hr.units) DQ (jdv 5) (Z9 (J0 J5 (J0 J5 (J0 J5 J1)))) (V7 _)) (IL (DJ (WZ K (by rfl) hr.units) DQ (jdv 5) (Z9 (J0 (HC J5) (J0 (HC J5) (J0 (HC J5) J1)))) (V7 _)))))))),?_⟩
   have key:∀ b:Bool,(b=true↔t.has px py)->PP (.bl b):=fun b h=>by
    rw [show b=decide (t.has px py) from by rw [Bool.eq_iff_iff,h];simp]
    exact hP
   have fa:(T3.ra t).ok 100:=⟨ok.ax,ok.ay,ok.az,ok.aw⟩
   have fb:(T3.rb t).ok 100:=⟨ok.bx,ok.b_y,ok.bz,ok.bw⟩
   have fc:(T3.rc t).ok 100:=⟨ok.cx,ok.cy,ok.cz,ok.cw⟩
   unfold T3.has T3.s1 T3.s2 T3.s3 at key
   walk_at "g"
   refine ⟨t.ra,t.rb,px,py,rfl,fa,fb,hx,hy,?_⟩
   walk_at "g"
   refine ⟨t.rb,t.rc,px,py,rfl,fb,fc,hx,hy,?_⟩
   walk_at "g"
   refine ⟨t.rc,t.ra,px,py,rfl,fc,fa,hx,hy,?_⟩
   replace key:∀ b:Bool,(b=true↔(sgn (shd t.ra.x t.ra.y t.ra.w t.rb.x t.rb.y t.rb.w px py)≠0/\sgn (shd t.rb.x t.rb.y t.rb.w t.rc.x t.rc.y t.rc.w px py)=sgn (shd t.ra.x t.ra.y t.ra.w t.rb.x t.rb.y t.rb.w px py)/\sgn (shd t.rc.x t.rc.y t.rc.w t.ra.x t.ra.y t.ra.w px py)=sgn (shd t.ra.x t.ra.y t.ra.w t.rb.x t.rb.y t.rb.w px py)))->PP (.bl b):=key
   have c1:=DP (shd t.ra.x t.ra.y t.ra.w t.rb.x t.rb.y t.rb.w px py)
   have c2:=DP (shd t.rb.x t.rb.y t.rb.w t.rc.x t.rc.y t.rc.w px py)
   have c3:=DP (shd t.rc.x t.rc.y t.rc.w t.ra.x t.ra.y t.ra.w px py)
   generalize sgn (shd t.ra.x t.ra.y t.ra.w t.rb.x t.rb.y t.rb.w px py)=s1 at *
   generalize sgn (shd t.rb.x t.rb.y t.rb.w t.rc.x t.rc.y t.rc.w px py)=s2 at *
   generalize sgn (shd t.rc.x t.rc.y t.rc.w t.ra.x t.ra.y t.ra.w px py)=s3 at *
   walk_at "g"
   refine ⟨.tuple [.int s1,.int s2,.int s3],.tuple [.int 1,.int 1,.int 1],rfl,rfl,Nat.le_trans (Nat.min_le_right _ _) (by decide),?_⟩
   rw [Q7r]
   by_cases h1:s1=1/\s2=1/\s3=1
   · rw [decide_eq_true h1]
     walk_at "g"
     refine key _ ?_
     simp
     omega
   · rw [decide_eq_false h1]
     walk_at "g"
     refine ⟨.tuple [.int s1,.int s2,.int s3],.tuple [.int (-1),.int (-1),.int (-1)],rfl,rfl,Nat.le_trans (Nat.min_le_right _ _) (by decide),?_⟩
     rw [Q7r]
     refine key _ ?_
     refine Iff.trans (b:=(s1 = -1/\s2 = -1/\s3 = -1)) (by simp) ?_
     omega
abbrev EX:Stmt:=top 53
theorem CK:FnScope ["_law_wide","_law_high","_law_edge","_law_found","_law_left","_law_top"] ["_law_wide","_law_high","_law_edge"] (J3 EX):=⟨rfl,rfl,rfl,by decide +kernel,rfl,by decide +kernel,by decide +kernel⟩
def J6n:DSp:=fun ds P _=>∃ (w h:Nat) (k:Int),ds=[.int w,.int h,.int k]/\(w<=16/\h<=16/\1<=k/\k<=16)/\P (.lst (sqs k w h))
theorem MV {f:Addr} (F:Fun K "_law_squares" "_law_squares" EX f fd) (Z:Bi mg) {c:Cs} (Y:Ex K mg base c):FnOk P w K mg base CX0 1 f fd ["_law_wide","_law_high","_law_edge"] (J8 K BT J6n):=by
 refine F.okD CK (fun ds PP Ed h=>?_) (fun cdv A outer s H E M bg ds PP Ed hr hS_=>?_)
 · obtain ⟨wd,hg,k,rfl,⟨h2,h4,h5,h6⟩,hP⟩:=h
   rfl
 · obtain ⟨wd,hg,k,rfl,⟨h2,h4,h5,h6⟩,hP⟩:=hS_
   refine ⟨_,(J4 (KQ (i:=3) CK.nd rfl (by walk_at "o") J1)
    (J4 (AY (V4 4) PassesOwn.never rfl (HA rfl Z.range_ (J0 J5 (J0 (jdv 0) (J0 (jdv 2) J1)))) (pg_name (i:=4) CK.nd rfl (by walk_at "o")) (J7 (AY (V4 5) PassesOwn.never rfl (HA rfl Z.range_ (J0 J5 (J0 (jdv 1) (J0 (jdv 2) J1)))) (pg_name (i:=5) CK.nd rfl (by walk_at "o")) (J7 (FD (i:=3) (by rfl) rfl (by walk_at "v") (J0 (Z9 (J0 (jdv 4) (J0 (jdv 5) (J0 (Q5 (CV (by rfl)) HG rfl Z.min_ IB (J0 (jdv 2) (J0 (Q4 AR Y8 (jdv 0) (jdv 4)) J1))) (J0 (Q5 (CV (by rfl)) HG rfl Z.min_ IB (J0 (jdv 2) (J0 (Q4 AR Y8 (jdv 1) (jdv 5)) J1))) J1))))) J1) (NV PySem.F.plainAttrs_list PySem.F.slot_list_append PySem.F.type_list_append DR (pv 3) (JA.h (J0 (Z9 (J0 (jdv 4) (J0 (jdv 5) (J0 (Q5 (CV (by rfl)) HG rfl Z.min_ IB (J0 (jdv 2) (J0 (Q4 AR Y8 (jdv 0) (jdv 4)) J1))) (J0 (Q5 (CV (by rfl)) HG rfl Z.min_ IB (J0 (jdv 2) (J0 (Q4 AR Y8 (jdv 1) (jdv 5)) J1))) J1))))) J1))))))))
    (J7 (V2 (jdv 3))))),?_⟩
   have mw:=ER k wd
   have mh:=ER k hg
   have lenB:∀ i:Nat,i<=wd->(((Y7 k wd).take i).flatMap fun x=>(Y7 k hg).map fun y=>sq1 k wd hg x y).length<=16*i:=fun i _=>by
    rw [List.length_flatMap]
    have e:((Y7 k wd).take i).map (fun x=>((Y7 k hg).map fun y=>sq1 k wd hg x y).length)=((Y7 k wd).take i).map fun _=>(Y7 k hg).length:=by simp
    rw [e]
    have:((Y7 k wd).take i).length<=i:=by simp [List.length_take];omega
    generalize (Y7 k wd).take i=l at *
    have q:∀ l:List Int,(l.map fun _=>(Y7 k hg).length).sum<=16*l.length:=fun l=>by
     induction l with
     | nil=>simp
     | cons a l ih=>simp only [List.map_cons,List.sum_cons,List.length_cons];omega
    have:=q l
    omega
   walk_at "g"
   refine And.intro (by omega) ?_
   rw [CZ (by omega)]
   refine ⟨fun i ρ=>∃ v4 v5,ρ=[some (.int wd),some (.int hg),some (.int k),some (.own (((Y7 k wd).take i).flatMap fun x=>(Y7 k hg).map fun y=>sq1 k wd hg x y)),v4,v5],⟨_,_,rfl⟩,?_,?_⟩
   · rintro i x ρ e ⟨v3,v4,rfl⟩
     obtain ⟨x,ex,rfl,x0,x1⟩:=IK e
     clear e
     have hi:i<(Y7 k wd).length:=(List.getElem?_eq_some_iff.mp ex).1
     have lb:=lenB i (by omega)
     generalize hA:((Y7 k wd).take i).flatMap (fun x=>(Y7 k hg).map fun y=>sq1 k wd hg x y)=A0 at *
     walk_at "g"
     refine And.intro (by omega) ?_
     rw [CZ (by omega)]
     refine ⟨fun j ρ=>∃ v5,ρ=[some (.int wd),some (.int hg),some (.int k),some (.own (A0++((Y7 k hg).take j).map fun y=>sq1 k wd hg x y)),some (.int x),v5],⟨_,by simp;rfl⟩,?_,?_⟩
     · rintro j y ρ e ⟨v4,rfl⟩
       obtain ⟨y,ey,rfl,y0,y1⟩:=IK e
       clear e
       have hj:j<(Y7 k hg).length:=(List.getElem?_eq_some_iff.mp ey).1
       walk_at "g"
       refine And.intro (by simp [L2.plain];omega) ?_
       walk_at "nz"
       rw [List.take_add_one,ey,Option.toList_some,List.map_append,<- List.append_assoc]
       exact ⟨_,rfl⟩
     · rintro ρ ⟨v4,rfl⟩
       rw [List.length_map,List.take_length,List.take_add_one,ex,Option.toList_some,List.flatMap_append,hA]
       refine ⟨some (.int x),v4,?_⟩
       simp
   · rintro ρ ⟨v3,v4,rfl⟩
     rw [List.length_map,List.take_length]
     walk_at "g"
     exact hP
abbrev EZ:Stmt:=top 54
theorem EE:FnScope ["_law_older_here","_law_newer_here","_law_found","_law_k"] ["_law_older_here","_law_newer_here"] (J3 EZ):=⟨rfl,rfl,rfl,by decide +kernel,rfl,by decide +kernel,by decide +kernel⟩
theorem RC (p:Nat->Bool)(n:Nat):(List.range (n+1)).filter p=(List.range n).filter p++if p n=true then [n] else []:=by
 rw [List.range_succ,List.filter_append]
 cases h:p n<;>simp [h]
def J6q:DSp:=fun ds P _=>∃ ts us:List T3,ds=[BL ts,BL us]/\(ts.length<=100/\us.length<=100)/\P (.lst ((chN ts us).map EJ))
theorem MY {f:Addr} (F:Fun K "_law_changed" "_law_changed" EZ f fd) (Z:Bi mg) {c:Cs} (Y:Ex K mg base c):FnOk P w K mg base CX0 1 f fd ["_law_older_here","_law_newer_here"] (J8 K BT J6q):=by
 refine F.okD EE (fun ds PP Ed h=>?_) (fun cdv A outer s H E M bg ds PP Ed hr hS_=>?_)
 · obtain ⟨ts,us,rfl,⟨l1,l2⟩,hP⟩:=h
   rfl
 · obtain ⟨ts,us,rfl,⟨l1,l2⟩,hP⟩:=hS_
   refine ⟨_,(J4 (KQ (i:=2) EE.nd rfl (by walk_at "o") J1)
    (J4 (AY (V4 3) PassesOwn.never rfl (AK rfl Z.range_ (J0 (Q5 (IS (by rfl)) HG rfl Z.max_ TD (J0 (Q5 (Q7 K (by rfl)) BJ rfl Z.len_ AU (J0 (jdv 0) J1)) (J0 (Q5 (Q7 K (by rfl)) BJ rfl Z.len_ AU (J0 (jdv 1) J1)) J1))) J1)) (pg_name (i:=3) EE.nd rfl (by walk_at "o")) (J7 (Z3 (JQ (Y3 J3u CT (jdv 3) (Q5 (Q7 K (by rfl)) BJ rfl Z.len_ AU (J0 (jdv 0) J1)) (V7 _)) (XV (Y3 J3u CT (jdv 3) (Q5 (Q7 K (by rfl)) BJ rfl Z.len_ AU (J0 (jdv 1) J1)) (V7 _)) (GY (Y3 (FZ K (by rfl) hr.units) DQ (Q8 (Q9 K (by rfl)) V9 (jdv 0) (jdv 3) (fun _ _=>rfl)) (Q8 (Q9 K (by rfl)) V9 (jdv 1) (jdv 3) (fun _ _=>rfl)) (V7 _))))) (J7 (FD (i:=2) (by rfl) rfl (by walk_at "v") (J0 (jdv 3) J1) (NV PySem.F.plainAttrs_list PySem.F.slot_list_append PySem.F.type_list_append DR (pv 2) (JA.h (J0 (jdv 3) J1))))) Y0)))
    (J7 (V2 (jdv 2))))),?_⟩
   walk_at "g"
   have e2:((fun i j=>if j>i then j else i) ((ts.map T3.d).length:Int) ((us.map T3.d).length:Int):Int)=((max ts.length us.length:Nat):Int):=by rw [List.length_map,List.length_map];dsimp only;split<;>omega
   rw [e2]
   refine And.intro ⟨by omega,by omega⟩ ?_
   refine ⟨fun i ρ=>∃ v3,ρ=[some (BL ts),some (BL us),some (.own (((List.range i).filter (chP ts us)).map EJ)),v3],⟨_,rfl⟩,?_,?_⟩
   · rintro i x ρ e ⟨v3,rfl⟩
     obtain ⟨rfl,hi⟩:=BZ e
     have hlen:(((List.range i).filter (chP ts us)).map EJ).length<=i:=by
      rw [List.length_map]
      have:=List.length_filter_le (chP ts us) (List.range i)
      rw [List.length_range] at this
      exact this
     have app:chP ts us i=true->((((List.range i).filter (chP ts us)).map EJ)++[EJ i])=((List.range (i+1)).filter (chP ts us)).map EJ:=fun h=>by rw [RC,if_pos h];simp
     have no:chP ts us i=false->(((List.range i).filter (chP ts us)).map EJ)=((List.range (i+1)).filter (chP ts us)).map EJ:=fun h=>by rw [RC,h];simp
     have fin:chP ts us i=true->∀ v:Option D,∃ v3,[some (BL ts),some (BL us),some (.own ((((List.range i).filter (chP ts us)).map EJ)++[.int (0+(i:Int))])),v]=[some (BL ts),some (BL us),some (.own (((List.range (i+1)).filter (chP ts us)).map EJ)),v3]:=fun h v=>⟨v,by rw [<- app h,Int.zero_add];rfl⟩
     have plen:(true&&decide ((((List.range i).filter (chP ts us)).map EJ).length<1000))=true:=by simp only [Bool.true_and,decide_eq_true_eq];omega
     have lt:(ts.map T3.d).length=ts.length:=List.length_map ..
     have lu:(us.map T3.d).length=us.length:=List.length_map ..
     walk_at "g"
     walk_at "sp"
     · rename_i h
       have hc:chP ts us i=true:=by
        unfold chP
        rw [decide_eq_true_eq,List.getElem?_eq_none (l:=ts) (by omega)]
        intro z
        have:=List.getElem?_eq_none_iff.mp z.symm
        omega
       walk_at "g"
       exact ⟨plen,fin hc _⟩
     · rename_i h1
       walk_at "g"
       walk_at "sp"
       · rename_i h
         have hc:chP ts us i=true:=by
          unfold chP
          rw [decide_eq_true_eq,List.getElem?_eq_none (l:=us) (by omega)]
          intro z
          have:=List.getElem?_eq_none_iff.mp z
          omega
         walk_at "g"
         exact ⟨plen,fin hc _⟩
       · rename_i h2
         have hk1:i<ts.length:=by omega
         have hk2:i<us.length:=by omega
         walk_at "g"
         rw [Int.zero_add,atT (List.getElem?_eq_getElem hk1)]
         walk_at "g"
         rw [atT (List.getElem?_eq_getElem hk2)]
         walk_at "g"
         refine EqG.mkT ?_
         have hcd:chP ts us i = !decide (ts[i]=us[i]):=by
          unfold chP
          rw [List.getElem?_eq_getElem hk1,List.getElem?_eq_getElem hk2]
          simp
         cases h:decide (ts[i]=us[i])
         · walk_at "g"
           rw [h] at hcd
           exact ⟨plen,by have:=fin hcd (some (.int (i:Int)));rw [Int.zero_add] at this;exact this⟩
         · walk_at "g"
           rw [h] at hcd
           exact ⟨_,by rw [<- no hcd];rfl⟩
   · rintro ρ ⟨v3,rfl⟩
     rw [rangeD_len,Int.toNat_natCast]
     walk_at "g"
     exact hP
abbrev FW:Stmt:=top 55
theorem CW:FnScope ["_law_faces","_law_left","_law_top","_law_across","_law_down","_law_j","_law_i","_law_face"] ["_law_faces","_law_left","_law_top","_law_across","_law_down"] (J3 FW):=⟨rfl,rfl,rfl,by decide +kernel,rfl,by decide +kernel,by decide +kernel⟩
def J6r:DSp:=fun ds P _=>∃ (l:List T3) (q:Sq),ds=[BL l,.int q.l,.int q.t,.int q.w,.int q.h]/\(∀ t∈l,t.ok 100)/\l.length<=400/\q.ok/\P (.bl (q.dots.any fun p=>l.any fun t=>decide (t.has p.1 p.2)))
structure C__law_any_in (P:Program)(w:World)(K:Fg)(mg:Str->Option Value)(base:Heap)(c:Cs):Prop where
 _law_has_:Callee P w K mg base CX0 "_law_has" 2 ["_law_face","_law_dot"] (J8 K BT J6o)
theorem OD {f:Addr} (F:Fun K "_law_any_in" "_law_any_in" FW f fd) (Z:Bi mg) {c:Cs} (Y:Ex K mg base c) (G:C__law_any_in P w K mg base c):FnOk P w K mg base CX0 3 f fd ["_law_faces","_law_left","_law_top","_law_across","_law_down"] (J8 K BT J6r):=by
 refine F.okD CW (fun ds PP Ed h=>?_) (fun cdv A outer s H E M bg ds PP Ed hr hS_=>?_)
 · obtain ⟨l,q,rfl,hl,hll,qok,hP⟩:=h
   rfl
 · obtain ⟨l,q,rfl,hl,hll,qok,hP⟩:=hS_
   refine ⟨_,(J4 (AY (V4 5) PassesOwn.never rfl (AK rfl Z.range_ (J0 (jdv 4) J1)) (pg_name (i:=5) CW.nd rfl (by walk_at "o")) (J7 (AY (V4 6) PassesOwn.never rfl (AK rfl Z.range_ (J0 (jdv 3) J1)) (pg_name (i:=6) CW.nd rfl (by walk_at "o")) (J7 (AY (V4 7) PassesOwn.never rfl (Z5 (by rfl) (jdv 0)) (pg_name (i:=7) CW.nd rfl (by walk_at "o")) (J7 (Z3 (AC (by rfl) (J9 G._law_has_ hr.m rfl (J0 (jdv 7) (J0 (Z9 (J0 (Q4 AS Y8 (jdv 1) (jdv 6)) (J0 (Q4 AS Y8 (jdv 2) (jdv 5)) J1))) J1))) (fun _=>rfl)) (J7 (V2 HW)) Y0)))))))
    (J7 (V2 HW))),?_⟩
   have qw:=qok.w
   have qh:=qok.h
   have ql:=qok.l
   have qt:=qok.t
   have yes:∀ (i j:Nat) (t:T3),i<q.w->j<q.h->t∈l->t.has (q.l+i) (q.t+j)->PP (.bl true):=fun i j t hi hj mt hh=>by
    rw [show (q.dots.any fun p=>l.any fun t=>decide (t.has p.1 p.2))=true from List.any_eq_true.mpr ⟨((q.l:Int)+i,(q.t:Int)+j),Sq.mem_dots.mpr ⟨by omega,by omega,by omega,by omega⟩,List.any_eq_true.mpr ⟨t,mt,decide_eq_true hh⟩⟩] at hP
    exact hP
   walk_at "g"
   refine And.intro ⟨by omega,by omega⟩ ?_
   refine ⟨fun j ρ=>(∃ v5 v6 v7,ρ=[some (BL l),some (.int q.l),some (.int q.t),some (.int q.w),some (.int q.h),v5,v6,v7])/\∀ j' i':Nat,j'<j->i'<q.w->∀ t∈l,¬ t.has (q.l+i') (q.t+j'),⟨⟨_,_,_,rfl⟩,fun j' i' h=>absurd h (Nat.not_lt_zero _)⟩,?_,?_⟩
   · rintro j z ρ e ⟨⟨v5,v6,v7,rfl⟩,hno⟩
     obtain ⟨rfl,hj⟩:=BZ e
     rw [Int.zero_add]
     clear e
     walk_at "g"
     refine And.intro ⟨by omega,by omega⟩ ?_
     refine ⟨fun i ρ=>(∃ v6 v7,ρ=[some (BL l),some (.int q.l),some (.int q.t),some (.int q.w),some (.int q.h),some (.int j),v6,v7])/\∀ i':Nat,i'<i->∀ t∈l,¬ t.has (q.l+i') (q.t+j),⟨⟨_,_,rfl⟩,fun i' h=>absurd h (Nat.not_lt_zero _)⟩,?_,?_⟩
     · rintro i z ρ e ⟨⟨v6,v7,rfl⟩,hno2⟩
       obtain ⟨rfl,hi⟩:=BZ e
       rw [Int.zero_add]
       clear e
       walk_at "g"
       refine ⟨fun m ρ=>(∃ v7,ρ=[some (BL l),some (.int q.l),some (.int q.t),some (.int q.w),some (.int q.h),some (.int j),some (.int i),v7])/\∀ t∈l.take m,¬ t.has (q.l+i) (q.t+j),⟨⟨_,rfl⟩,fun t m=>by rw [List.take_zero] at m;cases m⟩,?_,?_⟩
       · rintro m z ρ e ⟨⟨v7,rfl⟩,hno3⟩
         rw [List.getElem?_map] at e
         obtain ⟨t,et,rfl⟩:=Option.map_eq_some_iff.mp e
         have mt:=List.mem_of_getElem? et
         clear e
         have bx:Bd 100 ((q.l:Int)+i):=(Bd.of (by omega) (by omega):Bd 8 _).mono (by decide)
         have b_y:Bd 100 ((q.t:Int)+j):=(Bd.of (by omega) (by omega):Bd 8 _).mono (by decide)
         walk_at "g"
         refine ⟨t,_,_,rfl,hl t mt,bx,b_y,?_⟩
         by_cases hh:t.has (q.l+i) (q.t+j)
         · rw [decide_eq_true hh]
           walk_at "g"
           exact yes i j t (by omega) (by omega) mt hh
         · rw [decide_eq_false hh]
           walk_at "g"
           refine ⟨⟨_,rfl⟩,fun t' m'=>?_⟩
           rw [List.take_add_one,et] at m'
           rcases List.mem_append.mp m' with w|w
           · exact hno3 t' w
           · simp at w
             rw [w];exact hh
       · rintro ρ ⟨⟨v7,rfl⟩,hno3⟩
         rw [List.length_map,List.take_length] at hno3
         refine ⟨⟨_,_,rfl⟩,fun i' hi' t mt=>?_⟩
         by_cases w:i'=i
         · rw [w];exact hno3 t mt
         · exact hno2 i' (by omega) t mt
     · rintro ρ ⟨⟨v6,v7,rfl⟩,hno2⟩
       rw [rangeD_len] at hno2
       refine ⟨⟨_,_,_,rfl⟩,fun j' i' hj' hi' t mt=>?_⟩
       by_cases w:j'=j
       · rw [w];exact hno2 i' (by omega) t mt
       · exact hno j' i' (by omega) hi' t mt
   · rintro ρ ⟨⟨v5,v6,v7,rfl⟩,hno⟩
     rw [rangeD_len] at hno
     walk_at "g"
     rw [show (q.dots.any fun p=>l.any fun t=>decide (t.has p.1 p.2))=false by
      rw [List.any_eq_false]
      rintro ⟨x,y⟩ mp
      obtain ⟨z1,z2,z3,z4⟩:=Sq.mem_dots.mp mp
      rw [Bool.not_eq_true,List.any_eq_false]
      intro t mt
      rw [decide_eq_true_eq]
      have:=hno (y - q.t).toNat (x - q.l).toNat (by omega) (by omega) t mt
      rw [show (q.l:Int)+((x - q.l).toNat:Nat)=x by omega,show (q.t:Int)+((y - q.t).toNat:Nat)=y by omega] at this
      exact this] at hP
     exact hP
abbrev Y6:Stmt:=top 56
theorem Y4:FnScope ["_law_older_here","_law_newer_here","_law_wide","_law_high","_law_edge","_law_numbers","_law_faces","_law_found","_law_left","_law_top","_law_across","_law_down"] ["_law_older_here","_law_newer_here","_law_wide","_law_high","_law_edge"] (J3 Y6):=⟨rfl,rfl,rfl,by decide +kernel,rfl,by decide +kernel,by decide +kernel⟩
theorem J2d (ts us:List T3)(qs:List Sq)(q:Sq)(i:Nat)(e:qs[i]?=some q):(qs.take (i+1)).filter (GJ ts us)=(qs.take i).filter (GJ ts us)++if GJ ts us q=true then [q] else []:=by
 rw [List.take_add_one,e,Option.toList_some,List.filter_append]
 cases h:GJ ts us q<;>simp [h]
def J6p:DSp:=fun ds P _=>∃ (ts us:List T3) (wd hg:Nat) (k:Int),ds=[BL ts,BL us,.int wd,.int hg,.int k]/\(∀ t∈ts,t.ok 100/\t.pos)/\(∀ t∈us,t.ok 100/\t.pos)/\(ts.length<=100/\us.length<=100)/\(wd<=16/\hg<=16/\1<=k/\k<=16)/\P (.lst ((dmgL ts us k wd hg).map Sq.d))
structure C__law_damaged (P:Program)(w:World)(K:Fg)(mg:Str->Option Value)(base:Heap)(c:Cs):Prop where
 _law_changed_:Callee P w K mg base CX0 "_law_changed" 1 ["_law_older_here","_law_newer_here"] (J8 K BT J6q)
 _law_squares_:Callee P w K mg base CX0 "_law_squares" 1 ["_law_wide","_law_high","_law_edge"] (J8 K BT J6n)
 _law_any_in_:Callee P w K mg base CX0 "_law_any_in" 3 ["_law_faces","_law_left","_law_top","_law_across","_law_down"] (J8 K BT J6r)
theorem MX {f:Addr} (F:Fun K "_law_damaged" "_law_damaged" Y6 f fd) (Z:Bi mg) {c:Cs} (Y:Ex K mg base c) (G:C__law_damaged P w K mg base c):FnOk P w K mg base CX0 4 f fd ["_law_older_here","_law_newer_here","_law_wide","_law_high","_law_edge"] (J8 K BT J6p):=by
 refine F.okD Y4 (fun ds PP Ed h=>?_) (fun cdv A outer s H E M bg ds PP Ed hr hS_=>?_)
 · obtain ⟨ts,us,wd,hg,k,rfl,hts,hus,⟨l1,l2⟩,⟨w2,h2,k1,k2⟩,hP⟩:=h
   rfl
 · obtain ⟨ts,us,wd,hg,k,rfl,hts,hus,⟨l1,l2⟩,⟨w2,h2,k1,k2⟩,hP⟩:=hS_
   refine ⟨_,(J4 (V0 (i:=5) Y4.nd rfl (by walk_at "o") (J9 G._law_changed_ hr.m rfl (J0 (jdv 0) (J0 (jdv 1) J1))))
    (J4 (V0 (i:=6) Y4.nd rfl (by walk_at "o") (Q4 J3v J3x (EA (X:=(V1 CX0 P w K mg base ["_law_older_here","_law_newer_here","_law_wide","_law_high","_law_edge","_law_numbers","_law_faces","_law_found","_law_left","_law_top","_law_across","_law_down"] "_law_damaged" (J3 Y6) f cdv A outer s H E).nox) (V4 0) (MG (X:=(V1 CX0 P w K mg base ["_law_older_here","_law_newer_here","_law_wide","_law_high","_law_edge","_law_numbers","_law_faces","_law_found","_law_left","_law_top","_law_across","_law_down"] "_law_damaged" (J3 Y6) f cdv A outer s H E).nox) (N':=["_law_k","_law_older_here"]) (map:=[none,some 0]) (by rfl) (by rfl) (by decide +kernel) (by rfl) ⟨⟨rfl,rfl,rfl,by walk_at "o"⟩,True.intro⟩ (gkeep_name rfl) fun cl0 C0 fp0 s0 H0=>⟨(pg_name (X:=(Q0 (V1 CX0 P w K mg base ["_law_older_here","_law_newer_here","_law_wide","_law_high","_law_edge","_law_numbers","_law_faces","_law_found","_law_left","_law_top","_law_across","_law_down"] "_law_damaged" (J3 Y6) f cdv A outer s H E).nox ["_law_k","_law_older_here"] _ cl0 C0 fp0 s0 H0)) (i:=0) (Z2 ["_law_k","_law_older_here"] (by decide +kernel)) rfl (by walk_at "o")),(HV (Y3 GC CT (jdv 0) (Q5 (Q7 K (by rfl)) BJ rfl Z.len_ AU (J0 (jdv 1) J1)) (V7 _))),(Q8 (X:=(Q0 (V1 CX0 P w K mg base ["_law_older_here","_law_newer_here","_law_wide","_law_high","_law_edge","_law_numbers","_law_faces","_law_found","_law_left","_law_top","_law_across","_law_down"] "_law_damaged" (J3 Y6) f cdv A outer s H E).nox ["_law_k","_law_older_here"] _ cl0 C0 fp0 s0 H0)) (Q9 K (by rfl)) V9 (jdv 1) (jdv 0) (fun _ _=>rfl))⟩) (Z5 (by rfl) (jdv 5))) (EA (X:=(V1 CX0 P w K mg base ["_law_older_here","_law_newer_here","_law_wide","_law_high","_law_edge","_law_numbers","_law_faces","_law_found","_law_left","_law_top","_law_across","_law_down"] "_law_damaged" (J3 Y6) f cdv A outer s H E).nox) (V4 0) (MG (X:=(V1 CX0 P w K mg base ["_law_older_here","_law_newer_here","_law_wide","_law_high","_law_edge","_law_numbers","_law_faces","_law_found","_law_left","_law_top","_law_across","_law_down"] "_law_damaged" (J3 Y6) f cdv A outer s H E).nox) (N':=["_law_k","_law_newer_here"]) (map:=[none,some 1]) (by rfl) (by rfl) (by decide +kernel) (by rfl) ⟨⟨rfl,rfl,rfl,by walk_at "o"⟩,True.intro⟩ (gkeep_name rfl) fun cl0 C0 fp0 s0 H0=>⟨(pg_name (X:=(Q0 (V1 CX0 P w K mg base ["_law_older_here","_law_newer_here","_law_wide","_law_high","_law_edge","_law_numbers","_law_faces","_law_found","_law_left","_law_top","_law_across","_law_down"] "_law_damaged" (J3 Y6) f cdv A outer s H E).nox ["_law_k","_law_newer_here"] _ cl0 C0 fp0 s0 H0)) (i:=0) (Z2 ["_law_k","_law_newer_here"] (by decide +kernel)) rfl (by walk_at "o")),(HV (Y3 GC CT (jdv 0) (Q5 (Q7 K (by rfl)) BJ rfl Z.len_ AU (J0 (jdv 1) J1)) (V7 _))),(Q8 (X:=(Q0 (V1 CX0 P w K mg base ["_law_older_here","_law_newer_here","_law_wide","_law_high","_law_edge","_law_numbers","_law_faces","_law_found","_law_left","_law_top","_law_across","_law_down"] "_law_damaged" (J3 Y6) f cdv A outer s H E).nox ["_law_k","_law_newer_here"] _ cl0 C0 fp0 s0 H0)) (Q9 K (by rfl)) V9 (jdv 1) (jdv 0) (fun _ _=>rfl))⟩) (Z5 (by rfl) (jdv 5)))))
    (J4 (KQ (i:=7) Y4.nd rfl (by walk_at "o") J1)
    (J4 (AY (BR [8,9,10,11]) PassesOwn.never rfl (Z5 (by rfl) (J9 G._law_squares_ hr.m rfl (J0 (jdv 2) (J0 (jdv 3) (J0 (jdv 4) J1))))) (PG.or (AV (n:=4) K (by rfl) (by rfl) (J6 (pg_name (i:=8) Y4.nd rfl (by walk_at "o")) (J6 (pg_name (i:=9) Y4.nd rfl (by walk_at "o")) (J6 (pg_name (i:=10) Y4.nd rfl (by walk_at "o")) (J6 (pg_name (i:=11) Y4.nd rfl (by walk_at "o")) Y1))))) (AW (n:=4) K (by rfl) (by rfl) (J6 (pg_name (i:=8) Y4.nd rfl (by walk_at "o")) (J6 (pg_name (i:=9) Y4.nd rfl (by walk_at "o")) (J6 (pg_name (i:=10) Y4.nd rfl (by walk_at "o")) (J6 (pg_name (i:=11) Y4.nd rfl (by walk_at "o")) Y1)))))) (J7 (Z3 (AC (by rfl) (J9 G._law_any_in_ hr.m rfl (J0 (jdv 6) (J0 (jdv 8) (J0 (jdv 9) (J0 (jdv 10) (J0 (jdv 11) J1)))))) (fun _=>rfl)) (J7 (FD (i:=7) (by rfl) rfl (by walk_at "v") (J0 (Z9 (J0 (jdv 8) (J0 (jdv 9) (J0 (jdv 10) (J0 (jdv 11) J1))))) J1) (NV PySem.F.plainAttrs_list PySem.F.slot_list_append PySem.F.type_list_append DR (pv 7) (JA.h (J0 (Z9 (J0 (jdv 8) (J0 (jdv 9) (J0 (jdv 10) (J0 (jdv 11) J1))))) J1))))) Y0)))
    (J7 (V2 (jdv 7))))))),?_⟩
   walk_at "g"
   refine ⟨ts,us,rfl,⟨l1,l2⟩,?_⟩
   have cn:=NH ts us
   walk_at "g"
   refine And.intro (by rw [List.length_map];omega) ?_
   refine NG (NA (ts.map T3.d)) (fun d=>decide (dN d<(ts.map T3.d).length)) (fun d Qf Q hd ht hf=>?_) (fun d hd hh=>?_) ?_
   · obtain ⟨i,hi,rfl⟩:=List.mem_map.mp hd
     have en:dN (EJ i)=i:=by show (Int.toNat (i:Int))=i;omega
     rw [en] at ht hf
     walk_at "g"
     by_cases z:i<(ts.map T3.d).length
     · refine IfP.t (decide_eq_true (by omega)) ?_
       have:=ht (decide_eq_true z)
       unfold NA at this
       rw [en,List.getD_eq_getElem?_getD,List.getElem?_eq_getElem z] at this
       walk_at "g"
       rw [EN (List.getElem?_eq_getElem z)]
       exact this
     · exact IfP.f (decide_eq_false (by omega)) (hf (decide_eq_false z))
   · obtain ⟨i,hi,rfl⟩:=List.mem_map.mp hd
     have en:dN (EJ i)=i:=by show (Int.toNat (i:Int))=i;omega
     rw [en] at hh
     have hh:=of_decide_eq_true hh
     unfold NA
     rw [en,List.getD_eq_getElem?_getD,List.getElem?_eq_getElem hh]
     show L2.plain ((ts.map T3.d)[i])=true
     rw [List.getElem_map]
     rfl
   rw [RS,NB]
   walk_at "g"
   refine And.intro (by rw [List.length_map];omega) ?_
   refine NG (NA (us.map T3.d)) (fun d=>decide (dN d<(us.map T3.d).length)) (fun d Qf Q hd ht hf=>?_) (fun d hd hh=>?_) ?_
   · obtain ⟨i,hi,rfl⟩:=List.mem_map.mp hd
     have en:dN (EJ i)=i:=by show (Int.toNat (i:Int))=i;omega
     rw [en] at ht hf
     walk_at "g"
     by_cases z:i<(us.map T3.d).length
     · refine IfP.t (decide_eq_true (by omega)) ?_
       have:=ht (decide_eq_true z)
       unfold NA at this
       rw [en,List.getD_eq_getElem?_getD,List.getElem?_eq_getElem z] at this
       walk_at "g"
       rw [EN (List.getElem?_eq_getElem z)]
       exact this
     · exact IfP.f (decide_eq_false (by omega)) (hf (decide_eq_false z))
   · obtain ⟨i,hi,rfl⟩:=List.mem_map.mp hd
     have en:dN (EJ i)=i:=by show (Int.toNat (i:Int))=i;omega
     rw [en] at hh
     have hh:=of_decide_eq_true hh
     unfold NA
     rw [en,List.getD_eq_getElem?_getD,List.getElem?_eq_getElem hh]
     show L2.plain ((us.map T3.d)[i])=true
     rw [List.getElem_map]
     rfl
   rw [RS,NB]
   walk_at "g"
   refine And.intro (by rw [List.length_map,List.length_map];have h1:=CI (fun i=>ts[i]?) (chN ts us);have h2:=CI (fun i=>us[i]?) (chN ts us);omega) ?_
   rw [<- List.map_append]
   have eF:((chN ts us).filterMap fun i=>ts[i]?)++((chN ts us).filterMap fun i=>us[i]?)=chF ts us:=rfl
   rw [eF]
   have cl:=J0b ts us
   have hF:∀ t∈chF ts us,t.ok 100:=fun t m=>((J0a m).elim (hts t) (hus t)).1
   walk_at "g"
   refine ⟨wd,hg,k,rfl,⟨w2,h2,k1,k2⟩,?_⟩
   rw [J2x k1]
   have key:∀ q∈sqL k wd hg,q.ok/\q.l+q.w<=wd/\q.t+q.h<=hg:=fun q m=>NC m k1 k2 w2 h2
   have sml:=QM (k:=k) (w:=wd) (h:=hg) w2 h2
   unfold dmgL at hP
   generalize sqL k wd hg=qs at hP key sml ⊢
   walk_at "g"
   refine ⟨fun i ρ=>∃ v8 v9 v10 v11,ρ=[some (BL ts),some (BL us),some (.int wd),some (.int hg),some (.int k),some (.lst ((chN ts us).map EJ)),some (BL (chF ts us)),some (.own (((qs.take i).filter (GJ ts us)).map Sq.d)),v8,v9,v10,v11],⟨_,_,_,_,rfl⟩,?_,?_⟩
   · rintro i z ρ e ⟨v8,v9,v10,v11,rfl⟩
     rw [List.getElem?_map] at e
     obtain ⟨q,eq,rfl⟩:=Option.map_eq_some_iff.mp e
     have qok:=(key q (List.mem_of_getElem? eq)).1
     have hil:i<qs.length:=(List.getElem?_eq_some_iff.mp eq).1
     have fl:(((qs.take i).filter (GJ ts us)).map Sq.d).length<1000:=by
      rw [List.length_map]
      have h1:=List.length_filter_le (GJ ts us) (qs.take i)
      rw [List.length_take] at h1
      omega
     clear e
     rw [J2d ts us qs q i eq,List.map_append]
     walk_at "g"
     refine ⟨chF ts us,q,rfl,hF,by omega,qok,?_⟩
     show IfP (GJ ts us q) _ _
     cases hb:GJ ts us q with
     | true =>
       walk_at "g"
       refine And.intro (by simp only [L2.plain,Bool.true_and,decide_eq_true_eq];exact fl) ?_
       exact ⟨_,_,_,_,rfl⟩
     | false =>
       walk_at "g"
       exact ⟨_,_,_,_,by simp;rfl⟩
   · rintro ρ ⟨v8,v9,v10,v11,rfl⟩
     rw [List.length_map,List.take_length]
     walk_at "g"
     exact hP
theorem J0x {rows:List (List D)}(h:∀ r∈rows,∀ d∈r,isN d)(n:Nat):BU (n+2) (.lst (rows.map D.lst))=true:=by
 unfold BU
 refine GI fun d hd=>?_
 obtain ⟨r,hr,rfl⟩:=List.mem_map.mp hd
 unfold BU
 exact GI fun d hd=>(h r hr d hd).fine n
def isG (w h:Nat)(rows:List (List D)):Prop:=rows.length=h/\∀ r∈rows,r.length=w/\∀ d∈r,isN d
theorem isG.nol {w h:Nat}{rows:List (List D)}(g:isG w h rows):∀ r∈rows,KM r=true:=fun r hr=>KK fun d hd=>((g.2 r hr).2 d hd).noL
theorem isG.same {w h:Nat}{rows:List (List D)}(g:isG w h rows){neg:Bool}{P:D->Prop}(hp:P (.bl (!neg))):EqG neg (CC rows) (CC rows) P:=PB 2 (J0x (fun r hr=>(g.2 r hr).2) 0) rfl (by decide) hp
theorem isG.mend {w h:Nat}{rows:List (List D)}(g:isG w h rows)(qs:List Sq)(st:Int->Int->Sn):isG w h (mendR qs st rows):=by
 refine ⟨LQ.trans g.1,fun r hr=>?_⟩
 unfold mendR at hr
 obtain ⟨y,hy,rfl⟩:=List.mem_mapIdx.mp hr
 obtain ⟨g1,g2⟩:=g.2 _ (List.getElem_mem hy)
 refine ⟨by rw [List.length_mapIdx];exact g1,fun d hd=>?_⟩
 obtain ⟨x,hx,rfl⟩:=List.mem_mapIdx.mp hd
 unfold DN
 split
 · exact QN _
 · exact g2 _ (List.getElem_mem hx)
theorem isG.set {w h:Nat}{rows:List (List D)}(g:isG w h rows){y x:Nat}{row:List D}(e:rows[y]?=some row){v:D}(hv:isN v):isG w h (rows.set y (row.set x v)):=by
 refine ⟨by rw [List.length_set];exact g.1,fun r hr=>?_⟩
 rcases List.mem_or_eq_of_mem_set hr with z|z
 · exact g.2 r z
 · subst z
   obtain ⟨g1,g2⟩:=g.2 row (List.mem_of_getElem? e)
   refine ⟨by rw [List.length_set];exact g1,fun d hd=>?_⟩
   rcases List.mem_or_eq_of_mem_set hd with z|z
   · exact g2 d z
   · rw [z];exact hv
theorem J4b {qs:List Sq}{st:Int->Int->Sn}{rows:List (List D)}{x y:Nat}{row:List D}{v:D}(e:rows[y]?=some row):mendR qs st (rows.set y (row.set x v))=if FE qs x y=true then mendR qs st rows else (mendR qs st rows).set y ((row.mapIdx fun x d=>DN qs st x y d).set x v):=by
 have hy:=(List.getElem?_eq_some_iff.mp e).1
 have key:mendR qs st (rows.set y (row.set x v))=(mendR qs st rows).set y ((row.set x v).mapIdx fun x d=>DN qs st x y d):=by
  unfold mendR
  apply List.ext_getElem?
  intro y'
  rw [List.getElem?_mapIdx,List.getElem?_set,List.getElem?_set,List.length_mapIdx]
  by_cases z:y=y'
  · subst z
    rw [if_pos rfl,if_pos rfl,if_pos hy,if_pos hy]
    rfl
  · rw [if_neg z,if_neg z,List.getElem?_mapIdx]
 rw [key]
 have e2:(row.set x v).mapIdx (fun x d=>DN qs st x y d)=if FE qs x y=true then row.mapIdx (fun x d=>DN qs st x y d) else (row.mapIdx fun x d=>DN qs st x y d).set x v:=by
  split
  · rename_i hz
    apply List.ext_getElem?
    intro x'
    rw [List.getElem?_mapIdx,List.getElem?_mapIdx,List.getElem?_set]
    by_cases z:x=x'
    · subst z
      rw [if_pos rfl]
      cases er:row[x]? with
      | none=>rw [if_neg (by have:=List.getElem?_eq_none_iff.mp er;omega)]
      | some d =>
        rw [if_pos (List.getElem?_eq_some_iff.mp er).1]
        show some (DN qs st x y v)=some (DN qs st x y d)
        unfold DN
        rw [if_pos hz,if_pos hz]
    · rw [if_neg z]
  · rename_i hz
    apply List.ext_getElem?
    intro x'
    rw [List.getElem?_mapIdx,List.getElem?_set,List.getElem?_set,List.length_mapIdx]
    by_cases z:x=x'
    · subst z
      rw [if_pos rfl,if_pos rfl]
      split
      · show some (DN qs st x y v)=some v
        unfold DN
        rw [if_neg hz]
      · rfl
    · rw [if_neg z,if_neg z,List.getElem?_mapIdx]
 rw [e2]
 split
 · apply List.ext_getElem?
   intro y'
   rw [List.getElem?_set]
   split
   · rename_i z
     subst z
     rw [if_pos (by rw [LQ];exact hy)]
     unfold mendR
     rw [List.getElem?_mapIdx,e]
     rfl
   · rfl
 · rfl
abbrev BE:Stmt:=top 57
theorem NR:FnScope ["_law_picture"] ["_law_picture"] (J3 BE):=⟨rfl,rfl,rfl,by decide +kernel,rfl,by decide +kernel,by decide +kernel⟩
def YN:DSG:=fun ds P _=>∃ rows:List (List D),ds=[CC rows]/\rows.length<=1000/\P rows
theorem OC {f:Addr} (F:Fun K "_law_copied" "_law_copied" BE f fd) (Z:Bi mg) {c:Cs} (Y:Ex K mg base c):FnOk P w K mg base (CX1 P w base) 1 f fd ["_law_picture"] (AX K BT YN):=by
 refine F.okDXG NR (fun ds PP Ed h=>?_) (fun cdv A outer s H E M bg ds PP Ed hr hE hS_=>?_)
 · obtain ⟨rows,rfl,hl,hP⟩:=h
   rfl
 · obtain ⟨rows,rfl,hl,hP⟩:=hS_
   refine ⟨_,(ZJ (X:=(V1 (CX1 P w base) P w K mg base ["_law_picture"] "_law_copied" (J3 BE) f cdv A outer s H E)) (V4 0) (Q5h (X:=(V1 (CX1 P w base) P w K mg base ["_law_picture"] "_law_copied" (J3 BE) f cdv A outer s H E)) (N':=["_law_row"]) (map:=[none]) (by rfl) (by rfl) (by decide +kernel) (by rfl) True.intro (gkeep_name rfl) fun cl0 C0 fp0 s0 H0=>⟨(pg_name (X:=(Q0 (V1 (CX1 P w base) P w K mg base ["_law_picture"] "_law_copied" (J3 BE) f cdv A outer s H E) ["_law_row"] _ cl0 C0 fp0 s0 H0)) (i:=0) (Z2 ["_law_row"] (by decide +kernel)) rfl (by walk_at "o")),AG,(VC (X:=(Q0 (V1 (CX1 P w base) P w K mg base ["_law_picture"] "_law_copied" (J3 BE) f cdv A outer s H E) ["_law_row"] _ cl0 C0 fp0 s0 H0)) (J0 (jdv 0) J1) (EO (BG K (by rfl)) rfl Z.list_ EM (JA.h (J0 (jdv 0) J1))))⟩) (Z5 (by rfl) (jdv 0))),?_⟩
   walk_at "g"
   refine And.intro (by rw [List.length_map];omega) ?_
   refine RH YX (fun x Q hx hQ=>?_) ?_
   · obtain ⟨row,_,rfl⟩:=List.mem_map.mp hx
     walk_at "g"
     exact hQ
   rw [show (rows.map D.lst).map YX=rows by rw [List.map_map];exact List.map_id _]
   exact hP
def FC (n:Nat)(rows:List (List D)):List (List D):=rows.mapIdx fun y row=>if y<n then row++[.int (100+(y:Int))] else row
theorem XQ {rows:List (List D)}:FC 0 rows=rows:=by
 unfold FC
 apply List.ext_getElem?
 intro y
 rw [List.getElem?_mapIdx]
 cases rows[y]?<;>simp
theorem QV {n:Nat}{rows:List (List D)}:(FC n rows).length=rows.length:=by unfold FC;simp
theorem J4c {n y:Nat}{rows:List (List D)}{row:List D}(e:rows[y]?=some row)(h:n<=y):(FC n rows)[y]?=some row:=by
 unfold FC
 rw [List.getElem?_mapIdx,e,Option.map_some,if_neg (by omega)]
theorem XR {n:Nat}{rows:List (List D)}{row:List D}(e:rows[n]?=some row):(FC n rows).set n (row++[.int (100+(n:Int))])=FC (n+1) rows:=by
 apply List.ext_getElem?
 intro y
 unfold FC
 rw [List.getElem?_set,List.length_mapIdx,List.getElem?_mapIdx,List.getElem?_mapIdx]
 by_cases z:n=y
 · subst z
   rw [if_pos rfl,if_pos (List.getElem?_eq_some_iff.mp e).1,e,Option.map_some,if_pos (by omega)]
 · rw [if_neg z]
   cases rows[y]? with
   | none=>rfl
   | some r =>
     rw [Option.map_some,Option.map_some]
     by_cases q:y<n
     · rw [if_pos q,if_pos (by omega)]
     · rw [if_neg q,if_neg (by omega)]
def J4i:D->D
 | .lst r=>r.getLastD .non
 | _=>.non
def Q7k:D->D
 | .int i=>.int (100+i)
 | _=>.non
theorem XS {rows:List (List D)}{h:Nat}(e:rows.length=h):((FC h rows).map D.lst).map J4i=(V6 0 h).map Q7k:=by
 apply List.ext_getElem?
 intro y
 rw [List.getElem?_map,List.getElem?_map,List.getElem?_map]
 unfold FC V6
 rw [List.getElem?_mapIdx,List.getElem?_map]
 by_cases z:y<h
 · rw [List.getElem?_range z,List.getElem?_eq_getElem (by omega),Option.map_some,if_pos z]
   show some (J4i (.lst (_++[_])))=some (D.int (100+(0+(y:Int))))
   show some ((rows[y]++[D.int (100+(y:Int))]).getLastD .non)=_
   rw [List.getLastD_concat,Int.zero_add]
 · rw [List.getElem?_eq_none (l:=List.range h) (by simp;omega),List.getElem?_eq_none (by omega)]
   rfl
theorem J5u (xs:List D)(d:D):L2.SQ (xs++[d]) none (some (-1))=xs:=by
 unfold L2.SQ
 rw [show HT.sIx (xs++[d]).length 0 none=0 from rfl]
 have e:HT.sIx (xs++[d]).length (xs++[d]).length (some (-1))=xs.length:=by
  unfold HT.sIx
  rw [List.length_append]
  simp
  omega
 rw [e,List.drop_zero,Nat.sub_zero,List.take_left']
 rfl
theorem Q0d (xs:List D)(d:D):atI (xs++[d]) (-1)=some d:=by
 unfold atI ixN
 rw [if_neg (by decide),if_pos (by simp;omega)]
 show (xs++[d])[((-1:Int)+((xs++[d]).length:Int)).toNat]?=some d
 rw [show ((-1:Int)+((xs++[d]).length:Int)).toNat=xs.length by rw [List.length_append];simp;omega,List.getElem?_append_right (Nat.le_refl _),Nat.sub_self]
 rfl
abbrev AF:Stmt:=top 58
theorem AZ:FnScope ["_law_picture","_law_older_here","_law_newer_here","_law_board","_law_edge","_law_handed","_law_first","_law_second","_law_found","_law_kept","_law_place","_law_ends"] ["_law_picture","_law_older_here","_law_newer_here","_law_board","_law_edge"] (J3 AF):=⟨rfl,rfl,rfl,by decide +kernel,rfl,by decide +kernel,by decide +kernel⟩
def YK:DSp:=fun ds P _=>∃ (ts us:List T3) (wd hg:Nat) (k:Int) (rows:List (List D)),ds=[CC rows,BL ts,BL us,t2 wd hg,.int k]/\(∀ t∈ts,t.ok 100/\t.pos)/\(∀ t∈us,t.ok 100/\t.pos)/\(ts.length<=100/\us.length<=100)/\(1<=wd/\wd<=16/\1<=hg/\hg<=16/\1<=k/\k<=16)/\isG wd hg rows/\P (CC (mendR (dmgL ts us k wd hg) (fun x y=>seenN us x y us.length) rows))
structure C__law_told (P:Program)(w:World)(K:Fg)(mg:Str->Option Value)(base:Heap)(c:Cs):Prop where
 _law_copied_:Callee P w K mg base (CX1 P w base) "_law_copied" 1 ["_law_picture"] (AX K BT YN)
 mended_:Callee P w K mg base (CX1 P w base) "mended" 7 ["picture","older","newer","board","side"] (AX K BT (YM c))
theorem SC {f:Addr} (F:Fun K "_law_told" "_law_told" AF f fd) (Z:Bi mg) {c:Cs} (Y:Ex K mg base c) (G:C__law_told P w K mg base c):FnOk P w K mg base CX0 8 f fd ["_law_picture","_law_older_here","_law_newer_here","_law_board","_law_edge"] (J8 K BT YK):=by
 refine F.okD AZ (fun ds PP Ed h=>?_) (fun cdv A outer s H E M bg ds PP Ed hr hS_=>?_)
 · obtain ⟨ts,us,wd,hg,k,rows,rfl,hts,hus,⟨l1,l2⟩,hb,gG,hP⟩:=h
   rfl
 · obtain ⟨ts,us,wd,hg,k,rows,rfl,hts,hus,⟨l1,l2⟩,hb,gG,hP⟩:=hS_
   refine ⟨_,(J4 (V0 (i:=5) AZ.nd rfl (by walk_at "o") (ES DW EG G._law_copied_ hr.m rfl (J0 (jdv 0) J1)))
    (J4 (OI (i:=6) AZ.nd rfl (by walk_at "o") (J0 (jdv 1) J1) (EO (BG K (by rfl)) rfl Z.list_ EM (JA.h (J0 (jdv 1) J1))))
    (J4 (OI (i:=7) AZ.nd rfl (by walk_at "o") (J0 (jdv 2) J1) (EO (BG K (by rfl)) rfl Z.list_ EM (JA.h (J0 (jdv 2) J1))))
    (J4 (LS DW EG (i:=8) AZ.nd rfl (by walk_at "o") G.mended_ hr.m rfl (J0 (jdv 5) (J0 (jdv 6) (J0 (jdv 7) (J0 (jdv 3) (J0 (jdv 4) J1))))))
    (J4 (Z3 (JQ (GZ (AC (by rfl) (Q5 (EL K (by rfl)) IR rfl Z.isinstance_ DX (J0 (jdv 8) (J0 (KR rfl Z.list_ EM) J1))) (fun _=>rfl))) (XV (Y3 (FZ K (by rfl) hr.units) DQ (jdv 5) (jdv 0) (V7 _)) (XV (Y3 (FZ K (by rfl) hr.units) DQ (jdv 6) (jdv 1) (V7 _)) (GY (Y3 (FZ K (by rfl) hr.units) DQ (jdv 7) (jdv 2) (V7 _)))))) (J7 (V2 HB)) Y0)
    (J4 (J1s (i:=6) (by rfl) (J3r PySem.F.plainAttrs_list PySem.F.slot_list_clear PySem.F.type_list_clear J4a (pv 6)))
    (J4 (VA (i:=7) (by rfl) (J3r PySem.F.plainAttrs_list PySem.F.slot_list_reverse PySem.F.type_list_reverse XL (pv 7)))
    (J4 (V0 (i:=9) AZ.nd rfl (by walk_at "o") (ES DW EG G._law_copied_ hr.m rfl (J0 (jdv 8) J1)))
    (J4 (AY (V4 10) PassesOwn.never rfl (AK rfl Z.range_ (J0 (Q5 (Q7 K (by rfl)) J9z rfl Z.len_ AU (J0 (jdv 8) J1)) J1)) (pg_name (i:=10) AZ.nd rfl (by walk_at "o")) (J7 (J4n (i:=8) (j:=10) (by rfl) (J0 (Q4 AS Y8 J5 (jdv 10)) J1) (NV PySem.F.plainAttrs_list PySem.F.slot_list_append PySem.F.type_list_append DR (FI IN (pv 8) (pv 10) (fun _ _=>rfl)) (JA.h (J0 (Q4 AS Y8 J5 (jdv 10)) J1))))))
    (J4 (J4m (i:=8) (by rfl) (J0 (EK J1) J1) (NV PySem.F.plainAttrs_list PySem.F.slot_list_append PySem.F.type_list_append DR (pv 8) (JA.h (J0 (EK J1) J1))))
    (J4 (OH (X:=(V1 CX0 P w K mg base ["_law_picture","_law_older_here","_law_newer_here","_law_board","_law_edge","_law_handed","_law_first","_law_second","_law_found","_law_kept","_law_place","_law_ends"] "_law_told" (J3 AF) f cdv A outer s H E).nox) false (i:=11) AZ.nd rfl (by walk_at "o") (V4 0) (MG (X:=(V1 CX0 P w K mg base ["_law_picture","_law_older_here","_law_newer_here","_law_board","_law_edge","_law_handed","_law_first","_law_second","_law_found","_law_kept","_law_place","_law_ends"] "_law_told" (J3 AF) f cdv A outer s H E).nox) (N':=["_law_row"]) (map:=[none]) (by rfl) (by rfl) (by decide +kernel) (by rfl) True.intro (gkeep_name rfl) fun cl0 C0 fp0 s0 H0=>⟨(pg_name (X:=(Q0 (V1 CX0 P w K mg base ["_law_picture","_law_older_here","_law_newer_here","_law_board","_law_edge","_law_handed","_law_first","_law_second","_law_found","_law_kept","_law_place","_law_ends"] "_law_told" (J3 AF) f cdv A outer s H E).nox ["_law_row"] _ cl0 C0 fp0 s0 H0)) (i:=0) (Z2 ["_law_row"] (by decide +kernel)) rfl (by walk_at "o")),AG,(Q8 (X:=(Q0 (V1 CX0 P w K mg base ["_law_picture","_law_older_here","_law_newer_here","_law_board","_law_edge","_law_handed","_law_first","_law_second","_law_found","_law_kept","_law_place","_law_ends"] "_law_told" (J3 AF) f cdv A outer s H E).nox ["_law_row"] _ cl0 C0 fp0 s0 H0)) (Q9 K (by rfl)) V9 (jdv 0) (HC J5) (fun _ _=>rfl))⟩) (Z5 (by rfl) (LW (WJ K (by rfl)) (jdv 8) OM (OL (HC J5)))))
    (J4 (Z3 (JQ (Y3 (FZ K (by rfl) hr.units) DQ (jdv 5) (jdv 0) (V7 _)) (GY (Y3 (FZ K (by rfl) hr.units) DQ (jdv 11) (EA (X:=(V1 CX0 P w K mg base ["_law_picture","_law_older_here","_law_newer_here","_law_board","_law_edge","_law_handed","_law_first","_law_second","_law_found","_law_kept","_law_place","_law_ends"] "_law_told" (J3 AF) f cdv A outer s H E).nox) (V4 0) (MG (X:=(V1 CX0 P w K mg base ["_law_picture","_law_older_here","_law_newer_here","_law_board","_law_edge","_law_handed","_law_first","_law_second","_law_found","_law_kept","_law_place","_law_ends"] "_law_told" (J3 AF) f cdv A outer s H E).nox) (N':=["_law_place"]) (map:=[none]) (by rfl) (by rfl) (by decide +kernel) (by rfl) True.intro (gkeep_name rfl) fun cl0 C0 fp0 s0 H0=>⟨(pg_name (X:=(Q0 (V1 CX0 P w K mg base ["_law_picture","_law_older_here","_law_newer_here","_law_board","_law_edge","_law_handed","_law_first","_law_second","_law_found","_law_kept","_law_place","_law_ends"] "_law_told" (J3 AF) f cdv A outer s H E).nox ["_law_place"] _ cl0 C0 fp0 s0 H0)) (i:=0) (Z2 ["_law_place"] (by decide +kernel)) rfl (by walk_at "o")),AG,(Q4 (X:=(Q0 (V1 CX0 P w K mg base ["_law_picture","_law_older_here","_law_newer_here","_law_board","_law_edge","_law_handed","_law_first","_law_second","_law_found","_law_kept","_law_place","_law_ends"] "_law_told" (J3 AF) f cdv A outer s H E).nox ["_law_place"] _ cl0 C0 fp0 s0 H0)) AS Y8 J5 (jdv 0))⟩) (AK rfl Z.range_ (J0 (Q5 (Q7 K (by rfl)) BJ rfl Z.len_ AU (J0 (jdv 9) J1)) J1))) (V7 _)))) (J7 (V2 HB)) Y0)
    (J4 (Z3 (Y3 (FZ K (by rfl) hr.units) DQ (ES DW EG G.mended_ hr.m rfl (J0 (jdv 5) (J0 (DV (BG K (by rfl)) J0c rfl Z.list_ EM (J0 (jdv 1) J1)) (J0 (DV (BG K (by rfl)) J0c rfl Z.list_ EM (J0 (jdv 2) J1)) (J0 (jdv 3) (J0 (jdv 4) J1)))))) (jdv 9) (V7 _)) (J7 (V2 HB)) Y0)
    (J7 (V2 (jdv 9)))))))))))))))),?_⟩
   walk_at "g"
   refine ⟨rows,rfl,by rw [gG.1];omega,gG.nol,?_⟩
   have hbd:BK (t2 wd hg)=true:=by
    simp only [BK,DI,Bool.and_eq_true,decide_eq_true_eq]
    omega
   have t2i:∀ {w' h':Nat},t2 wd hg=t2 w' h'->wd=w'/\hg=h':=fun {w' h'} e=>by
    unfold t2 at e
    simp at e
    omega
   have nb:∀ {Q:Prop},BK (t2 wd hg)=false->Q:=fun {Q} z=>absurd (hbd.symm.trans z) (by decide)
   have nsd:∀ {Q:Prop},FH (.int k)=false->Q:=fun {Q} z=>by
    have:FH (.int k)=true:=by
     simp only [FH,DI,Bool.and_eq_true,decide_eq_true_eq]
     omega
    rw [this] at z;cases z
   have gM:=gG.mend (dmgL ts us k wd hg) (fun x y=>seenN us x y us.length)
   have fts:∀ {xs:List T3} {neg:Bool} {P:D->Prop},P (.bl (!neg))->EqG neg (.own (xs.map T3.d)) (BL xs) P:=fun {xs neg P} hp=>PB 3 (by unfold BU;exact GI fun d hd=>by obtain ⟨t,_,rfl⟩:=List.mem_map.mp hd;rfl) rfl (by decide) hp
   walk_at "g"
   refine ⟨ts,us,t2 wd hg,.int k,rows,rfl,hts,hus,l1,l2,rfl,rfl,rfl,rfl,nb,nsd,fun w' h' k' e e' _=>?_⟩
   obtain ⟨rfl,rfl⟩:=t2i e
   cases e'
   refine ⟨⟨gG.1,fun r hr'=>(gG.2 r hr').1⟩,gM.nol,fun a rs hrs=>?_⟩
   generalize hM:mendR (dmgL ts us k wd hg) (fun x y=>seenN us x y us.length) rows=fd at *
   walk_at "g"
   refine ⟨true,by rfl,?_⟩
   walk_at "g"
   refine gG.same ?_
   walk_at "g"
   refine fts ?_
   walk_at "g"
   refine fts ?_
   walk_at "g"
   refine ⟨fd,rfl,by rw [gM.1];omega,gM.nol,?_⟩
   walk_at "g"
   refine And.intro (by rw [List.length_map,gM.1];omega) ?_
   refine ⟨fun i ρ=>∃ v6 v7 v10 v11,ρ=[some (CC rows),some (BL ts),some (BL us),some (t2 wd hg),some (.int k),some (CC rows),v6,v7,some (grd K a rs (FC i fd)),some (CC fd),v10,v11],⟨_,_,_,_,by rw [XQ];rfl⟩,?_,?_⟩
   · rintro i z ρ e ⟨v6,v7,v10,v11,rfl⟩
     obtain ⟨rfl,hi⟩:=BZ e
     rw [Int.zero_add]
     have hi:i<fd.length:=by rw [List.length_map] at hi;omega
     clear e
     have er:fd[i]?=some fd[i]:=List.getElem?_eq_getElem hi
     have rl:=(gM.2 _ (List.getElem_mem hi)).1
     walk_at "g"
     refine ⟨a,rs,_,rfl,i,fd[i],rfl,by rw [QV];exact hrs,J4c er (Nat.le_refl _),?_⟩
     walk_at "g"
     refine And.intro (by simp only [L2.plain,Bool.true_and,decide_eq_true_eq];omega) ?_
     rw [XR er]
     exact ⟨_,_,_,_,rfl⟩
   · rintro ρ ⟨v6,v7,v10,v11,rfl⟩
     rw [rangeD_len,Int.toNat_natCast,List.length_map,gM.1]
     walk_at "g"
     refine ⟨a,rs,_,rfl,by rw [hrs,gM.1];omega,?_⟩
     walk_at "g"
     rw [J5u]
     have ml:(FC hg fd).length=hg:=QV.trans gM.1
     refine And.intro (by rw [List.length_map,ml];omega) ?_
     refine HZ J4i (fun x Q hx hQ=>?_) (fun x hx=>?_) ?_
     · obtain ⟨row,hr',rfl⟩:=List.mem_map.mp hx
       unfold FC at hr'
       obtain ⟨y,hy,rfl⟩:=List.mem_mapIdx.mp hr'
       rw [if_pos (by rw [gM.1] at hy;exact hy)] at hQ ⊢
       walk_at "g"
       rw [Q0d]
       change Q ((fd[y]++[D.int (100+(y:Int))]).getLastD .non) at hQ
       rw [List.getLastD_concat] at hQ
       exact hQ
     · obtain ⟨row,hr',rfl⟩:=List.mem_map.mp hx
       unfold FC at hr'
       obtain ⟨y,hy,rfl⟩:=List.mem_mapIdx.mp hr'
       rw [if_pos (by rw [gM.1] at hy;exact hy)]
       show L2.plain ((fd[y]++[D.int (100+(y:Int))]).getLastD .non)=true
       rw [List.getLastD_concat]
       rfl
     rw [XS gM.1]
     walk_at "g"
     refine gG.same ?_
     walk_at "g"
     refine And.intro (by rw [List.length_map,gM.1];omega) ?_
     refine And.intro (by rw [rangeD_len,List.length_map,gM.1];omega) ?_
     refine HZ Q7k (fun d Q hd hQ=>?_) (fun d hd=>?_) ?_
     · obtain ⟨x,hx,rfl⟩:=BF hd
       walk_at "g"
       exact hQ
     · obtain ⟨x,hx,rfl⟩:=BF hd
       rfl
     rw [List.length_map,gM.1,Int.toNat_natCast]
     refine PB 1 (by unfold BU;exact GI fun d hd=>by obtain ⟨x,hx,rfl⟩:=List.mem_map.mp hd;obtain ⟨y,hy,rfl⟩:=BF hx;rfl) rfl (by decide) ?_
     walk_at "g"
     refine ⟨ts,us,t2 wd hg,.int k,rows,rfl,hts,hus,l1,l2,rfl,rfl,rfl,rfl,nb,nsd,fun w' h' k' e e' _=>?_⟩
     obtain ⟨rfl,rfl⟩:=t2i e
     cases e'
     refine ⟨⟨gG.1,fun r hr'=>(gG.2 r hr').1⟩,?_⟩
     rw [hM]
     refine ⟨gM.nol,?_⟩
     refine gM.same ?_
     walk_at "g"
     exact hP
abbrev CF:Stmt:=top 59
theorem Q6:FnScope ["_law_bag_here","_law_picture","_law_older_here","_law_newer_here","_law_board","_law_edge","_law_x","_law_y","_law_marked","_law_due","_law_struck","_law_left","_law_top","_law_across","_law_down"] ["_law_bag_here","_law_picture","_law_older_here","_law_newer_here","_law_board","_law_edge"] (J3 CF):=⟨rfl,rfl,rfl,by decide +kernel,rfl,by decide +kernel,by decide +kernel⟩
theorem XZ (qs:List Sq)(q:Sq)(x y:Int):FE (qs++[q]) x y=(FE qs x y||decide (q.in x y)):=by unfold FE;simp
def J6m:DSp:=fun ds P _=>∃ (ts us:List T3) (wd hg:Nat) (k:Int),ds=[.bag,CC (Y9 ts wd hg),BL ts,BL us,t2 wd hg,.int k]/\(∀ t∈ts,t.ok 100/\t.pos)/\(∀ t∈us,t.ok 100/\t.pos)/\(ts.length<=100/\us.length<=100)/\(1<=wd/\wd<=16/\1<=hg/\hg<=16/\1<=k/\k<=16)/\P (.bl true)
structure C__law_marked_right (P:Program)(w:World)(K:Fg)(mg:Str->Option Value)(base:Heap)(c:Cs):Prop where
 _law_digit_:Callee P w K mg base CX0 "_law_digit" 1 ["_law_bag_here","_law_many"] (J8 K BT HF)
 _law_copied_:Callee P w K mg base (CX1 P w base) "_law_copied" 1 ["_law_picture"] (AX K BT YN)
 painted_:Callee P w K mg base (CX1 P w base) "painted" 6 ["faces","board"] (AX K BT (PM c))
 _law_damaged_:Callee P w K mg base CX0 "_law_damaged" 4 ["_law_older_here","_law_newer_here","_law_wide","_law_high","_law_edge"] (J8 K BT J6p)
 _law_told_:Callee P w K mg base CX0 "_law_told" 8 ["_law_picture","_law_older_here","_law_newer_here","_law_board","_law_edge"] (J8 K BT YK)
theorem HR {f:Addr} (F:Fun K "_law_marked_right" "_law_marked_right" CF f fd) (Z:Bi mg) {c:Cs} (Y:Ex K mg base c) (G:C__law_marked_right P w K mg base c):FnOk P w K mg base CX0 9 f fd ["_law_bag_here","_law_picture","_law_older_here","_law_newer_here","_law_board","_law_edge"] (J8 K BT J6m):=by
 refine F.okD Q6 (fun ds PP Ed h=>?_) (fun cdv A outer s H E M bg ds PP Ed hr hS_=>?_)
 · obtain ⟨ts,us,wd,hg,k,rfl,hts,hus,⟨l1,l2⟩,hb,hP⟩:=h
   rfl
 · obtain ⟨ts,us,wd,hg,k,rfl,hts,hus,⟨l1,l2⟩,hb,hP⟩:=hS_
   refine ⟨_,(J4 (V0 (i:=6) Q6.nd rfl (by walk_at "o") (J9 G._law_digit_ hr.m rfl (J0 (jdv 0) (J0 (Q8 (Q9 K (by rfl)) V9 (jdv 4) J5 (fun _ _=>rfl)) J1))))
    (J4 (V0 (i:=7) Q6.nd rfl (by walk_at "o") (J9 G._law_digit_ hr.m rfl (J0 (jdv 0) (J0 (Q8 (Q9 K (by rfl)) V9 (jdv 4) J5 (fun _ _=>rfl)) J1))))
    (J4 (LS DW EG (i:=8) Q6.nd rfl (by walk_at "o") G._law_copied_ hr.m rfl (J0 (jdv 1) J1))
    (J4 (KP (i:=8) (by rfl) J5 (GV (FI IN (pv 8) (JE.h (jdv 7)) (fun _ _=>rfl)) (JE.h (jdv 6)) DY))
    (J4 (LS DW EG (i:=9) Q6.nd rfl (by walk_at "o") G.painted_ hr.m rfl (J0 (jdv 3) (J0 (jdv 4) J1)))
    (J4 (V0 (i:=10) Q6.nd rfl (by walk_at "o") HW)
    (J4 (AY (BR [11,12,13,14]) PassesOwn.never rfl (Z5 (by rfl) (J9 G._law_damaged_ hr.m rfl (J0 (jdv 2) (J0 (jdv 3) (J0 (Q8 (Q9 K (by rfl)) V9 (jdv 4) J5 (fun _ _=>rfl)) (J0 (Q8 (Q9 K (by rfl)) V9 (jdv 4) J5 (fun _ _=>rfl)) (J0 (jdv 5) J1))))))) (PG.or (AV (n:=4) K (by rfl) (by rfl) (J6 (pg_name (i:=11) Q6.nd rfl (by walk_at "o")) (J6 (pg_name (i:=12) Q6.nd rfl (by walk_at "o")) (J6 (pg_name (i:=13) Q6.nd rfl (by walk_at "o")) (J6 (pg_name (i:=14) Q6.nd rfl (by walk_at "o")) Y1))))) (AW (n:=4) K (by rfl) (by rfl) (J6 (pg_name (i:=11) Q6.nd rfl (by walk_at "o")) (J6 (pg_name (i:=12) Q6.nd rfl (by walk_at "o")) (J6 (pg_name (i:=13) Q6.nd rfl (by walk_at "o")) (J6 (pg_name (i:=14) Q6.nd rfl (by walk_at "o")) Y1)))))) (J7 (V0 (i:=10) Q6.nd rfl (by walk_at "o") (J4r (jdv 10) (IL (IM (LX ZE GC CT CT (jdv 11) (jdv 6) (Q4 AS Y8 (jdv 11) (jdv 13))) (IL (LX ZE GC CT CT (jdv 12) (jdv 7) (Q4 AS Y8 (jdv 12) (jdv 14))))))))))
    (J4 (Z3 (GZ (AC (by rfl) (jdv 10) (fun _=>rfl))) (J7 (KP (i:=9) (by rfl) J5 (GV (FI IN (pv 9) (JE.h (jdv 7)) (fun _ _=>rfl)) (JE.h (jdv 6)) DY))) Y0)
    (QX 8 (QX 9 (J7 (V2 (DJ (WZ K (by rfl) hr.units) DQ (J9 G._law_told_ hr.m rfl (J0 (jdv 8) (J0 (jdv 2) (J0 (jdv 3) (J0 (jdv 4) (J0 (jdv 5) J1)))))) (jdv 9) (V7 _)))))))))))))),?_⟩
   have gT:isG wd hg (Y9 ts wd hg):=KF
   have gU:isG wd hg (Y9 us wd hg):=KF
   have hbd:BK (t2 wd hg)=true:=by
    simp only [BK,DI,Bool.and_eq_true,decide_eq_true_eq]
    omega
   have t2i:∀ {w' h':Nat},t2 wd hg=t2 w' h'->wd=w'/\hg=h':=fun {w' h'} e=>by
    unfold t2 at e
    simp at e
    omega
   have nb:∀ {Q:Prop},BK (t2 wd hg)=false->Q:=fun {Q} z=>absurd (hbd.symm.trans z) (by decide)
   walk_at "g"
   refine ⟨_,64,rfl,by omega,(Bd.of (by omega) (by omega):Bd 8 _).mono (by decide),by decide,fun x x0 x1=>?_⟩
   walk_at "g"
   refine ⟨_,64,rfl,by omega,(Bd.of (by omega) (by omega):Bd 8 _).mono (by decide),by decide,fun y y0 y1=>?_⟩
   obtain ⟨x,rfl⟩:∃ n:Nat,x=n:=⟨x.toNat,by omega⟩
   obtain ⟨y,rfl⟩:∃ n:Nat,y=n:=⟨y.toNat,by omega⟩
   obtain ⟨rt,et⟩:∃ row,(Y9 ts wd hg)[y]?=some row:=⟨(Y9 ts wd hg)[y]'(by rw [gT.1];omega),List.getElem?_eq_getElem _⟩
   obtain ⟨ru,eu⟩:∃ row,(Y9 us wd hg)[y]?=some row:=⟨(Y9 us wd hg)[y]'(by rw [gU.1];omega),List.getElem?_eq_getElem _⟩
   have lt:=(gT.2 rt (List.mem_of_getElem? et)).1
   have lu:=(gU.2 ru (List.mem_of_getElem? eu)).1
   walk_at "g"
   refine ⟨_,rfl,by rw [gT.1];omega,gT.nol,fun a rs hrs=>?_⟩
   walk_at "g"
   refine ⟨a,rs,_,rfl,hrs,?_⟩
   walk_at "g"
   refine ⟨y,rt,rfl,et,?_⟩
   walk_at "g"
   refine ⟨x,rfl,by omega,?_⟩
   walk_at "g"
   refine ⟨us,t2 wd hg,rfl,hus,by omega,rfl,rfl,nb,fun w' h' e _=>?_⟩
   obtain ⟨rfl,rfl⟩:=t2i e
   refine ⟨gU.nol,fun b ss hss=>?_⟩
   walk_at "g"
   refine ⟨ts,us,wd,hg,k,rfl,hts,hus,⟨l1,l2⟩,⟨hb.2.1,hb.2.2.2.1,hb.2.2.2.2.1,hb.2.2.2.2.2⟩,?_⟩
   have key:∀ q∈dmgL ts us k wd hg,q.ok/\q.l+q.w<=wd/\q.t+q.h<=hg:=fun q m=>NC (List.mem_filter.mp m).1 hb.2.2.2.2.1 hb.2.2.2.2.2 hb.2.1 hb.2.2.2.1
   have hmd:=J4b (qs:=dmgL ts us k wd hg) (st:=fun x y=>seenN us x y us.length) (x:=x) (v:=.int 77) et
   rw [KN hb.2.2.2.2.1] at hmd
   have hru:(rt.mapIdx fun x d=>DN (dmgL ts us k wd hg) (fun x y=>seenN us x y us.length) x y d)=ru:=by
    have h1:=KN (ts:=ts) (us:=us) (k:=k) (w:=wd) (h:=hg) hb.2.2.2.2.1
    have h2:=congrArg (fun r=>r[y]?) h1
    unfold mendR at h2
    rw [List.getElem?_mapIdx,et,eu] at h2
    exact Option.some.inj h2
   rw [hru] at hmd
   generalize hQ:dmgL ts us k wd hg=qs at *
   walk_at "g"
   refine ⟨fun i ρ=>∃ v11 v12 v13 v14,ρ=[some .bag,some (CC (Y9 ts wd hg)),some (BL ts),some (BL us),some (t2 wd hg),some (.int k),some (.int x),some (.int y),some (grd K a rs ((Y9 ts wd hg).set y (rt.set x (.int 77)))),some (grd K b ss (Y9 us wd hg)),some (.bl (FE (qs.take i) x y)),v11,v12,v13,v14],⟨_,_,_,_,rfl⟩,?_,?_⟩
   · rintro i z ρ e ⟨v11,v12,v13,v14,rfl⟩
     rw [List.getElem?_map] at e
     obtain ⟨q,eq,rfl⟩:=Option.map_eq_some_iff.mp e
     have es:FE (qs.take (i+1)) x y=(FE (qs.take i) x y||decide (q.in x y)):=by rw [List.take_add_one,eq];exact XZ _ _ _ _
     clear e
     rw [es]
     walk_at "g"
     cases hI:FE (qs.take i) x y with
     | true =>
       walk_at "g"
       exact ⟨_,_,_,_,rfl⟩
     | false =>
       walk_at "g"
       have no:¬ q.in x y->decide (q.in x y)=false:=decide_eq_false
       by_cases h1:(q.l:Int)<=x
       · refine IfP.t (decide_eq_true h1) ?_
         walk_at "g"
         by_cases h2:(x:Int)<q.l+q.w
         · refine IfP.t (decide_eq_true h2) ?_
           walk_at "g"
           by_cases h3:(q.t:Int)<=y
           · refine IfP.t (decide_eq_true h3) ?_
             walk_at "g"
             have e4:decide (q.in x y)=decide ((y:Int)<q.t+q.h):=by
              rw [decide_eq_decide]
              exact ⟨fun w=>w.2.2.2,fun w=>⟨h1,h2,h3,w⟩⟩
             rw [e4]
             exact ⟨_,_,_,_,rfl⟩
           · refine IfP.f (decide_eq_false h3) ?_
             walk_at "g"
             rw [no fun w=>h3 w.2.2.1]
             exact ⟨_,_,_,_,rfl⟩
         · refine IfP.f (decide_eq_false h2) ?_
           walk_at "g"
           rw [no fun w=>h2 w.2.1]
           exact ⟨_,_,_,_,rfl⟩
       · refine IfP.f (decide_eq_false h1) ?_
         walk_at "g"
         rw [no fun w=>h1 w.1]
         exact ⟨_,_,_,_,rfl⟩
   · rintro ρ ⟨v11,v12,v13,v14,rfl⟩
     rw [List.length_map,List.take_length]
     walk_at "g"
     have gm:isG wd hg ((Y9 ts wd hg).set y (rt.set x (.int 77))):=gT.set et (.inr ⟨_,rfl⟩)
     cases hI:FE qs x y with
     | true =>
       rw [hI,if_pos rfl] at hmd
       walk_at "g"
       refine ⟨ts,us,wd,hg,k,_,rfl,hts,hus,⟨l1,l2⟩,hb,gm,?_⟩
       rw [hQ,hmd]
       exact gU.same hP
     | false =>
       rw [hI,if_neg (by decide)] at hmd
       walk_at "g"
       refine ⟨b,ss,_,rfl,hss,?_⟩
       walk_at "g"
       refine ⟨y,ru,rfl,eu,?_⟩
       walk_at "g"
       refine ⟨x,rfl,by omega,?_⟩
       walk_at "g"
       refine ⟨ts,us,wd,hg,k,_,rfl,hts,hus,⟨l1,l2⟩,hb,gm,?_⟩
       rw [hQ,hmd]
       exact (gU.set eu (.inr ⟨_,rfl⟩)).same hP
theorem Q6n {a b:D}{c:Bool}{P:D->Prop}(h:∀ d,d=a\/d=b->P d):(atI [a,b] (if c=true then 1 else 0)).elim False P:=by
 cases c
 · exact h _ (.inl rfl)
 · exact h _ (.inr rfl)
abbrev J3c:Stmt:=top 60
theorem GL:FnScope ["_law_script","_law_k","_law_bag_here","_law_most","_law_board","_law_edge","_law_older_here","_law_newer_here","_law_picture"] ["_law_script"] (J3 J3c):=⟨rfl,rfl,rfl,by decide +kernel,rfl,by decide +kernel,by decide +kernel⟩
def RU (K:Fg):Sp:=fun vs H Q _=>∃ (a:Addr) (ns:List Int),vs=[.ref a]/\SqL K H a (ns.map V.int)/\ns.length<=63/\∀ H',Q (.bl true) H'
structure C_law (P:Program)(w:World)(K:Fg)(mg:Str->Option Value)(base:Heap)(c:Cs):Prop where
 _law_bag_:Callee P w K mg base CX0 "_law_bag" 1 ["_law_script","_law_at"] (VZ K BT SA)
 _law_older_:Callee P w K mg base CX0 "_law_older" 4 ["_law_bag_here","_law_wide","_law_k"] (J8 K BT J0i)
 _law_newer_:Callee P w K mg base CX0 "_law_newer" 4 ["_law_bag_here","_law_older_here","_law_wide"] (J8 K BT J0j)
 painted_:Callee P w K mg base (CX1 P w base) "painted" 6 ["faces","board"] (AX K BT (PM c))
 _law_digit_:Callee P w K mg base CX0 "_law_digit" 1 ["_law_bag_here","_law_many"] (J8 K BT HF)
 _law_told_:Callee P w K mg base CX0 "_law_told" 8 ["_law_picture","_law_older_here","_law_newer_here","_law_board","_law_edge"] (J8 K BT YK)
 mended_:Callee P w K mg base (CX1 P w base) "mended" 7 ["picture","older","newer","board","side"] (AX K BT (YM c))
 _law_marked_right_:Callee P w K mg base CX0 "_law_marked_right" 9 ["_law_bag_here","_law_picture","_law_older_here","_law_newer_here","_law_board","_law_edge"] (J8 K BT J6m)
theorem Q2w {f:Addr} (F:Fun K "law" "law" J3c f fd) (Z:Bi mg) {c:Cs} (Y:Ex K mg base c) (G:C_law P w K mg base c):FnOk P w K mg base CX0 10 f fd ["_law_script"] (RU K):=by
 refine F.okL BT GL (fun cdv A outer s H E ns hr hlen=>?_)
 · refine ⟨_,(J4 (AY (V4 1) PassesOwn.never rfl (AK rfl Z.range_ (J0 (Q5 (IS (by rfl)) HG rfl Z.max_ TD (J0 J5 (J0 (Q5 (CV (by rfl)) HG rfl Z.min_ IB (J0 (Q5 (Q7 K (by rfl)) BJ rfl Z.len_ AU (J0 (jdv 0) J1)) (J0 J5 J1))) J1))) J1)) (pg_name (i:=1) GL.nd rfl (by walk_at "o")) (J4 (J8o (i:=2) rfl GL.nd rfl (by walk_at "o") G._law_bag_ hr.m rfl (J0 (jdv 0) (J0 (jdv 1) J1)))
    (J4 (V0 (i:=3) GL.nd rfl (by walk_at "o") (Q8 (Q9 K (by rfl)) V9 (EK (J0 J5 (J0 J5 (J0 J5 (J0 J5 (J0 J5 (J0 J5 (J0 J5 (J0 (Q8 (Q9 K (by rfl)) V9 (EK (J0 J5 (J0 J5 J1))) (DV MD SY rfl Z.int_ TF (J0 (DJ FJ DC (jdv 1) J5 (V7 _)) J1)) (fun _ _=>rfl)) J1))))))))) (J9 G._law_digit_ hr.m rfl (J0 (jdv 2) (J0 J5 J1))) (fun _ _=>rfl)))
    (J4 (V0 (i:=4) GL.nd rfl (by walk_at "o") (Z9 (J0 (Q4 AS Y8 J5 (J9 G._law_digit_ hr.m rfl (J0 (jdv 2) (J0 (jdv 3) J1)))) (J0 (Q4 AS Y8 J5 (J9 G._law_digit_ hr.m rfl (J0 (jdv 2) (J0 (jdv 3) J1)))) J1))))
    (J4 (V0 (i:=5) GL.nd rfl (by walk_at "o") (Q4 AS Y8 J5 (J9 G._law_digit_ hr.m rfl (J0 (jdv 2) (J0 (Q8 (Q9 K (by rfl)) V9 (EK (J0 J5 (J0 J5 J1))) (J9 G._law_digit_ hr.m rfl (J0 (jdv 2) (J0 J5 J1))) (fun _ _=>rfl)) J1)))))
    (J4 (V0 (i:=6) GL.nd rfl (by walk_at "o") (J9 G._law_older_ hr.m rfl (J0 (jdv 2) (J0 (jdv 3) (J0 (jdv 1) J1)))))
    (J4 (V0 (i:=7) GL.nd rfl (by walk_at "o") (J9 G._law_newer_ hr.m rfl (J0 (jdv 2) (J0 (jdv 6) (J0 (jdv 3) J1)))))
    (J4 (V0 (i:=8) GL.nd rfl (by walk_at "o") (ES DW EG G.painted_ hr.m rfl (J0 (jdv 6) (J0 (jdv 4) J1))))
    (J4 (Z3 (Y3 (FZ K (by rfl) hr.units) DQ (J9 G._law_told_ hr.m rfl (J0 (jdv 8) (J0 (jdv 6) (J0 (jdv 7) (J0 (jdv 4) (J0 (jdv 5) J1)))))) (ES DW EG G.painted_ hr.m rfl (J0 (jdv 7) (J0 (jdv 4) J1))) (V7 _)) (J7 (V2 HW)) Y0)
    (J4 (Z3 (Y3 (FZ K (by rfl) hr.units) DQ (ES DW EG G.mended_ hr.m rfl (J0 (jdv 8) (J0 (jdv 6) (J0 (jdv 6) (J0 (jdv 4) (J0 (jdv 5) J1)))))) (jdv 8) (V7 _)) (J7 (V2 HW)) Y0)
    (J7 (Z3 (GZ (AC (by rfl) (J9 G._law_marked_right_ hr.m rfl (J0 (jdv 2) (J0 (jdv 8) (J0 (jdv 6) (J0 (jdv 7) (J0 (jdv 4) (J0 (jdv 5) J1))))))) (fun _=>rfl))) (J7 (V2 HW)) Y0))))))))))))
    (J7 (V2 HW))),?_⟩
   walk_at "g"
   have n3:∀ m:Int,((fun i j=>if j>i then j else i) 2 ((fun i j=>if j<i then j else i) m 4):Int)<=4:=by intro m;dsimp only;split<;>split<;>omega
   have n0:∀ m:Int,2<=((fun i j=>if j>i then j else i) 2 ((fun i j=>if j<i then j else i) m 4):Int):=by intro m;dsimp only;split<;>split<;>omega
   replace n3:=n3 ns.length
   replace n0:=n0 ns.length
   refine And.intro ⟨by omega,by omega⟩ ?_
   refine ⟨fun i ρ=>∃ v1 v2 v3 v4 v5 v6 v7 v8,ρ=[some (.scr ns),v1,v2,v3,v4,v5,v6,v7,v8],⟨_,_,_,_,_,_,_,_,rfl⟩,?_,?_⟩
   · rintro i x ρ e ⟨v1,v2,v3,v4,v5,v6,v7,v8,rfl⟩
     obtain ⟨rfl,hi⟩:=BZ e
     clear e
     walk_at "g"
     refine ⟨⟨ns,i,by rw [Int.zero_add],by omega⟩,?_⟩
     walk_at "g"
     refine Q6n fun d hd=>?_
     walk_at "g"
     refine And.intro (by rcases hd with rfl|rfl<;>rfl) ?_
     walk_at "g"
     refine ⟨_,64,rfl,by decide,Bd.num _ (by decide),by decide,fun r r0 r1=>?_⟩
     refine ixm r0 (by exact r1) fun dm mm=>?_
     obtain ⟨most,rfl,hm⟩:∃ m:Int,dm=.int m/\(m=6\/m=8\/m=16):=by
      simp only [List.mem_cons,List.not_mem_nil,or_false] at mm
      rcases mm with e|e|e|e|e|e|e|e
      · exact ⟨_,e,.inl rfl⟩
      · exact ⟨_,e,.inl rfl⟩
      · exact ⟨_,e,.inl rfl⟩
      · exact ⟨_,e,.inr (.inl rfl)⟩
      · exact ⟨_,e,.inr (.inl rfl)⟩
      · exact ⟨_,e,.inr (.inl rfl)⟩
      · exact ⟨_,e,.inr (.inl rfl)⟩
      · rcases hd with e2|e2
        · exact ⟨_,e.trans e2,.inr (.inl rfl)⟩
        · exact ⟨_,e.trans e2,.inr (.inr rfl)⟩
     clear mm r0 r1 hd
     have bm:Bd 64 most:=(Bd.of (by omega) (by omega):Bd 8 _).mono (by decide)
     walk_at "g"
     refine ⟨_,64,rfl,by omega,bm,by decide,fun x x0 x1=>?_⟩
     walk_at "g"
     refine ⟨_,64,rfl,by omega,bm,by decide,fun y y0 y1=>?_⟩
     obtain ⟨wd,ew⟩:∃ w:Nat,1+x=w:=⟨(1+x).toNat,by omega⟩
     obtain ⟨hg,eh⟩:∃ h:Nat,1+y=h:=⟨(1+y).toNat,by omega⟩
     walk_at "g"
     refine ⟨_,64,rfl,by decide,Bd.num _ (by decide),by decide,fun r r0 r1=>?_⟩
     refine ixm r0 (by exact r1) fun dm mm=>?_
     obtain ⟨eg,rfl,he⟩:∃ m:Int,dm=.int m/\(m=5\/m=16):=by
      simp only [List.mem_cons,List.not_mem_nil,or_false] at mm
      rcases mm with e|e
      · exact ⟨_,e,.inl rfl⟩
      · exact ⟨_,e,.inr rfl⟩
     clear mm r0 r1
     walk_at "g"
     refine ⟨_,64,rfl,by omega,(Bd.of (by omega) (by omega):Bd 8 _).mono (by decide),by decide,fun z z0 z1=>?_⟩
     obtain ⟨k,ek⟩:∃ k:Int,1+z=k:=⟨_,rfl⟩
     rw [ew,eh]
     walk_at "g"
     rw [ek]
     have hb:1<=wd/\wd<=16/\1<=hg/\hg<=16/\1<=k/\k<=16:=by omega
     have hm2:0<=most/\most<=100:=by omega
     clear ew eh ek x0 x1 y0 y1 z0 z1 hm he bm
     refine ⟨most,0+i,rfl,hm2.1,hm2.2,fun xs hxl hxF=>?_⟩
     walk_at "g"
     refine ⟨xs,most,rfl,hm2.1,hm2.2,hxl,hxF,fun ys hyl hyF=>?_⟩
     obtain ⟨ts,rfl,hts⟩:=isF.ts hxF
     obtain ⟨us,rfl,hus⟩:=isF.ts hyF
     rw [List.length_map] at hxl hyl
     have gT:isG wd hg (Y9 ts wd hg):=KF
     have gU:isG wd hg (Y9 us wd hg):=KF
     have hbd:BK (t2 wd hg)=true:=by
      simp only [BK,DI,Bool.and_eq_true,decide_eq_true_eq]
      omega
     have t2i:∀ {w' h':Nat},t2 wd hg=t2 w' h'->wd=w'/\hg=h':=fun {w' h'} e=>by
      unfold t2 at e
      simp at e
      omega
     have nb:∀ {Q:Prop},BK (t2 wd hg)=false->Q:=fun {Q} z=>absurd (hbd.symm.trans z) (by decide)
     have nsd:∀ {Q:Prop},FH (.int k)=false->Q:=fun {Q} z=>by
      have:FH (.int k)=true:=by
       simp only [FH,DI,Bool.and_eq_true,decide_eq_true_eq]
       omega
      rw [this] at z;cases z
     walk_at "g"
     refine ⟨ts,t2 wd hg,rfl,hts,by omega,rfl,rfl,nb,fun w' h' e _=>?_⟩
     obtain ⟨rfl,rfl⟩:=t2i e
     refine ⟨gT.nol,?_⟩
     walk_at "g"
     refine ⟨ts,us,wd,hg,k,_,rfl,hts,hus,⟨by omega,by omega⟩,hb,gT,?_⟩
     rw [KN hb.2.2.2.2.1]
     walk_at "g"
     refine ⟨us,t2 wd hg,rfl,hus,by omega,rfl,rfl,nb,fun w' h' e _=>?_⟩
     obtain ⟨rfl,rfl⟩:=t2i e
     refine ⟨gU.nol,?_⟩
     refine gU.same ?_
     walk_at "g"
     refine ⟨ts,ts,t2 wd hg,.int k,Y9 ts wd hg,rfl,hts,hts,by omega,by omega,rfl,rfl,rfl,rfl,nb,nsd,fun w' h' k' e e' _=>?_⟩
     obtain ⟨rfl,rfl⟩:=t2i e
     cases e'
     refine ⟨⟨gT.1,fun r hr'=>(gT.2 r hr').1⟩,?_⟩
     rw [KN hb.2.2.2.2.1]
     refine ⟨gT.nol,?_⟩
     refine gT.same ?_
     walk_at "g"
     refine ⟨ts,us,wd,hg,k,rfl,hts,hus,⟨by omega,by omega⟩,hb,?_⟩
     walk_at "g"
     exact ⟨_,_,_,_,_,_,_,_,rfl⟩
   · rintro ρ ⟨v1,v2,v3,v4,v5,v6,v7,v8,rfl⟩
     walk_at "g"
end K
namespace K
open PySem L2
structure FnIn (K:Fg)(x:Str)(st:Stmt):Prop where
 ex:∃ (f:Addr) (fd:FuncData),PySem.W.nsIn K mainGlobals x=some (some (.ref f))/\Fun K x x st f fd
theorem fn_in {x:Str}{st:Stmt}{f:Addr}{oc:Value}{od an:Option Addr}{osl:Array (Option Value)}{kV doc pm cdv ct:Value}(a:PySem.W.nsIn K mainGlobals x=some (some (.ref f)))(l:K.lookup f=some ⟨oc,od,.func (PySem.W.fnOf x x (KW st) (BV st) (J3 st) .none kV doc pm an cdv ct),osl⟩)(c:PySem.W.codeIn K cdv x=true)(k:PySem.W.keepIn K (.ref f)=true):FnIn K x st:=⟨⟨_,_,a,Q3q l c k⟩⟩
local macro_rules | `(tactic| walk_at "b1") => `(tactic| exact fun _ _ _ _ _ _ us hl => match us,hl with | [_],_ => rfl)
local macro_rules | `(tactic| walk_at "b2") => `(tactic| exact fun _ _ _ _ _ _ us hl => match us,hl with | [_,_],_ => rfl)
local macro_rules | `(tactic| walk_at "b3") => `(tactic| exact fun _ _ _ _ _ _ us hl => match us,hl with | [_,_,_],_ => rfl)
local macro_rules | `(tactic| walk_at "b4") => `(tactic| exact fun _ _ _ _ _ _ us hl => match us,hl with | [_,_,_,_],_ => rfl)
local macro_rules | `(tactic| walk_at "b5") => `(tactic| exact fun _ _ _ _ _ _ us hl => match us,hl with | [_,_,_,_,_],_ => rfl)
local macro_rules | `(tactic| walk_at "b6") => `(tactic| exact fun _ _ _ _ _ _ us hl => match us,hl with | [_,_,_,_,_,_],_ => rfl)
theorem Q5j {l:PySem.W.OpenLaw}{w:World} {h:Heap} {fa:Addr}(X:K.In h)(G:h.Ns mainGlobals mg)(hfa:mg "law" = some (.ref fa))
 (h0:FnIn K "_law_bag" CQ)
 (h1:FnIn K "_law_digit" EI)
 (h2:FnIn K "_law_gcd" GP)
 (h3:FnIn K "_law_spot" HN)
 (h4:FnIn K "_law_board_face" CY)
 (h5:FnIn K "_law_older" BO)
 (h6:FnIn K "_law_newer" GO)
 (h7:FnIn K "is_whole" JG)
 (h8:FnIn K "is_whole_tuple" AB)
 (h9:FnIn K "is_length" HM)
 (h10:FnIn K "check_board" BD)
 (h11:FnIn K "determinant" FV)
 (h12:FnIn K "on_board" JD)
 (h13:FnIn K "side_number" FU)
 (h14:FnIn K "sign" WN)
 (h15:FnIn K "growth" NS)
 (h16:FnIn K "shifted_side" EU)
 (h17:FnIn K "has_dot" LH)
 (h18:FnIn K "turn" WM)
 (h19:FnIn K "products_added" AN)
 (h20:FnIn K "weights" LD)
 (h21:FnIn K "unreduced_depth" Z7)
 (h22:FnIn K "is_less" LG)
 (h23:FnIn K "seen_at" LF)
 (h24:FnIn K "painted" BP)
 (h25:FnIn K "_law_copied" BE)
 (h26:FnIn K "check_squares_side" BY)
 (h27:FnIn K "squares_of" AL)
 (h28:FnIn K "changed_numbers" Z8)
 (h29:FnIn K "changed_faces" Z0)
 (h30:FnIn K "dots_in" CB)
 (h31:FnIn K "damaged" AO)
 (h32:FnIn K "wipe_square" FT)
 (h33:FnIn K "corner_dots" AD)
 (h34:FnIn K "is_passed_over" V5)
 (h35:FnIn K "paint_face" GN)
 (h36:FnIn K "paint_square" EV)
 (h37:FnIn K "mended" EW)
 (h38:FnIn K "_law_told" AF)
 (h39:FnIn K "_law_changed" EZ)
 (h40:FnIn K "_law_squares" EX)
 (h41:FnIn K "_law_shifted" EY)
 (h42:FnIn K "_law_has" JH)
 (h43:FnIn K "_law_any_in" FW)
 (h44:FnIn K "_law_damaged" Y6)
 (h45:FnIn K "_law_marked_right" CF)
 (h46:FnIn K "law" J3c)
 (z_abs:PySem.W.nsIn K mainGlobals "abs" = some none)
 (z_len:PySem.W.nsIn K mainGlobals "len" = some none)
 (z_max:PySem.W.nsIn K mainGlobals "max" = some none)
 (z_min:PySem.W.nsIn K mainGlobals "min" = some none)
 (z_range:PySem.W.nsIn K mainGlobals "range" = some none)
 (z_isinstance:PySem.W.nsIn K mainGlobals "isinstance" = some none)
 (z_int:PySem.W.nsIn K mainGlobals "int" = some none)
 (z_bool:PySem.W.nsIn K mainGlobals "bool" = some none)
 (z_tuple:PySem.W.nsIn K mainGlobals "tuple" = some none)
 (z_zip:PySem.W.nsIn K mainGlobals "zip" = some none)
 (z_sum:PySem.W.nsIn K mainGlobals "sum" = some none)
 (z_list:PySem.W.nsIn K mainGlobals "list" = some none)
 (z_enumerate:PySem.W.nsIn K mainGlobals "enumerate" = some none)
 (z_all:PySem.W.nsIn K mainGlobals "all" = some none)
 (z_any:PySem.W.nsIn K mainGlobals "any" = some none)
 (z_ValueError:PySem.W.nsIn K mainGlobals "ValueError" = some none)
 (z_str:PySem.W.nsIn K mainGlobals "str" = some none)
 {t_LONGEST:Tok} (z_LONGEST:PySem.W.nsIn K mainGlobals "LONGEST" = some (some (.int 16 t_LONGEST)))
 {c_ShadeError:Addr} (e_ShadeError:PySem.W.nsIn K mainGlobals "ShadeError" = some (some (.ref c_ShadeError)))
 {c_NoFace:Addr} (e_NoFace:PySem.W.nsIn K mainGlobals "NoFace" = some (some (.ref c_NoFace)))
 {c_NoBoard:Addr} (e_NoBoard:PySem.W.nsIn K mainGlobals "NoBoard" = some (some (.ref c_NoBoard)))
 (q_NoBoard:PySem.W.excIn K c_NoBoard bmV "ValueError.__new__" = true) (x1_NoBoard:PySem.W.findIn K (.ref c_NoBoard) "__getattribute__" = some (some (.builtin "BaseException.__getattribute__"))) (x5_NoBoard:PySem.W.findIn K (.ref c_NoBoard) "__getattr__" = some none) (x6_NoBoard:PySem.W.subIn K (.ref c_NoBoard) (.type "BaseException")=some true) (x2_NoBoard:PySem.W.findObj K c_NoBoard none "__class__" = some (.bind (.builtin "getset_descriptor.__get__") (.builtin "object.__class__"))) (x3_NoBoard:PySem.W.mroIn K c_NoBoard (.type "object")=some true) (x4_NoBoard:(PySem.W.clsIn K c_NoBoard).isSome=true) (v_NoBoard:PySem.W.subIn K (.ref c_NoBoard) (.type "ValueError")=some true) (s_NoBoard:PySem.W.subIn K (.ref c_NoBoard) (.ref c_ShadeError)=some true)
 (n_NoBoard_NoFace:PySem.W.kin_not K c_NoBoard c_NoFace=true)
 (q_NoFace:PySem.W.excIn K c_NoFace bmV "ValueError.__new__" = true) (x1_NoFace:PySem.W.findIn K (.ref c_NoFace) "__getattribute__" = some (some (.builtin "BaseException.__getattribute__"))) (x5_NoFace:PySem.W.findIn K (.ref c_NoFace) "__getattr__" = some none) (x6_NoFace:PySem.W.subIn K (.ref c_NoFace) (.type "BaseException")=some true) (x2_NoFace:PySem.W.findObj K c_NoFace none "__class__" = some (.bind (.builtin "getset_descriptor.__get__") (.builtin "object.__class__"))) (x3_NoFace:PySem.W.mroIn K c_NoFace (.type "object")=some true) (x4_NoFace:(PySem.W.clsIn K c_NoFace).isSome=true) (v_NoFace:PySem.W.subIn K (.ref c_NoFace) (.type "ValueError")=some true) (s_NoFace:PySem.W.subIn K (.ref c_NoFace) (.ref c_ShadeError)=some true)
 (n_NoFace_NoBoard:PySem.W.kin_not K c_NoFace c_NoBoard=true)
 (xb1:(PySem.W.clsIn K c_ShadeError).isSome=true) (xb2:PySem.W.typeIn K (.ref c_ShadeError)=some (.type "type")) (xb3:PySem.W.subIn K (.ref c_ShadeError) (.type "BaseException")=some true)
 : ∃ fd:FuncData,(∀ (s:Shared) (v:Value),BindsTo s fd ⟨[v],[]⟩ [("_law_script",v)])/\∀ base:Heap,K.In base->base.Ns mainGlobals mg->FnOk l.prog w K mg base CX0 10 fa fd ["_law_script"] (RU K):=by
 obtain ⟨f0,d0,a0,F0⟩:=h0.ex
 obtain ⟨f1,d1,a1,F1⟩:=h1.ex
 obtain ⟨f2,d2,a2,F2⟩:=h2.ex
 obtain ⟨f3,d3,a3,F3⟩:=h3.ex
 obtain ⟨f4,d4,a4,F4⟩:=h4.ex
 obtain ⟨f5,d5,a5,F5⟩:=h5.ex
 obtain ⟨f6,d6,a6,F6⟩:=h6.ex
 obtain ⟨f7,d7,a7,F7⟩:=h7.ex
 obtain ⟨f8,d8,a8,F8⟩:=h8.ex
 obtain ⟨f9,d9,a9,F9⟩:=h9.ex
 obtain ⟨f10,d10,a10,F10⟩:=h10.ex
 obtain ⟨f11,d11,a11,F11⟩:=h11.ex
 obtain ⟨f12,d12,a12,F12⟩:=h12.ex
 obtain ⟨f13,d13,a13,F13⟩:=h13.ex
 obtain ⟨f14,d14,a14,F14⟩:=h14.ex
 obtain ⟨f15,d15,a15,F15⟩:=h15.ex
 obtain ⟨f16,d16,a16,F16⟩:=h16.ex
 obtain ⟨f17,d17,a17,F17⟩:=h17.ex
 obtain ⟨f18,d18,a18,F18⟩:=h18.ex
 obtain ⟨f19,d19,a19,F19⟩:=h19.ex
 obtain ⟨f20,d20,a20,F20⟩:=h20.ex
 obtain ⟨f21,d21,a21,F21⟩:=h21.ex
 obtain ⟨f22,d22,a22,F22⟩:=h22.ex
 obtain ⟨f23,d23,a23,F23⟩:=h23.ex
 obtain ⟨f24,d24,a24,F24⟩:=h24.ex
 obtain ⟨f25,d25,a25,F25⟩:=h25.ex
 obtain ⟨f26,d26,a26,F26⟩:=h26.ex
 obtain ⟨f27,d27,a27,F27⟩:=h27.ex
 obtain ⟨f28,d28,a28,F28⟩:=h28.ex
 obtain ⟨f29,d29,a29,F29⟩:=h29.ex
 obtain ⟨f30,d30,a30,F30⟩:=h30.ex
 obtain ⟨f31,d31,a31,F31⟩:=h31.ex
 obtain ⟨f32,d32,a32,F32⟩:=h32.ex
 obtain ⟨f33,d33,a33,F33⟩:=h33.ex
 obtain ⟨f34,d34,a34,F34⟩:=h34.ex
 obtain ⟨f35,d35,a35,F35⟩:=h35.ex
 obtain ⟨f36,d36,a36,F36⟩:=h36.ex
 obtain ⟨f37,d37,a37,F37⟩:=h37.ex
 obtain ⟨f38,d38,a38,F38⟩:=h38.ex
 obtain ⟨f39,d39,a39,F39⟩:=h39.ex
 obtain ⟨f40,d40,a40,F40⟩:=h40.ex
 obtain ⟨f41,d41,a41,F41⟩:=h41.ex
 obtain ⟨f42,d42,a42,F42⟩:=h42.ex
 obtain ⟨f43,d43,a43,F43⟩:=h43.ex
 obtain ⟨f44,d44,a44,F44⟩:=h44.ex
 obtain ⟨f45,d45,a45,F45⟩:=h45.ex
 obtain ⟨f46,d46,a46,F46⟩:=h46.ex
 have e:=hfa.symm.trans (B3 X G a46)
 cases e
 have Z:Bi mg:=⟨PySem.W.mg_none_of X G z_abs,PySem.W.mg_none_of X G z_len,PySem.W.mg_none_of X G z_max,PySem.W.mg_none_of X G z_min,PySem.W.mg_none_of X G z_range,PySem.W.mg_none_of X G z_isinstance,PySem.W.mg_none_of X G z_int,PySem.W.mg_none_of X G z_bool,PySem.W.mg_none_of X G z_tuple,PySem.W.mg_none_of X G z_zip,PySem.W.mg_none_of X G z_sum,PySem.W.mg_none_of X G z_list,PySem.W.mg_none_of X G z_enumerate,PySem.W.mg_none_of X G z_all,PySem.W.mg_none_of X G z_any,PySem.W.mg_none_of X G z_ValueError,PySem.W.mg_none_of X G z_str,⟨_,B3 X G z_LONGEST⟩⟩
 have bl:=F46.binds (ps:=["_law_script"]) fun _ _ _ _ _ _ us hl=>match us,hl with | [_],_=>rfl
 obtain ⟨oc,od,kV,doc,pm,an,cdv,ct,osl,el,lk,hcd⟩:=F46.ex
 refine ⟨d46,fun s v=>by rw [el];exact .of_eq rfl,fun base kb gb=>?_⟩
 have Y:Ex K mg base ⟨c_ShadeError,c_NoFace,c_NoBoard⟩:=⟨B3 X G e_ShadeError,B3 X G e_NoFace,B3 X G e_NoBoard,Q0p kb gb e_NoBoard q_NoBoard,⟨x1_NoBoard,x5_NoBoard,x2_NoBoard,x3_NoBoard,x4_NoBoard,x6_NoBoard⟩,v_NoBoard,s_NoBoard,n_NoBoard_NoFace,Q0p kb gb e_NoFace q_NoFace,⟨x1_NoFace,x5_NoFace,x2_NoFace,x3_NoFace,x4_NoFace,x6_NoFace⟩,v_NoFace,s_NoFace,n_NoFace_NoBoard,⟨xb1,xb2,xb3⟩⟩
 have G0:=Callee.mk' F0 (US (P:=l.prog) (w:=w) (base:=base) F0 Z Y) (B3 X G a0) (F0.binds (by walk_at "b2"))
 have G1:=Callee.mk' F1 (QB (P:=l.prog) (w:=w) (base:=base) F1 Z Y) (B3 X G a1) (F1.binds (by walk_at "b2"))
 have G2:=Callee.mk' F2 (UR (P:=l.prog) (w:=w) (base:=base) F2 Z Y) (B3 X G a2) (F2.binds (by walk_at "b2"))
 have G3:=Callee.mk' F3 (SD (P:=l.prog) (w:=w) (base:=base) F3 Z Y ⟨G2⟩) (B3 X G a3) (F3.binds (by walk_at "b4"))
 have G4:=Callee.mk' F4 (JN (P:=l.prog) (w:=w) (base:=base) F4 Z Y ⟨G1,G3⟩) (B3 X G a4) (F4.binds (by walk_at "b2"))
 have G5:=Callee.mk' F5 (PZ (P:=l.prog) (w:=w) (base:=base) F5 Z Y ⟨G1,G4⟩) (B3 X G a5) (F5.binds (by walk_at "b3"))
 have G6:=Callee.mk' F6 (QA (P:=l.prog) (w:=w) (base:=base) F6 Z Y ⟨G1,G4⟩) (B3 X G a6) (F6.binds (by walk_at "b3"))
 have G7:=Callee.mk' F7 (UP (P:=l.prog) (w:=w) (base:=base) F7 Z Y) (B3 X G a7) (F7.binds (by walk_at "b1"))
 have G8:=Callee.mk' F8 (KI (P:=l.prog) (w:=w) (base:=base) F8 Z Y ⟨G7⟩) (B3 X G a8) (F8.binds (by walk_at "b2"))
 have G9:=Callee.mk' F9 (SB (P:=l.prog) (w:=w) (base:=base) F9 Z Y) (B3 X G a9) (F9.binds (by walk_at "b1"))
 have G10:=Callee.mk' F10 (OB (P:=l.prog) (w:=w) (base:=base) F10 Z Y ⟨G8,G9⟩) (B3 X G a10) (F10.binds (by walk_at "b1"))
 have G11:=Callee.mk' F11 (NZ (P:=l.prog) (w:=w) (base:=base) F11 Z Y) (B3 X G a11) (F11.binds (by walk_at "b3"))
 have G12:=Callee.mk' F12 (UO (P:=l.prog) (w:=w) (base:=base) F12 Z Y) (B3 X G a12) (F12.binds (by walk_at "b1"))
 have G13:=Callee.mk' F13 (NY (P:=l.prog) (w:=w) (base:=base) F13 Z Y ⟨G11,G12⟩) (B3 X G a13) (F13.binds (by walk_at "b3"))
 have G14:=Callee.mk' F14 (J8f (P:=l.prog) (w:=w) (base:=base) F14 Z Y) (B3 X G a14) (F14.binds (by walk_at "b1"))
 have G15:=Callee.mk' F15 (J1k (P:=l.prog) (w:=w) (base:=base) F15 Z Y) (B3 X G a15) (F15.binds (by walk_at "b2"))
 have G16:=Callee.mk' F16 (MT (P:=l.prog) (w:=w) (base:=base) F16 Z Y ⟨G13,G14,G15⟩) (B3 X G a16) (F16.binds (by walk_at "b3"))
 have G17:=Callee.mk' F17 (XE (P:=l.prog) (w:=w) (base:=base) F17 Z Y ⟨G16⟩) (B3 X G a17) (F17.binds (by walk_at "b2"))
 have G18:=Callee.mk' F18 (J8e (P:=l.prog) (w:=w) (base:=base) F18 Z Y ⟨G11,G12⟩) (B3 X G a18) (F18.binds (by walk_at "b1"))
 have G19:=Callee.mk' F19 (KH (P:=l.prog) (w:=w) (base:=base) F19 Z Y) (B3 X G a19) (F19.binds (by walk_at "b2"))
 have G20:=Callee.mk' F20 (XA (P:=l.prog) (w:=w) (base:=base) F20 Z Y ⟨G13⟩) (B3 X G a20) (F20.binds (by walk_at "b2"))
 have G21:=Callee.mk' F21 (JL (P:=l.prog) (w:=w) (base:=base) F21 Z Y ⟨G18,G19,G20,G14⟩) (B3 X G a21) (F21.binds (by walk_at "b2"))
 have G22:=Callee.mk' F22 (XD (P:=l.prog) (w:=w) (base:=base) F22 Z Y) (B3 X G a22) (F22.binds (by walk_at "b2"))
 have G23:=Callee.mk' F23 (XB (P:=l.prog) (w:=w) (base:=base) F23 Z Y ⟨G17,G21,G22⟩) (B3 X G a23) (F23.binds (by walk_at "b2"))
 have G24:=Callee.mk' F24 (XC (P:=l.prog) (w:=w) (base:=base) F24 Z Y ⟨G10,G23⟩) (B3 X G a24) (F24.binds (by walk_at "b2"))
 have G25:=Callee.mk' F25 (OC (P:=l.prog) (w:=w) (base:=base) F25 Z Y) (B3 X G a25) (F25.binds (by walk_at "b1"))
 have G26:=Callee.mk' F26 (HI (P:=l.prog) (w:=w) (base:=base) F26 Z Y ⟨G7,G9⟩) (B3 X G a26) (F26.binds (by walk_at "b1"))
 have G27:=Callee.mk' F27 (PX (P:=l.prog) (w:=w) (base:=base) F27 Z Y ⟨G10,G26⟩) (B3 X G a27) (F27.binds (by walk_at "b2"))
 have G28:=Callee.mk' F28 (JM (P:=l.prog) (w:=w) (base:=base) F28 Z Y) (B3 X G a28) (F28.binds (by walk_at "b2"))
 have G29:=Callee.mk' F29 (LP (P:=l.prog) (w:=w) (base:=base) F29 Z Y ⟨G28⟩) (B3 X G a29) (F29.binds (by walk_at "b2"))
 have G30:=Callee.mk' F30 (XF (P:=l.prog) (w:=w) (base:=base) F30 Z Y) (B3 X G a30) (F30.binds (by walk_at "b1"))
 have G31:=Callee.mk' F31 (XG (P:=l.prog) (w:=w) (base:=base) F31 Z Y ⟨G27,G29,G17,G30⟩) (B3 X G a31) (F31.binds (by walk_at "b4"))
 have G32:=Callee.mk' F32 (NX (P:=l.prog) (w:=w) (base:=base) F32 Z Y ⟨G30⟩) (B3 X G a32) (F32.binds (by walk_at "b2"))
 have G33:=Callee.mk' F33 (OA (P:=l.prog) (w:=w) (base:=base) F33 Z Y) (B3 X G a33) (F33.binds (by walk_at "b1"))
 have G34:=Callee.mk' F34 (KJ (P:=l.prog) (w:=w) (base:=base) F34 Z Y ⟨G21,G33,G22⟩) (B3 X G a34) (F34.binds (by walk_at "b3"))
 have G35:=Callee.mk' F35 (PY (P:=l.prog) (w:=w) (base:=base) F35 Z Y ⟨G30,G17,G21,G22⟩) (B3 X G a35) (F35.binds (by walk_at "b5"))
 have G36:=Callee.mk' F36 (MU (P:=l.prog) (w:=w) (base:=base) F36 Z Y ⟨G34,G18,G35⟩) (B3 X G a36) (F36.binds (by walk_at "b3"))
 have G37:=Callee.mk' F37 (J1j (P:=l.prog) (w:=w) (base:=base) F37 Z Y ⟨G31,G32,G36⟩) (B3 X G a37) (F37.binds (by walk_at "b5"))
 have G38:=Callee.mk' F38 (SC (P:=l.prog) (w:=w) (base:=base) F38 Z Y ⟨G25,G37⟩) (B3 X G a38) (F38.binds (by walk_at "b5"))
 have G39:=Callee.mk' F39 (MY (P:=l.prog) (w:=w) (base:=base) F39 Z Y) (B3 X G a39) (F39.binds (by walk_at "b2"))
 have G40:=Callee.mk' F40 (MV (P:=l.prog) (w:=w) (base:=base) F40 Z Y) (B3 X G a40) (F40.binds (by walk_at "b3"))
 have G41:=Callee.mk' F41 (MW (P:=l.prog) (w:=w) (base:=base) F41 Z Y) (B3 X G a41) (F41.binds (by walk_at "b3"))
 have G42:=Callee.mk' F42 (UQ (P:=l.prog) (w:=w) (base:=base) F42 Z Y ⟨G41⟩) (B3 X G a42) (F42.binds (by walk_at "b2"))
 have G43:=Callee.mk' F43 (OD (P:=l.prog) (w:=w) (base:=base) F43 Z Y ⟨G42⟩) (B3 X G a43) (F43.binds (by walk_at "b5"))
 have G44:=Callee.mk' F44 (MX (P:=l.prog) (w:=w) (base:=base) F44 Z Y ⟨G39,G40,G43⟩) (B3 X G a44) (F44.binds (by walk_at "b5"))
 have G45:=Callee.mk' F45 (HR (P:=l.prog) (w:=w) (base:=base) F45 Z Y ⟨G1,G25,G24,G44,G38⟩) (B3 X G a45) (F45.binds (by walk_at "b6"))
 exact Q2w (P:=l.prog) (w:=w) (base:=base) F46 Z Y ⟨G0,G5,G6,G24,G1,G38,G37,G45⟩
theorem Q8q {l:PySem.W.OpenLaw}{q:Program}{loose:List Str}{XP:(Str->Option Value)->Heap->Prop}{YP:World->Heap->Prop}{d:DefRec}{K:Params->Fg}(hn:l.most=some 63)(hdf:d.params.defaults=[])
 (hY:∀ (w:World) (h:Heap),YP w h->(K w.params).In h)
 (F:∀ (w:World) (mg:Str->Option Value) (fa:Addr) (h:Heap),(K w.params).In h->h.Ns mainGlobals mg->mg d.name=some (.ref fa) ->
  ∃ fd:FuncData,(∀ (s:Shared) (u:Value),BindsTo s fd ⟨[u],[]⟩ [("_law_script",u)])/\∀ base:Heap,(K w.params).In base->base.Ns mainGlobals mg->FnOk l.prog w (K w.params) mg base CX0 10 fa fd ["_law_script"] (RU (K w.params))) :
 PySem.W.WalkO q loose XP YP l.row.toRowW d [] (fun f vs=>PySem.call f vs) :=
 L2.J6x (n:=63) (k:=10) (x:="_law_script") (CX:=fun _=>CX0) (sp:=fun w=>RU (K w.params)) hn (by decide) hdf ⟨rfl,by decide,by decide⟩ hY F (fun _ _ a ns hl _ hS=>⟨a,ns,rfl,hS,hl,fun _=>rfl⟩) fun _ _ _ _ _ z=>z
end K
open PySem PySem.W PyProof.Rows
theorem PySem.W.Fast.tw3035046513890758847:True:=trivial
theorem PySem.W.Fast.tw3984117558046633023:True:=trivial
theorem PySem.W.Fast.tw9102684653284373245:True:=trivial
theorem PySem.W.Fast.tw4914095558461297341:True:=trivial
theorem PySem.W.Fast.tw844545882955439677:True:=trivial
theorem PySem.W.Fast.tw4349888966506628796:True:=trivial
theorem PySem.W.Fast.tw2586758642195207099:True:=trivial
theorem PySem.W.Fast.tw10239896591578060123:True:=trivial
theorem PySem.W.Fast.tw16198246173685983034:True:=trivial
theorem PySem.W.Fast.tw16453838968147336021:True:=trivial
theorem PySem.W.Fast.tw2036882202954416878:True:=trivial
theorem PySem.W.Fast.tw7422578170564528525:True:=trivial
theorem PySem.W.Fast.tw18071892307878669292:True:=trivial
theorem PySem.W.Fast.tw6149358430856858859:True:=trivial
theorem PySem.W.Fast.tw7325614477678971915:True:=trivial
theorem PySem.W.Fast.tw17605957085010122950:True:=trivial
theorem PySem.W.Fast.tw15438565154907319332:True:=trivial
theorem PySem.W.Fast.tw15211277387370596161:True:=trivial
theorem PySem.W.Fast.tw8516237395165074656:True:=trivial
theorem PySem.W.Fast.tw14734241668710930174:True:=trivial
local macro_rules | `(tactic| walk_at "fn") => `(tactic| (refine' _root_.K.fn_in ?a ?l ?c ?k; (case a => k_is); (case l => k_is); (case c => k_is); (case k => k_is)))
set_option maxRecDepth 100000 in
set_option maxHeartbeats 0 in
theorem PySem.Challenge.cw_onceshade_k54_pictures_mended_holds : PySem.Challenge.rw_onceshade_k54_pictures_mended.Holds := by
 w_on;o_law;k_head;(case hw=>w_witness2)
 k_fill
 refine K.Q8q (l:=PySem.Challenge.rw_onceshade_k54_pictures_mended) rfl rfl (fun w h Y=>PySem.W.kIn_of Y) ?F
 case F =>
  intro w mg fa h KX G hmg
  refine' K.Q5j KX G hmg ?h0 ?h1 ?h2 ?h3 ?h4 ?h5 ?h6 ?h7 ?h8 ?h9 ?h10 ?h11 ?h12 ?h13 ?h14 ?h15 ?h16 ?h17 ?h18 ?h19 ?h20 ?h21 ?h22 ?h23 ?h24 ?h25 ?h26 ?h27 ?h28 ?h29 ?h30 ?h31 ?h32 ?h33 ?h34 ?h35 ?h36 ?h37 ?h38 ?h39 ?h40 ?h41 ?h42 ?h43 ?h44 ?h45 ?h46 ?z_abs ?z_len ?z_max ?z_min ?z_range ?z_isinstance ?z_int ?z_bool ?z_tuple ?z_zip ?z_sum ?z_list ?z_enumerate ?z_all ?z_any ?z_ValueError ?z_str ?z_LONGEST ?e_ShadeError ?e_NoFace ?e_NoBoard ?q_NoBoard ?x1_NoBoard ?x5_NoBoard ?x6_NoBoard ?x2_NoBoard ?x3_NoBoard ?x4_NoBoard ?v_NoBoard ?s_NoBoard ?n_NoBoard_NoFace ?q_NoFace ?x1_NoFace ?x5_NoFace ?x6_NoFace ?x2_NoFace ?x3_NoFace ?x4_NoFace ?v_NoFace ?s_NoFace ?n_NoFace_NoBoard ?xb1 ?xb2 ?xb3
  (case h0=>walk_at "fn")
  (case h1=>walk_at "fn")
  (case h2=>walk_at "fn")
  (case h3=>walk_at "fn")
  (case h4=>walk_at "fn")
  (case h5=>walk_at "fn")
  (case h6=>walk_at "fn")
  (case h7=>walk_at "fn")
  (case h8=>walk_at "fn")
  (case h9=>walk_at "fn")
  (case h10=>walk_at "fn")
  (case h11=>walk_at "fn")
  (case h12=>walk_at "fn")
  (case h13=>walk_at "fn")
  (case h14=>walk_at "fn")
  (case h15=>walk_at "fn")
  (case h16=>walk_at "fn")
  (case h17=>walk_at "fn")
  (case h18=>walk_at "fn")
  (case h19=>walk_at "fn")
  (case h20=>walk_at "fn")
  (case h21=>walk_at "fn")
  (case h22=>walk_at "fn")
  (case h23=>walk_at "fn")
  (case h24=>walk_at "fn")
  (case h25=>walk_at "fn")
  (case h26=>walk_at "fn")
  (case h27=>walk_at "fn")
  (case h28=>walk_at "fn")
  (case h29=>walk_at "fn")
  (case h30=>walk_at "fn")
  (case h31=>walk_at "fn")
  (case h32=>walk_at "fn")
  (case h33=>walk_at "fn")
  (case h34=>walk_at "fn")
  (case h35=>walk_at "fn")
  (case h36=>walk_at "fn")
  (case h37=>walk_at "fn")
  (case h38=>walk_at "fn")
  (case h39=>walk_at "fn")
  (case h40=>walk_at "fn")
  (case h41=>walk_at "fn")
  (case h42=>walk_at "fn")
  (case h43=>walk_at "fn")
  (case h44=>walk_at "fn")
  (case h45=>walk_at "fn")
  (case h46=>walk_at "fn")
  (case z_abs=>k_is)
  (case z_len=>k_is)
  (case z_max=>k_is)
  (case z_min=>k_is)
  (case z_range=>k_is)
  (case z_isinstance=>k_is)
  (case z_int=>k_is)
  (case z_bool=>k_is)
  (case z_tuple=>k_is)
  (case z_zip=>k_is)
  (case z_sum=>k_is)
  (case z_list=>k_is)
  (case z_enumerate=>k_is)
  (case z_all=>k_is)
  (case z_any=>k_is)
  (case z_ValueError=>k_is)
  (case z_str=>k_is)
  (case z_LONGEST=>k_is)
  (case e_ShadeError=>k_is)
  (case e_NoFace=>k_is)
  (case e_NoBoard=>k_is)
  (case q_NoBoard=>k_exc)
  (case x1_NoBoard=>kernel_rfl)
  (case x5_NoBoard=>kernel_rfl)
  (case x6_NoBoard=>kernel_rfl)
  (case x2_NoBoard=>kernel_rfl)
  (case x3_NoBoard=>kernel_rfl)
  (case x4_NoBoard=>kernel_rfl)
  (case v_NoBoard=>kernel_rfl)
  (case s_NoBoard=>kernel_rfl)
  (case n_NoBoard_NoFace=>kernel_rfl)
  (case q_NoFace=>k_exc)
  (case x1_NoFace=>kernel_rfl)
  (case x5_NoFace=>kernel_rfl)
  (case x6_NoFace=>kernel_rfl)
  (case x2_NoFace=>kernel_rfl)
  (case x3_NoFace=>kernel_rfl)
  (case x4_NoFace=>kernel_rfl)
  (case v_NoFace=>kernel_rfl)
  (case s_NoFace=>kernel_rfl)
  (case n_NoFace_NoBoard=>kernel_rfl)
  (case xb1=>kernel_rfl)
  (case xb2=>kernel_rfl)
  (case xb3=>kernel_rfl)
