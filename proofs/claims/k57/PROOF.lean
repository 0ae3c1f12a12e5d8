import PyProof.Rows.All
import Wide.All
import OpenK.AllK
import Wide.FinOn
import Lean
import PyProof.EqAt
import PyProof.EqKinds
import PyProof.TupleCall
import PySem.Challenge.RW_onceshade_k57_whole_outlines_of_closed_b
set_option bootstrap.genMatcherCode false
set_option Elab.async false
set_option linter.all false
set_option maxRecDepth 100000
abbrev Fg:=PySem.W.Frag
variable {P:PySem.Program}{K:Fg}{mg:PySem.Str->Option PySem.Value}{base:PySem.Heap}{fd:PySem.FuncData}{b:Option PySem.Addr}{M:PySem.Addr->Prop}
namespace L2
open PySem PySem.Spec PyProof.Rows
abbrev Key:=Sum Int Str
def J7k:Key->Value->Bool
 | .inl k,v=>Value.isInt k v
 | .inr x,v=>Value.isStrOf x v
def Q5t (w:World):Key->Int
 | .inl k=>hashInt k
 | .inr x=>hashStr w x
theorem Z0:∀ {k:Key} {v:Value},J7k k v=true->(∃ i t,k=Sum.inl i/\v=Value.int i t)\/(∃ x t,k=Sum.inr x/\v=Value.str x t)
 | .inl i,v,h=>by
   obtain ⟨t,e⟩:=Value.isInt_shape (k:=i) (v:=v) h
   exact .inl ⟨i,t,rfl,e⟩
 | .inr x,v,h=>by
   obtain ⟨t,e⟩:=Value.isStrOf_shape (x:=x) (v:=v) h
   exact .inr ⟨x,t,rfl,e⟩
theorem J9w (a b:Int):decide ((Sum.inl a:Key)=Sum.inl b)=(a==b):=by
 by_cases e:a=b
 · subst e;simp
 · have h:¬ (Sum.inl a:Key)=Sum.inl b:=fun q=>e (Sum.inl.inj q)
   rw [decide_eq_false h]
   exact (beq_eq_false_iff_ne.mpr e).symm
theorem J9t (a b:Str):decide ((Sum.inr a:Key)=Sum.inr b)=decide (a=b):=by
 by_cases e:a=b
 · subst e;simp
 · have h:¬ (Sum.inr a:Key)=Sum.inr b:=fun q=>e (Sum.inr.inj q)
   rw [decide_eq_false h,decide_eq_false e]
theorem J9v (a:Int)(b:Str):decide ((Sum.inl a:Key)=Sum.inr b)=false:=decide_eq_false (fun q=>nomatch q)
theorem J9u (a:Str)(b:Int):decide ((Sum.inr a:Key)=Sum.inl b)=false:=decide_eq_false (fun q=>nomatch q)
def OH (prog:Program)(w:World):PySem.KeyKind prog w Key where
 is:=J7k
 hash:=Q5t w
 inj:=fun v a b ha hb=>by
  rcases Z0 ha with ⟨i,t,rfl,rfl⟩|⟨x,t,rfl,rfl⟩
  · rcases Z0 hb with ⟨j,u,rfl,e⟩|⟨y,u,rfl,e⟩
    · injection e with e1 _;rw [e1]
    · exact nomatch e
  · rcases Z0 hb with ⟨j,u,rfl,e⟩|⟨y,u,rfl,e⟩
    · exact nomatch e
    · injection e with e1 _;rw [e1]
 byValue:=fun k v h=>by
  rcases Z0 h with ⟨i,t,rfl,rfl⟩|⟨x,t,rfl,rfl⟩<;>rfl
 pyHash:=fun hv h=>by
  rcases Z0 hv with ⟨i,t,rfl,rfl⟩|⟨x,t,rfl,rfl⟩
  · exact wpAny_pyHash_int h
  · exact wpAny_pyHash_str h
 eqBool:=fun hu hv h=>by
  rcases Z0 hu with ⟨i,t,rfl,rfl⟩|⟨x,t,rfl,rfl⟩
  · rcases Z0 hv with ⟨j,u,rfl,rfl⟩|⟨y,u,rfl,rfl⟩
    · rw [J9w] at h;exact wpAny_eqBool_int h
    · rw [J9v] at h;exact SeqAt.EqAt.int_str i t y u _ _ _ _ h
  · rcases Z0 hv with ⟨j,u,rfl,rfl⟩|⟨y,u,rfl,rfl⟩
    · rw [J9u] at h;exact SeqAt.EqAt.str_int x t j u _ _ _ _ h
    · rw [J9t] at h;exact wpAny_eqBool_str h
 «strs»:=fun k x t v h=>by
  rcases Z0 h with ⟨i,u,rfl,e⟩|⟨y,u,rfl,e⟩
  · exact nomatch e
  · injection e with e1 _
    subst e1
    cases v<;>rfl
inductive V where
 | non|bl (b:Bool)|int (i:Int)|str (x:Str)|byt (b:Array UInt8)|flt (b:UInt64)|ref (a:Addr)|ty (n:String)
 deriving DecidableEq
def RelV:V->Value->Prop
 | .non,u=>u=Value.none
 | .bl b,u=>u=Value.bool b
 | .int i,u=>∃ t,u=Value.int i t
 | .str x,u=>∃ t,u=Value.str x t
 | .byt b,u=>∃ t,u=Value.bytes b t
 | .flt b,u=>∃ t,u=Value.float b t
 | .ref a,u=>u=Value.ref a
 | .ty n,u=>u=Value.type n
abbrev Vals:List V->List Value->Prop:=Paired RelV
theorem Vals.length {xs:List V}{us:List Value}(r:Vals xs us):xs.length=us.length:=Paired.length r
theorem Vals.get:∀ {xs:List V} {us:List Value} {i:Nat} {x:V},Vals xs us->xs[i]?=some x->∃ u,us[i]?=some u/\RelV x u
 | _,_,_,_,.nil,e=>by simp at e
 | _,_,0,_,.cons r _,e=>by simp at e;subst e;exact ⟨_,rfl,r⟩
 | _,_,i+1,x,.cons _ t,e=>by
   obtain ⟨u,h1,h2⟩:=Vals.get (i:=i) (x:=x) t (by simpa using e)
   exact ⟨u,by simpa using h1,h2⟩
theorem Vals.set {x:V}{u:Value}(r:RelV x u):∀ {xs:List V} {us:List Value} (i:Nat),Vals xs us->Vals (xs.set i x) (us.set i u)
 | _,_,_,.nil=>.nil
 | _,_,0,.cons _ t=>.cons r t
 | _,_,i+1,.cons q t=>.cons q (Vals.set r i t)
theorem Vals.append:∀ {xs ys:List V} {us ws:List Value},Vals xs us->Vals ys ws->Vals (xs++ys) (us++ws)
 | _,_,_,_,.nil,s=>s
 | _,_,_,_,.cons r t,s=>.cons r (Vals.append t s)
theorem Vals.take:∀ {xs:List V} {us:List Value} (n:Nat),Vals xs us->Vals (xs.take n) (us.take n)
 | _,_,0,_=>.nil
 | _,_,_+1,.nil=>.nil
 | _,_,n+1,.cons r t=>.cons r (Vals.take n t)
theorem Vals.drop:∀ {xs:List V} {us:List Value} (n:Nat),Vals xs us->Vals (xs.drop n) (us.drop n)
 | _,_,0,r=>r
 | _,_,_+1,.nil=>.nil
 | _,_,n+1,.cons _ t=>Vals.drop n t
def J7a:Option V->Option Value->Prop
 | some v,some u=>RelV v u
 | none,none=>True
 | _,_=>False
def KV {κ:Type}:List (κ×V)->List (κ×Value)->Prop:=Paired fun (p:κ×V) (q:κ×Value)=>p.1=q.1/\RelV p.2 q.2
def kV:Key->V
 | .inl i=>.int i
 | .inr x=>.str x
inductive HO where
 | lst (xs:List V)
 | tup (xs:List V)
 | dK (kvs:List (Key×V))|dT (kvs:List (List Key×V))
 | set (S:Int->Bool) (n:Nat)
 | ins (C dx:Addr) (fs:List (Str×V))
 | own (x:Addr)
 | xd (fs:List (Str×V))
 | met (f x:Addr)
 | rng (lo hi:Int)
 | frz (o:Obj) (u:HO)
 | tbl (ps:Array Value)
 | ext (φ:Heap->Prop)
abbrev Hp:=Addr->Option HO
def upd (H:Hp)(a:Addr)(o:HO):Hp:=fun b=>if b=a then some o else H b
theorem Q6 {H:Hp}{a:Addr}{o:HO}:upd H a o a=some o:=by unfold upd;rw [if_pos rfl]
theorem Q3 {H:Hp}{a b:Addr}{o:HO}(h:b≠a):upd H a o b=H b:=by unfold upd;rw [if_neg h]
theorem J7j {H:Hp}{a b:Addr}{o u:HO}(h:H a=some o)(h':H b=some u)(d:o≠u):a≠b:=by
 intro e;subst e;rw [h] at h';exact d (Option.some.inj h')
theorem Q0 {H:Hp}{a b:Addr}{o:HO}(h:H a=some o)(h':H b=none):a≠b:=by
 intro e;subst e;rw [h] at h';cases h'
section
variable (P:Program) (w:World)
def ObjOk (H:Hp)(h:Heap)(a:Addr):HO->Prop
 | .lst xs=>xs.length<=sizeLine/\∃ (its:List Value) (n:Nat),Vals xs its/\h.get? a=some { cls:=.type "list",data:=.seq its.toArray n }
 | .tup xs=>xs.length<=sizeLine/\∃ its:List Value,Vals xs its/\IsTup h a its.toArray
 | .dK kvs=>kvs.length<=sizeLine/\(a==sysModules)=false/\∃ vs,KV kvs vs/\h.DictOf (OH P w) a vs
 | .dT kvs=>kvs.length<=sizeLine/\(a==sysModules)=false/\∃ xs:List (List Key×Addr×Value),
  Paired (fun (p:List Key×V) (q:List Key×Addr×Value)=>p.1=q.1/\H q.2.1=some (.tup (p.1.map kV))/\RelV p.2 q.2.2) kvs xs /\
  ∃ o es ep,h.get? a=some o/\o.ExactDict/\o.data=.dict es ep/\es.toList=xs.map (entryOfKey (tupleKind (OH P w)))/\(xs.map (·.1)).Nodup
 | .set S n=>h.SetOf (intKind P w) a S n
 | .ins C dx fs=>H dx=some (.own a)/\fs.length<=1000/\dx≠a/\h.get? a=some (PySem.W.instObj C dx) /\
  ∃ mA,h.Ns1 dx mA/\(∀ f,J7a (fs.lookup f) (mA f))/\PySem.Within mA (fs.map (·.1))
 | .own _=>∃ o,h.get? a=some o
 | .xd fs=>∃ mA,h.Ns1 a mA/\∀ f,J7a (fs.lookup f) (mA f)
 | .rng lo hi=>∃ t u v,h.get? a=some { cls:=.type "range",data:=.fields #[.int lo t,.int hi u,.int 1 v] }
 | .frz o u=>h.get? a=some o/\ObjOk H h a u
 | .tbl ps=>h.get? a=some { cls:=.none,data:=.fields ps }
 | .met f x=>h.get? a=some (PySem.W.methodObj (.ref f) (.ref x))
 | .ext φ=>φ h/\(∃ o,h.get? a=some o)/\∀ h1 h2:Heap,φ h1->(∀ o,h1.get? a=some o->h2.get? a=some o)->φ h2
def HOk (H:Hp)(h:Heap):Prop:=∀ a o,H a=some o->ObjOk P w H h a o
end
section
variable {P:Program}{w:World}{H H':Hp}{h h':Heap}{a:Addr}{o:HO}
theorem ObjOk.lt (x:ObjOk P w H h a o):a<h.objs.size:=by
 cases o with
 | lst xs=>obtain ⟨_,_,_,_,e⟩:=x;exact Heap.lt_size e
 | tup xs=>obtain ⟨_,_,_,p⟩:=x;exact p.lt
 | dK kvs=>obtain ⟨_,_,_,_,o,_,_,e,_⟩:=x;exact Heap.lt_size e
 | dT kvs=>obtain ⟨_,_,_,_,o,_,_,e,_⟩:=x;exact Heap.lt_size e
 | set S n=>obtain ⟨o,_,_,_,e,_⟩:=x;exact Heap.lt_size e
 | ins C dx fs=>obtain ⟨_,_,_,e,_⟩:=x;exact Heap.lt_size e
 | own y=>obtain ⟨_,e⟩:=x;exact Heap.lt_size e
 | xd fs=>obtain ⟨_,⟨_,_,_,e,_⟩,_⟩:=x;exact Heap.lt_size e
 | rng lo hi=>obtain ⟨_,_,_,e⟩:=x;exact Heap.lt_size e
 | frz ob u=>obtain ⟨e,_⟩:=x;exact Heap.lt_size e
 | tbl ps=>exact Heap.lt_size (show h.get? a=some _ from x)
 | met f y=>exact Heap.lt_size (show h.get? a=some _ from x)
 | ext φ=>obtain ⟨_,⟨_,e⟩,_⟩:=x;exact Heap.lt_size e
theorem Paired.mapP {α β:Type}{F G:α->β->Prop}:∀ {l₁:List α} {l₂:List β},Paired F l₁ l₂->(∀ a b,F a b->G a b)->Paired G l₁ l₂
 | _,_,.nil,_=>.nil
 | _,_,.cons r t,f=>.cons (f _ _ r) (Paired.mapP t f)
theorem ObjOk.stay (x:ObjOk P w H h a o)(k:∀ b u,(b=a\/H b=some (.own a))->h.get? b=some u->h'.get? b=some u)
 (ho:∀ b,H b=some (.own a)->H' b=some (.own a)) (ht:∀ b xs,H b=some (.tup xs)->H' b=some (.tup xs)):ObjOk P w H' h' a o:=by
 induction o with
 | lst xs=>obtain ⟨z,its,n,r,e⟩:=x;exact ⟨z,its,n,r,k _ _ (.inl rfl) e⟩
 | tup xs=>obtain ⟨z,its,r,ob,e,c⟩:=x;exact ⟨z,its,r,ob,k _ _ (.inl rfl) e,c⟩
 | dK kvs=>obtain ⟨z,y,vs,r,ob,es,ep,e,c⟩:=x;exact ⟨z,y,vs,r,ob,es,ep,k _ _ (.inl rfl) e,c⟩
 | dT kvs =>
   obtain ⟨z,y,xs,r,ob,es,ep,e,c⟩:=x
   exact ⟨z,y,xs,Paired.mapP r fun p q z=>⟨z.1,ht _ _ z.2.1,z.2.2⟩,ob,es,ep,k _ _ (.inl rfl) e,c⟩
 | set S n=>obtain ⟨ob,es,ep,t,e,c⟩:=x;exact ⟨ob,es,ep,t,k _ _ (.inl rfl) e,c⟩
 | ins C dx fs =>
   obtain ⟨d,z,ne,e,mA,⟨od,es,ep,e2,c⟩,r⟩:=x
   exact ⟨ho _ d,z,ne,k _ _ (.inl rfl) e,mA,⟨od,es,ep,k _ _ (.inr d) e2,c⟩,r⟩
 | own y=>obtain ⟨ob,e⟩:=x;exact ⟨ob,k _ _ (.inl rfl) e⟩
 | xd fs=>obtain ⟨mA,⟨od,es,ep,e,c⟩,r⟩:=x;exact ⟨mA,⟨od,es,ep,k _ _ (.inl rfl) e,c⟩,r⟩
 | rng lo hi=>obtain ⟨t,u,v,e⟩:=x;exact ⟨t,u,v,k _ _ (.inl rfl) e⟩
 | frz ob u ih=>obtain ⟨e,q⟩:=x;exact ⟨k _ _ (.inl rfl) e,ih q⟩
 | tbl ps =>
   have e:h.get? a=some { cls:=.none,data:=.fields ps }:=x
   show h'.get? a=some { cls:=.none,data:=.fields ps }
   exact k a _ (.inl rfl) e
 | met f y =>
   have e:h.get? a=some (PySem.W.methodObj (.ref f) (.ref y)):=x
   show h'.get? a=some (PySem.W.methodObj (.ref f) (.ref y))
   exact k a _ (.inl rfl) e
 | ext φ=>obtain ⟨p,⟨o,e⟩,st⟩:=x;exact ⟨st _ _ p fun o q=>k _ _ (.inl rfl) q,⟨o,k _ _ (.inl rfl) e⟩,st⟩
theorem HOk.lt (x:HOk P w H h)(e:H a=some o):a<h.objs.size:=(x a o e).lt
theorem HOk.fresh (x:HOk P w H h)(e:h.objs.size<=a):H a=none:=by
 cases q:H a with
 | none=>rfl
 | some u=>exact absurd (Nat.lt_of_lt_of_le (x.lt q) e) (Nat.lt_irrefl _)
theorem HOk.kept (x:HOk P w H h)(k:∀ b u,h.get? b=some u->h'.get? b=some u):HOk P w H h':=fun a o e =>
 (x a o e).stay (fun b u _ q=>k b u q) (fun _ q=>q) fun _ _ q=>q
theorem HOk.laid (x:HOk P w H h)(k:∀ b u,h.get? b=some u->h'.get? b=some u)(hp:h.objs.size<=a)(new:ObjOk P w (upd H a o) h' a o):HOk P w (upd H a o) h':=fun b u e=>by
 have hn:=x.fresh hp
 by_cases hb:b=a
 · subst hb;rw [Q6] at e;cases e;exact new
 · rw [Q3 hb] at e
   exact (x b u e).stay (fun c v _ q=>k c v q) (fun c q=>by rw [Q3 (Q0 q hn)];exact q) fun c xs q=>by rw [Q3 (Q0 q hn)];exact q
end
def Rd (H:Hp)(a:Addr)(u:HO):Prop:=H a=some u\/∃ o,H a=some (.frz o u)
theorem Rd.of {H:Hp}{a:Addr}{u:HO}(h:H a=some u):Rd H a u:=.inl h
theorem Rd.ok {w:World}{H:Hp}{h:Heap}{a:Addr}{u:HO}(r:Rd H a u)(x:HOk P w H h):ObjOk P w H h a u:=by
 rcases r with r|⟨o,r⟩
 · exact x a u r
 · obtain ⟨_,q⟩:=x a _ r
   exact q
def Mut:Option HO->Prop
 | some (.lst _)=>True
 | some (.dK _)=>True
 | some (.dT _)=>True
 | some (.set _ _)=>True
 | some (.ins _ _ _)=>True
 | some (.ext _)=>True
 | _=>False
section
variable {P:Program}{w:World}{H:Hp}{h h':Heap}{x e:Addr}{o':HO}
theorem HOk.write (ok:HOk P w H h)(mu:Mut (H x))(he:e=x\/H e=some (.own x))(k:∀ b u,b≠e->h.get? b=some u->h'.get? b=some u)(heo:∃ u,h'.get? e=some u)
 (new:ObjOk P w (upd H x o') h' x o'):HOk P w (upd H x o') h':=fun b u q=>by
 have nown:∀ c y,H c=some (.own y)->c≠x:=fun c y r z=>by subst z;rw [r] at mu;exact mu
 have ntup:∀ c xs,H c=some (.tup xs)->c≠x:=fun c xs r z=>by subst z;rw [r] at mu;exact mu
 by_cases hb:b=x
 · subst hb;rw [Q6] at q;cases q;exact new
 · rw [Q3 hb] at q
   by_cases hbe:b=e
   · have q':H b=some (.own x):=by
      rcases he with z|z
      · exact absurd (hbe.trans z) hb
      · rw [hbe];exact z
     rw [q] at q';cases q'
     obtain ⟨v,hv⟩:=heo
     exact ⟨v,by rw [hbe];exact hv⟩
   · refine (ok b u q).stay (fun c v hc r=>k c v ?_ r) (fun c r=>by rw [Q3 (nown c b r)];exact r) fun c xs r=>by rw [Q3 (ntup c xs r)];exact r
     rcases hc with rfl|hc
     · exact hbe
     · rintro rfl
       rcases he with z|z
       · exact nown c b hc z
       · rw [hc] at z;cases z;exact hb rfl
end
structure Un (fs ex:List Addr)(H H':Hp)(h h':Heap):Prop where
 keep:∀ b o,h.get? b=some o->H b=none->b∉fs->b∉ex->h'.get? b=some o
 slot:∀ b o,h.get? b=some o->H b=none->b∈fs->b∉ex->∃ sl,h'.get? b=some { o with slots:=sl }
 free:∀ b o,h.get? b=some o->H b=none->b∉ex->H' b=none
 there:∀ b o,h.get? b=some o->b∉ex->∃ o',h'.get? b=some o'
 tups:∀ b xs,H b=some (.tup xs)->H' b=some (.tup xs)
 frzs:∀ b o u,H b=some (.frz o u)->H' b=some (.frz o u)
 tbls:∀ b ps,H b=some (.tbl ps)->∃ more,H' b=some (.tbl (ps++more))
section
variable {fs fs' ex ex':List Addr}{H H1 H2:Hp}{h h1 h2 h':Heap}{a x e:Addr}{o:HO}
theorem Un.any (u:Un fs ex H H1 h h1){b:Addr}{ob:Obj}(q:h.get? b=some ob)(n:H b=none)(hx:b∉ex):∃ sl,h1.get? b=some { ob with slots:=sl }:=by
 by_cases hb:b∈fs
 · exact u.slot b ob q n hb hx
 · exact ⟨ob.slots,u.keep b ob q n hb hx⟩
theorem Un.trans (a:Un fs ex H H1 h h1)(b:Un fs ex H1 H2 h1 h2):Un fs ex H H2 h h2 where
 keep:=fun c ob q n hc hx=>b.keep c ob (a.keep c ob q n hc hx) (a.free c ob q n hx) hc hx
 slot:=fun c ob q n hc hx=>by
  obtain ⟨sl,e1⟩:=a.slot c ob q n hc hx
  obtain ⟨sl',e2⟩:=b.slot c _ e1 (a.free c ob q n hx) hc hx
  exact ⟨sl',e2⟩
 free:=fun c ob q n hx=>by
  obtain ⟨o',e1⟩:=a.there c ob q hx
  exact b.free c o' e1 (a.free c ob q n hx) hx
 there:=fun c ob q hx=>by
  obtain ⟨o',e1⟩:=a.there c ob q hx
  exact b.there c o' e1 hx
 tups:=fun c xs q=>b.tups c xs (a.tups c xs q)
 frzs:=fun c ob xs q=>b.frzs c ob xs (a.frzs c ob xs q)
 tbls:=fun c ps q=>by
  obtain ⟨m1,e1⟩:=a.tbls c ps q
  obtain ⟨m2,e2⟩:=b.tbls c _ e1
  exact ⟨m1++m2,by rw [e2,Array.append_assoc]⟩
theorem Un.kept (k:∀ b u,h.get? b=some u->h'.get? b=some u):Un fs ex H H h h' :=
 ⟨fun b ob q _ _ _=>k b ob q,fun b ob q _ _ _=>⟨ob.slots,k b ob q⟩,fun _ _ _ n _=>n,fun b ob q _=>⟨ob,k b ob q⟩,fun _ _ q=>q,fun _ _ _ q=>q,fun _ ps q=>⟨#[],by rw [q];simp⟩⟩
theorem Un.refl:Un fs ex H H h h:=Un.kept fun _ _ q=>q
theorem Un.laid (k:∀ b u,h.get? b=some u->h'.get? b=some u)(hp:h.objs.size<=a)(hn:H a=none):Un fs ex H (upd H a o) h h' where
 keep:=fun b u q _ _ _=>k b u q
 slot:=fun b u q _ _ _=>⟨u.slots,k b u q⟩
 free:=fun b u q n _=>by rw [Q3 (Nat.ne_of_lt (Nat.lt_of_lt_of_le (Heap.lt_size q) hp))];exact n
 there:=fun b u q _=>⟨u,k b u q⟩
 tups:=fun b xs q=>by rw [Q3 (Q0 q hn)];exact q
 frzs:=fun b u xs q=>by rw [Q3 (Q0 q hn)];exact q
 tbls:=fun b ps q=>⟨#[],by rw [Q3 (Q0 q hn),q];simp⟩
theorem Un.write (mu:Mut (H x))(he:e=x\/H e=some (.own x))(k:∀ b u,b≠e->h.get? b=some u->h'.get? b=some u)(heo:∃ u,h'.get? e=some u):Un fs ex H (upd H x o) h h':=by
 have hx:∀ b,H b=none->b≠x:=fun b n z=>by subst z;rw [n] at mu;exact mu
 have hb:∀ b,H b=none->b≠e:=fun b n z=>by
  subst z
  rcases he with r|r
  · exact hx b n r
  · rw [n] at r;cases r
 have hm:∀ b u,H b=some u->¬ Mut (some u)->b≠x:=fun b u q nm z=>by subst z;rw [q] at mu;exact nm mu
 refine ⟨fun b u q n _ _=>k b u (hb b n) q,fun b u q n _ _=>⟨u.slots,k b u (hb b n) q⟩,fun b u q n _=>by rw [Q3 (hx b n)];exact n,fun b u q _=>?_,
  fun b xs q=>by rw [Q3 (hm b _ q fun z=>z)];exact q,fun b u xs q=>by rw [Q3 (hm b _ q fun z=>z)];exact q,fun b ps q=>⟨#[],by rw [Q3 (hm b _ q fun z=>z),q];simp⟩⟩
 by_cases hbe:b=e
 · subst hbe;exact heo
 · exact ⟨u,k b u hbe q⟩
theorem Un.mono (u:Un fs ex H H1 h h1)(hs:∀ b∈fs,b∈fs')(hx:∀ b∈ex,b∈ex'):Un fs' ex' H H1 h h1 :=
 ⟨fun b ob q n hb he=>u.keep b ob q n (fun z=>hb (hs b z)) fun z=>he (hx b z),fun _ _ q n _ he=>u.any q n fun z=>he (hx _ z),fun b ob q n he=>u.free b ob q n fun z=>he (hx b z),fun b ob q he=>u.there b ob q fun z=>he (hx b z),u.tups,u.frzs,u.tbls⟩
end
def trk (h:Heap)(H:Hp):List Addr:=(List.range h.objs.size).filter fun a=>(H a).isSome
def OM (h:Heap)(H:Hp):Heap:=PySem.W.hideAll h (trk h H)
theorem YD (h:Heap)(H:Hp):(OM h H).objs.size=h.objs.size:=PySem.W.hideAll_size _ _
theorem J1w {h:Heap}{H:Hp}{b:Addr}{o:Obj}(e:h.get? b=some o)(n:H b=none):(OM h H).get? b=some o :=
 PySem.W.hideAll_get _ e fun hm=>by
  have q:(H b).isSome=true:=(List.mem_filter.mp hm).2
  rw [n] at q;simp at q
theorem J5f {h:Heap}{H:Hp}{b:Addr}{o:Obj}(e:(OM h H).get? b=some o):h.get? b=some o/\H b=none:=by
 have e':h.get? b=some o:=PySem.W.of_hideAll (trk h H) e
 refine ⟨e',?_⟩
 cases q:H b with
 | none=>rfl
 | some x =>
   have hm:b∈trk h H:=List.mem_filter.mpr ⟨List.mem_range.mpr (Heap.lt_size e'),by simp [q]⟩
   have z:(OM h H).get? b=none:=PySem.W.hideAll_none (trk h H) hm
   rw [z] at e;cases e
def J6z (g h:Heap)(L:Addr):List (Addr×Obj):=(List.range h.objs.size).filterMap fun a=>if a=L\/(g.get? a).isSome=true then none else (h.get? a).map fun o=>(a,o)
def rest (g h:Heap)(L d:Addr):List (Addr×Obj):=(J6z g h L).filter fun p=>decide (p.1≠d)
structure Mod (K:Fg)(mg:Str->Option Value)(base:Heap):Prop where
 kin:K.In base
 glob:base.Ns mainGlobals mg
 blt:∃ mb,base.Ns builtinsNs mb/\∀ x:Str,x≠"__name__"->mb x=bootBuiltins x
 nolimit:base.NoLimit
structure Cx where
 prog:Program
 w:World
 K:Fg
 mg:Str->Option Value
 base:Heap
 A:Around
 N:List Str
 s₀:Shared
 H₀:Hp
 env:Env
 outer:List Env
 stack:List Env
 ex:List Addr
 fn:Str->Bool
 calm:Bool
 pn:List (Addr×Obj)
 xe:Value->Shared->Prop
def frs (l:List Env):List Addr:=l.filterMap (·.frame)
abbrev Cx.fs (X:Cx):List Addr:=frs X.outer
def Vis (sc:Scope)(x:Str):Prop:=sc.names.lookup x=some .local\/sc.names.lookup x=some .cell\/sc.names.lookup x=some .free
def Loc (sc:Scope)(x:Str):Prop:=sc.names.lookup x=some .local\/sc.names.lookup x=some .cell
def Q6c (env:Env)(h:Heap)(m:Str->Option Value)(x:Str)(u:Value):Prop :=
 (env.kindOf x=some .local/\m x=some u)\/((env.kindOf x=some .cell\/env.kindOf x=some .free)/\∃ c,env.cells.lookup x=some c/\h.IsCell c (some u))
structure Cx.Ok (X:Cx):Prop where
 mod:Mod X.K X.mg X.base
 kind:X.env.scope.kind=.function
 glob:X.env.globals=mainGlobals
 blt:X.env.builtins=builtinsNs
 above:X.s₀.heap.objs.size<=X.env.locals
 inj:∀ x y c,X.env.cells.lookup x=some c->X.env.cells.lookup y=some c->x=y
 has:∀ x,(X.env.kindOf x=some .cell\/X.env.kindOf x=some .free)->∃ c,X.env.cells.lookup x=some c
 cab:∀ x c,X.fn x=true->X.env.cells.lookup x=some c->X.s₀.heap.objs.size<=c
 hd:X.calm=true->X.A.handled=none
 frames:X.A.frames=some X.stack
 stk:X.stack=X.outer\/(X.stack=X.env::X.outer/\X.env.frame=some X.env.locals)
 exf:∀ b∈X.ex,b≠X.env.locals/\∀ x c,X.env.cells.lookup x=some c->c≠b
 bs:∀ b o,X.base.get? b=some o->X.s₀.heap.get? b=some o/\X.H₀ b=none
 bsz:X.base.objs.size<=X.s₀.heap.objs.size
 noex:∀ b o,X.base.get? b=some o->b∉X.ex
 exfs:∀ b∈X.ex,b∉X.fs
 funs:X.s₀.heap.FunFrames X.base X.outer
 frf:∀ b∈X.fs,X.H₀ b=none
structure Inv (X:Cx)(pins:List (Addr×Obj))(σ:List (Option V))(H:Hp)(s:Shared):Prop where
 ok:X.Ok
 os:s.os=X.s₀.os
 bare:AllBare s.gens
 base:Un X.fs X.ex X.H₀ H X.s₀.heap s.heap
 loc:∃ m,s.heap.Ns X.env.locals m/\∀ (i:Nat) (x:Str) (v:V),X.N[i]?=some x->σ[i]?=some (some v)->Vis X.env.scope x->∃ u,RelV v u/\Q6c X.env s.heap m x u
 cell:∀ x c,X.env.cells.lookup x=some c->∃ v,s.heap.IsCell c v
 free:H X.env.locals=none
 freeC:∀ x c,X.env.cells.lookup x=some c->H c=none
 pin:∀ p∈X.pn++pins,s.heap.get? p.1=some p.2/\H p.1=none/\p.1≠X.env.locals/\p.1∉X.fs/\∀ v,p.2.data≠.cell v
 hok:HOk X.prog X.w H s.heap
 len:σ.length=X.N.length
section
variable {X:Cx}{pins:List (Addr×Obj)}{σ:List (Option V)}{H H':Hp}{s:Shared}{h':Heap}
theorem Cx.Ok.nofr (ok:X.Ok){b:Addr}{o:Obj}(e:X.base.get? b=some o):b∉X.fs:=fun hb=>by
 have:=(ok.funs.mem hb).1
 rw [e] at this;cases this
theorem Inv.bs (I:Inv X pins σ H s):∀ b o,X.base.get? b=some o->s.heap.get? b=some o/\H b=none:=fun b o e =>
 ⟨I.base.keep b o (I.ok.bs b o e).1 (I.ok.bs b o e).2 (I.ok.nofr e) (I.ok.noex b o e),I.base.free b o (I.ok.bs b o e).1 (I.ok.bs b o e).2 (I.ok.noex b o e)⟩
theorem Inv.bk (I:Inv X pins σ H s):∀ b o,X.base.get? b=some o->s.heap.get? b=some o:=fun b o e=>(I.bs b o e).1
theorem Inv.mod (I:Inv X pins σ H s):Mod X.K X.mg X.base:=I.ok.mod
theorem Inv.kIn (I:Inv X pins σ H s):X.K.In s.heap:=I.ok.mod.kin.keeps I.bk
theorem Inv.fr (I:Inv X pins σ H s):∃ m,Fr X.base X.env.locals s.heap m :=
 let ⟨m,hn,_⟩:=I.loc
 ⟨m,hn,I.bk,Nat.le_trans I.ok.bsz I.ok.above⟩
theorem Inv.lt (I:Inv X pins σ H s):X.env.locals<s.heap.objs.size:=let ⟨_,hn,_⟩:=I.loc;hn.lt
theorem Inv.sz (I:Inv X pins σ H s):X.s₀.heap.objs.size<=s.heap.objs.size:=Nat.le_trans I.ok.above (Nat.le_of_lt I.lt)
theorem Inv.nofs (I:Inv X pins σ H s){a:Addr}(h:s.heap.objs.size<=a):a∉X.fs:=fun hb=>by
 obtain ⟨_,o,ho,_⟩:=I.ok.funs.mem hb
 exact absurd (Nat.lt_of_lt_of_le (Heap.lt_size ho) (Nat.le_trans I.sz h)) (Nat.lt_irrefl _)
theorem Inv.cne (I:Inv X pins σ H s):∀ x c,X.env.cells.lookup x=some c->c≠X.env.locals:=fun x c e z=>by
 obtain ⟨v,o,ho,hd⟩:=I.cell x c e
 obtain ⟨m,⟨o',es,ep,ho',hd',_⟩,_⟩:=I.loc
 rw [z,ho'] at ho;cases ho;rw [hd'] at hd;cases hd
theorem Inv.funs (I:Inv X pins σ H s):s.heap.FunFrames X.base X.outer:=by
 have all:∀ (l:List Env),(∀ b∈frs l,b∈X.fs)->X.s₀.heap.FunFrames X.base l->s.heap.FunFrames X.base l:=by
  intro l
  induction l with
  | nil=>intro _ _;trivial
  | cons env r ih =>
    intro hs hl
    obtain ⟨hk,⟨L,o,hf,hn,ho,hd⟩,hr⟩:=hl
    have hL:L∈X.fs:=hs L (by unfold frs;rw [List.filterMap_cons,hf];exact List.mem_cons_self)
    obtain ⟨sl,e⟩:=I.base.slot L o ho (I.ok.frf L hL) hL fun z=>I.ok.exfs L z hL
    exact ⟨hk,⟨L,_,hf,hn,e,hd⟩,ih (fun b hb=>hs b (by unfold frs;rw [List.filterMap_cons,hf];exact List.mem_cons_of_mem _ hb)) hr⟩
 exact all X.outer (fun _ hb=>hb) I.ok.funs
theorem Inv.stack (I:Inv X pins σ H s):s.heap.FunFrames X.base X.stack:=by
 rcases I.ok.stk with e|⟨e,hf⟩
 · rw [e];exact I.funs
 · rw [e]
   obtain ⟨m,hn,_⟩:=I.loc
   refine .cons (by rw [I.ok.kind];decide) hf hn ?_ I.funs
   exact Heap.get?_none_of_le (Nat.le_trans I.ok.bsz I.ok.above)
theorem Inv.stkSub (I:Inv X pins σ H s):∀ b∈frs X.stack,b∈X.env.locals::X.fs:=fun b hb=>by
 rcases I.ok.stk with e|⟨e,hf⟩
 · rw [e] at hb;exact List.mem_cons_of_mem _ hb
 · rw [e] at hb
   unfold frs at hb
   rw [List.filterMap_cons,hf] at hb
   exact hb
theorem Inv.stkFree (I:Inv X pins σ H s):∀ b∈frs X.stack,H b=none:=fun b hb=>by
 rcases List.mem_cons.mp (I.stkSub b hb) with e|hb
 · rw [e];exact I.free
 · obtain ⟨_,o,ho,_⟩:=I.ok.funs.mem hb
   exact I.base.free b o ho (I.ok.frf b hb) fun z=>I.ok.exfs b z hb
theorem Inv.step {g':Array GenState}{t':Nat}{d':Drawn}{ch:List Addr}(I:Inv X pins σ H s)
 (hch:∀ b∈ch,(b∈X.ex\/X.s₀.heap.objs.size<=b)/\b≠X.env.locals/\(∀ x c,X.env.cells.lookup x=some c->c≠b)/\∀ p∈X.pn++pins,p.1≠b)
 (keep:∀ b o,b≠X.env.locals->b∉X.fs->b∉ch->s.heap.get? b=some o->H b=none->h'.get? b=some o)
 (slot:∀ b o,b≠X.env.locals->b∈X.fs->b∉ch->s.heap.get? b=some o->H b=none->∃ sl,h'.get? b=some { o with slots:=sl }) (free:∀ b o,b∉ch->s.heap.get? b=some o->H b=none->H' b=none)
 (there:∀ b o,b∉ch->s.heap.get? b=some o->∃ o',h'.get? b=some o')
 (tups:∀ b xs,H b=some (.tup xs)->H' b=some (.tup xs)) (frzs:∀ b o u,H b=some (.frz o u)->H' b=some (.frz o u)) (tbls:∀ b ps,H b=some (.tbl ps)->∃ more,H' b=some (.tbl (ps++more)))
 (ns:∀ m,s.heap.Ns X.env.locals m->h'.Ns X.env.locals m) (hok:HOk X.prog X.w H' h') (hg:AllBare g') :
 Inv X pins σ H' { s with heap:=h',gens:=g',drawn:=d',toks:=t' }:=by
 have neL:∀ b o,X.s₀.heap.get? b=some o->b≠X.env.locals:=fun b o e=>Nat.ne_of_lt (Nat.lt_of_lt_of_le (Heap.lt_size e) I.ok.above)
 have neC:∀ b o,X.s₀.heap.get? b=some o->b∉X.ex->b∉ch:=fun b o e hx hb=>by
  rcases (hch b hb).1 with z|z
  · exact hx z
  · exact absurd (Nat.lt_of_lt_of_le (Heap.lt_size e) z) (Nat.lt_irrefl _)
 have cellK:∀ x c,X.env.cells.lookup x=some c->∀ v,s.heap.IsCell c v->h'.IsCell c v:=fun x c e v ⟨o,ho,hd⟩=>by
  have nch:c∉ch:=fun z=>(hch c z).2.2.1 x c e rfl
  by_cases hc:c∈X.fs
  · obtain ⟨sl,q⟩:=slot c o (I.cne x c e) hc nch ho (I.freeC x c e)
    exact ⟨_,q,hd⟩
  · exact ⟨o,keep c o (I.cne x c e) hc nch ho (I.freeC x c e),hd⟩
 refine ⟨I.ok,I.os,hg,⟨fun b o e n hb hx=>?_,fun b o e n hb hx=>?_,fun b o e n hx=>?_,fun b o e hx=>?_,fun b xs e=>tups b xs (I.base.tups b xs e),fun b o xs e=>frzs b o xs (I.base.frzs b o xs e),fun b ps e=>?_⟩,?_,fun x c e=>?_,?_,fun x c e=>?_,fun p hp=>?_,hok,I.len⟩
 · exact keep b o (neL b o e) hb (neC b o e hx) (I.base.keep b o e n hb hx) (I.base.free b o e n hx)
 · obtain ⟨sl,e1⟩:=I.base.slot b o e n hb hx
   obtain ⟨sl',e2⟩:=slot b _ (neL b o e) hb (neC b o e hx) e1 (I.base.free b o e n hx)
   exact ⟨sl',e2⟩
 · obtain ⟨o',e1⟩:=I.base.there b o e hx
   exact free b o' (neC b o e hx) e1 (I.base.free b o e n hx)
 · obtain ⟨o',e1⟩:=I.base.there b o e hx
   exact there b o' (neC b o e hx) e1
 · obtain ⟨m1,e1⟩:=I.base.tbls b ps e
   obtain ⟨m2,e2⟩:=tbls b _ e1
   exact ⟨m1++m2,by rw [e2,Array.append_assoc]⟩
 · obtain ⟨m,hn,hl⟩:=I.loc
   refine ⟨m,ns m hn,fun i x v e1 e2 e3=>?_⟩
   obtain ⟨u,r,l⟩:=hl i x v e1 e2 e3
   refine ⟨u,r,?_⟩
   rcases l with l|⟨k,c,e,z⟩
   · exact .inl l
   · exact .inr ⟨k,c,e,cellK x c e _ z⟩
 · obtain ⟨v,z⟩:=I.cell x c e
   exact ⟨v,cellK x c e v z⟩
 · obtain ⟨m,⟨o,_,_,ho,_⟩,_⟩:=I.loc
   exact free _ o (fun z=>(hch _ z).2.1 rfl) ho I.free
 · obtain ⟨v,o,ho,hd⟩:=I.cell x c e
   exact free c o (fun z=>(hch c z).2.2.1 x c e rfl) ho (I.freeC x c e)
 · obtain ⟨e,n,ne,nf,d⟩:=I.pin p hp
   have nch:p.1∉ch:=fun z=>(hch p.1 z).2.2.2 p hp rfl
   exact ⟨keep p.1 p.2 ne nf nch e n,free p.1 p.2 nch e n,ne,nf,d⟩
theorem Inv.un {t':Nat}(I:Inv X pins σ H s)(u:Un X.fs [] H H' s.heap h')(hok:HOk X.prog X.w H' h'):Inv X pins σ H' { s with heap:=h',toks:=t' }:=by
 obtain ⟨m,⟨o,es,ep,ho,r⟩,_⟩:=id I.loc
 obtain ⟨sl,hL⟩:=u.any ho I.free (by simp)
 exact I.step (g':=s.gens) (d':=s.drawn) (ch:=[]) (fun _ z=>nomatch z) (fun b o _ hb _ e n=>u.keep b o e n hb (by simp)) (fun b o _ hb _ e n=>u.slot b o e n hb (by simp)) (fun b o _ e n=>u.free b o e n (by simp)) (fun b o _ e=>u.there b o e (by simp)) u.tups u.frzs u.tbls (fun m' hm=>by
  obtain ⟨o',es',ep',ho',r'⟩:=hm
  rw [ho] at ho';cases ho'
  exact ⟨_,es',ep',hL,r'⟩) hok I.bare
theorem Inv.call {g':Array GenState}{t':Nat}{d':Drawn}{ch:List Addr}(I:Inv X pins σ H s)(u:Un (frs X.stack) ch H H' s.heap h')(hok:HOk X.prog X.w H' h')(hg:AllBare g')
 (hch:∀ b∈ch,(b∈X.ex\/X.s₀.heap.objs.size<=b)/\b≠X.env.locals/\(∀ x c,X.env.cells.lookup x=some c->c≠b)/\∀ p∈X.pn++pins,p.1≠b) :
 Inv X pins σ H' { s with heap:=h',gens:=g',drawn:=d',toks:=t' }:=by
 obtain ⟨m,⟨o,es,ep,ho,r⟩,_⟩:=id I.loc
 obtain ⟨sl,hL⟩:=u.any ho I.free fun z=>(hch _ z).2.1 rfl
 exact I.step (ch:=ch) hch (fun b o hL hb hc e n=>u.keep b o e n (fun z=>(List.mem_cons.mp (I.stkSub b z)).elim hL hb) hc) (fun b o _ _ hc e n=>u.any e n hc) (fun b o hc e n=>u.free b o e n hc) (fun b o hc e=>u.there b o e hc) u.tups u.frzs u.tbls (fun m' hm=>by
  obtain ⟨o',es',ep',ho',r'⟩:=hm
  rw [ho] at ho';cases ho'
  exact ⟨_,es',ep',hL,r'⟩) hok hg
theorem Inv.turned {t':Nat}{it:Addr}(I:Inv X pins σ H s)(k:∀ b o,b≠it->s.heap.get? b=some o->h'.get? b=some o)(hn:H it=none)(hL:it≠X.env.locals)
 (h1:it∈X.ex\/X.s₀.heap.objs.size<=it) (h2:∀ x c,X.env.cells.lookup x=some c->c≠it) (h3:∀ p∈X.pn++pins,p.1≠it):Inv X pins σ H { s with heap:=h',toks:=t' }:=by
 have nit:∀ b u,H b=some u->b≠it:=fun b u e z=>by rw [z,hn] at e;cases e
 refine I.step (g':=s.gens) (d':=s.drawn) (ch:=[it]) (fun b hb=>?_) (fun b o _ _ hc e _=>k b o (fun z=>hc (by simp [z])) e) (fun b o _ _ hc e _=>⟨o.slots,k b o (fun z=>hc (by simp [z])) e⟩) (fun _ _ _ _ n=>n)
  (fun b o hc e=>⟨o,k b o (fun z=>hc (by simp [z])) e⟩) (fun _ _ e=>e) (fun _ _ _ e=>e) (fun b ps e=>⟨#[],by rw [e];simp⟩) (fun m hm=>?_) (fun b u e=>?_) I.bare
 · have e:b=it:=by simpa using hb
   subst e
   exact ⟨h1,hL,h2,h3⟩
 · obtain ⟨o,es,ep,ho,r⟩:=hm
   exact ⟨o,es,ep,k _ o (Ne.symm hL) ho,r⟩
 · refine (I.hok b u e).stay (fun c v hc q=>k c v ?_ q) (fun _ q=>q) fun _ _ q=>q
   rcases hc with z|z
   · rw [z];exact nit b u e
   · exact nit c _ z
theorem Inv.tok (I:Inv X pins σ H s)(t:Nat):Inv X pins σ H { s with toks:=t }:=I.un (h':=s.heap) (t':=t) Un.refl I.hok
theorem Inv.kept {t':Nat}(I:Inv X pins σ H s)(k:∀ b u,s.heap.get? b=some u->h'.get? b=some u):Inv X pins σ H { s with heap:=h',toks:=t' }:=I.un (Un.kept k) (I.hok.kept k)
theorem Inv.laid {a:Addr}{o:HO}{t':Nat}(I:Inv X pins σ H s)(k:∀ b u,s.heap.get? b=some u->h'.get? b=some u)(hp:s.heap.objs.size<=a)(new:ObjOk X.prog X.w (upd H a o) h' a o) :
 Inv X pins σ (upd H a o) { s with heap:=h',toks:=t' }:=I.un (Un.laid k hp (I.hok.fresh hp)) (I.hok.laid k hp new)
theorem Inv.write {x e:Addr}{o:HO}{t':Nat}(I:Inv X pins σ H s)(mu:Mut (H x))(he:e=x\/H e=some (.own x))(k:∀ b u,b≠e->s.heap.get? b=some u->h'.get? b=some u)(heo:∃ u,h'.get? e=some u)
 (new:ObjOk X.prog X.w (upd H x o) h' x o):Inv X pins σ (upd H x o) { s with heap:=h',toks:=t' }:=I.un (Un.write mu he k heo) (I.hok.write mu he k heo new)
theorem Inv.weak {σ':List (Option V)}(I:Inv X pins σ H s)(hl:σ'.length=σ.length)(w:∀ (i:Nat) v,σ'[i]?=some (some v)->σ[i]?=some (some v)):Inv X pins σ' H s :=
 ⟨I.ok,I.os,I.bare,I.base,let ⟨m,hn,hl'⟩:=I.loc;⟨m,hn,fun i x v e1 e2 e3=>hl' i x v e1 (w i v e2) e3⟩,I.cell,I.free,I.freeC,I.pin,I.hok,hl.trans I.len⟩
theorem Inv.pins_of {pins':List (Addr×Obj)}(I:Inv X pins σ H s)(h:∀ p∈pins',s.heap.get? p.1=some p.2/\H p.1=none/\p.1≠X.env.locals/\p.1∉X.fs/\∀ v,p.2.data≠.cell v):Inv X pins' σ H s :=
 ⟨I.ok,I.os,I.bare,I.base,I.loc,I.cell,I.free,I.freeC,fun p hp=>(List.mem_append.mp hp).elim (fun z=>I.pin p (List.mem_append_left _ z)) (h p),I.hok,I.len⟩
theorem RD {N:List Str}(hN:N.Nodup){i j:Nat}{x:Str}(a:N[i]?=some x)(b:N[j]?=some x):i=j:=by
 obtain ⟨h1,e1⟩:=List.getElem?_eq_some_iff.mp a
 obtain ⟨h2,e2⟩:=List.getElem?_eq_some_iff.mp b
 exact (List.getElem_inj hN).mp (e1.trans e2.symm)
theorem MD {M:Model}{A:Around}{E:Value->Shared->Prop}{i:Nat}{x:Str}{v:V}{u:Value}{Q:Unit->Shared->Prop}(I:Inv X pins σ H s)(hN:X.N.Nodup)(hi:X.N[i]?=some x)(hx:Loc X.env.scope x)(r:RelV v u)
 (h:∀ s',Inv X pins (σ.set i (some v)) H s'->(∃ a,Heap.SameBut a s.heap s'.heap/\(a=X.env.locals\/X.env.cells.lookup x=some a))->Q () s') (hf:X.fn x=true\/X.env.scope.names.lookup x=some .local:=by first|exact .inl rfl|exact .inr rfl|assumption):wpAny M A (storeName X.env x u) Q E s:=by
 obtain ⟨m,hn,hl⟩:=id I.loc
 have hcls:(X.env.scope.kind==.class||(X.env.scope.kind==.module&&X.env.locals != X.env.globals))=false:=by rw [I.ok.kind];rfl
 have hiσ:i<σ.length:=by rw [I.len];exact (List.getElem?_eq_some_iff.mp hi).1
 have cne:=I.cne
 have tracked:∀ {a:Addr} {h':Heap},(∃ o,s.heap.get? a=some o/\H a=none)->Heap.SameBut a s.heap h'->HOk X.prog X.w H h':=fun {a h'} ha hs b ob e=>by
  obtain ⟨_,_,hfree⟩:=ha
  refine (I.hok b ob e).stay (fun c w' hc q=>(hs.2 c ?_).trans q) (fun _ q=>q) fun _ _ q=>q
  rintro rfl
  rcases hc with rfl|hc
  · rw [hfree] at e;cases e
  · rw [hfree] at hc;cases hc
 rcases hx with hk|hk
 · refine wpAny_storeName_local hk hn (fun h' hn' hs=>?_) hcls
   obtain ⟨oL,_,_,hoL,_⟩:=id hn
   refine h _ ⟨I.ok,I.os,I.bare,⟨fun b o e n hb hx=>?_,fun b o e n hb hx=>?_,I.base.free,fun b o e hx=>?_,I.base.tups,I.base.frzs,I.base.tbls⟩,⟨_,hn',fun j y v' e1 e2 e3=>?_⟩,fun y c e=>?_,I.free,I.freeC,fun p hp=>?_,tracked ⟨oL,hoL,I.free⟩ hs,by simpa using I.len⟩ ⟨_,hs,.inl rfl⟩
   · exact (hs.2 b (Nat.ne_of_lt (Nat.lt_of_lt_of_le (Heap.lt_size e) I.ok.above))).trans (I.base.keep b o e n hb hx)
   · obtain ⟨sl,e1⟩:=I.base.slot b o e n hb hx
     exact ⟨sl,(hs.2 b (Nat.ne_of_lt (Nat.lt_of_lt_of_le (Heap.lt_size e) I.ok.above))).trans e1⟩
   · obtain ⟨o',e1⟩:=I.base.there b o e hx
     exact ⟨o',(hs.2 b (Nat.ne_of_lt (Nat.lt_of_lt_of_le (Heap.lt_size e) I.ok.above))).trans e1⟩
   · by_cases hj:j=i
     · subst hj
       rw [hi] at e1;cases e1
       rw [List.getElem?_set_self hiσ] at e2
       cases e2
       exact ⟨u,r,.inl ⟨hk,by simp⟩⟩
     · rw [List.getElem?_set_ne (Ne.symm hj)] at e2
       obtain ⟨u',r',q⟩:=hl j y v' e1 e2 e3
       refine ⟨u',r',?_⟩
       rcases q with ⟨k,e⟩|⟨k,c,e,z⟩
       · refine .inl ⟨k,?_⟩
         have:y≠x:=fun e=>hj (RD hN e1 (e▸hi))
         simp [this,e]
       · exact .inr ⟨k,c,e,z.sameBut hs (cne y c e)⟩
   · obtain ⟨w',z⟩:=I.cell y c e
     exact ⟨w',z.sameBut hs (cne y c e)⟩
   · obtain ⟨e,n,ne,nf,d⟩:=I.pin p hp
     exact ⟨(hs.2 p.1 ne).trans e,n,ne,nf,d⟩
 · have hfn:X.fn x=true:=by
    rcases hf with z|z
    · exact z
    · rw [z] at hk;cases hk
   obtain ⟨c,hc⟩:=I.ok.has x (.inl hk)
   obtain ⟨w',z⟩:=I.cell x c hc
   refine wpAny_storeName_cell I.ok.kind hk hc z (fun h' hc' hs=>?_)
   obtain ⟨oc,hoc,hocd⟩:=id z
   refine h { s with heap:=h' } ⟨I.ok,I.os,I.bare,⟨fun b o e n hb hx=>?_,fun b o e n hb hx=>?_,I.base.free,fun b o e hx=>?_,I.base.tups,I.base.frzs,I.base.tbls⟩,⟨m,hn.sameBut hs (Ne.symm (cne x c hc)),fun j y v' e1 e2 e3=>?_⟩,fun y c' e=>?_,I.free,I.freeC,fun p hp=>?_,tracked ⟨oc,hoc,I.freeC x c hc⟩ hs,by simpa using I.len⟩ ⟨c,hs,.inr hc⟩
   · exact (hs.2 b (Nat.ne_of_lt (Nat.lt_of_lt_of_le (Heap.lt_size e) (I.ok.cab x c hfn hc)))).trans (I.base.keep b o e n hb hx)
   · obtain ⟨sl,e1⟩:=I.base.slot b o e n hb hx
     exact ⟨sl,(hs.2 b (Nat.ne_of_lt (Nat.lt_of_lt_of_le (Heap.lt_size e) (I.ok.cab x c hfn hc)))).trans e1⟩
   · obtain ⟨o',e1⟩:=I.base.there b o e hx
     exact ⟨o',(hs.2 b (Nat.ne_of_lt (Nat.lt_of_lt_of_le (Heap.lt_size e) (I.ok.cab x c hfn hc)))).trans e1⟩
   · by_cases hj:j=i
     · subst hj
       rw [hi] at e1;cases e1
       rw [List.getElem?_set_self hiσ] at e2
       cases e2
       exact ⟨u,r,.inr ⟨.inl hk,c,hc,hc'⟩⟩
     · rw [List.getElem?_set_ne (Ne.symm hj)] at e2
       obtain ⟨u',r',q⟩:=hl j y v' e1 e2 e3
       refine ⟨u',r',?_⟩
       rcases q with q|⟨k,c',e,z'⟩
       · exact .inl q
       · refine .inr ⟨k,c',e,z'.sameBut hs ?_⟩
         rintro rfl
         exact hj (RD hN e1 (I.ok.inj _ _ _ e hc▸hi))
   · by_cases hcc:c'=c
     · subst hcc;exact ⟨_,hc'⟩
     · obtain ⟨w2,z2⟩:=I.cell y c' e
       exact ⟨w2,z2.sameBut hs hcc⟩
   · obtain ⟨e,n,ne,nf,d⟩:=I.pin p hp
     refine ⟨(hs.2 p.1 ?_).trans e,n,ne,nf,d⟩
     intro q
     rw [q,hoc] at e
     have q':oc=p.2:=Option.some.inj e
     exact d w' (by rw [<- q'];exact hocd)
theorem GQ {M:Model}{A:Around}{E:Value->Shared->Prop}{i:Nat}{x:Str}{v:V}{u:Value}{Q:Unit->Shared->Prop}(I:Inv X pins σ H s)(hN:X.N.Nodup)(hi:X.N[i]?=some x)(hx:Loc X.env.scope x)(r:RelV v u)
 (h:∀ s',Inv X pins (σ.set i (some v)) H s'->Q () s') (hf:X.fn x=true\/X.env.scope.names.lookup x=some .local:=by first|exact .inl rfl|exact .inr rfl|assumption):wpAny M A (storeName X.env x u) Q E s :=
 MD I hN hi hx r (fun s' I' _=>h s' I') hf
theorem Inv.call' {s':Shared}{ch:List Addr}(I:Inv X pins σ H s)(ho:s'.os=s.os)(u:Un (frs X.stack) ch H H' s.heap s'.heap)(hok:HOk X.prog X.w H' s'.heap)(hg:AllBare s'.gens)
 (hch:∀ b∈ch,(b∈X.ex\/X.s₀.heap.objs.size<=b)/\b≠X.env.locals/\(∀ x c,X.env.cells.lookup x=some c->c≠b)/\∀ p∈X.pn++pins,p.1≠b):Inv X pins σ H' s':=by
 obtain ⟨h',g',d',t',o'⟩:=s'
 have e:o'=s.os:=ho
 subst e
 exact I.call (g':=g') (t':=t') (d':=d') u hok hg hch
end
abbrev XK:=Value->Option Addr->Hp->Prop
abbrev St:=List (Option V)
abbrev VK:=V->Hp->Prop
abbrev TE:=St->Hp->VK->Prop
abbrev TT:=St->Hp->(Bool->Hp->Prop)->Prop
abbrev TA:=St->Hp->(List V->Hp->Prop)->Prop
structure Ends where
 nx:St->Hp->Prop
 rt:VK
 bk:St->Hp->Prop:=fun _ _=>False
 ct:St->Hp->Prop:=fun _ _=>False
abbrev TS:=Ends->St->Hp->Prop
def EP (X:Cx)(pins:List (Addr×Obj))(σ:St)(Q:VK)(u:Value)(s':Shared):Prop:=∃ v H',Inv X pins σ H' s'/\RelV v u/\Q v H'
def TP (X:Cx)(pins:List (Addr×Obj))(σ:St)(Q:Bool->Hp->Prop)(b:Bool)(s':Shared):Prop:=∃ H',Inv X pins σ H' s'/\Q b H'
def AP (X:Cx)(pins:List (Addr×Obj))(σ:St)(Q:List V->Hp->Prop)(us:List Value)(s':Shared):Prop:=∃ vs H',Inv X pins σ H' s'/\Vals vs us/\Q vs H'
def SP (X:Cx)(pins:List (Addr×Obj))(D:Ends)(f:Flow)(s':Shared):Prop :=
 match f with
 | .next=>∃ σ' H',Inv X pins σ' H' s'/\D.nx σ' H'
 | .brk=>∃ σ' H',Inv X pins σ' H' s'/\D.bk σ' H'
 | .cont=>∃ σ' H',Inv X pins σ' H' s'/\D.ct σ' H'
 | .ret u=>∃ v σ' H',Inv X pins σ' H' s'/\RelV v u/\D.rt v H'
def PE (X:Cx)(e:Expr)(t:TE):Prop :=
 ∀ (pins:List (Addr×Obj)) (s:Shared) (σ:St) (H:Hp) (Q:VK),Inv X pins σ H s->t σ H Q->wpAny (model X.prog X.w) X.A (eval e X.env) (EP X pins σ Q) X.xe s
def PT (X:Cx)(e:Expr)(t:TT):Prop :=
 ∀ (pins:List (Addr×Obj)) (s:Shared) (σ:St) (H:Hp) (Q:Bool->Hp->Prop),Inv X pins σ H s->t σ H Q->wpAny (model X.prog X.w) X.A (isTrue e X.env (eval e X.env)) (TP X pins σ Q) X.xe s
def PW (X:Cx)(e:Expr)(t:TT):Prop :=
 ∀ (whole:Sem Value) (pins:List (Addr×Obj)) (s:Shared) (σ:St) (H:Hp) (Q:Bool->Hp->Prop),Inv X pins σ H s->t σ H Q->wpAny (model X.prog X.w) X.A (isTrue e X.env whole) (TP X pins σ Q) X.xe s
theorem PW.pt {X:Cx}{e:Expr}{t:TT}(h:PW X e t):PT X e t:=h _
def PA (X:Cx)(es:List Expr)(t:TA):Prop :=
 ∀ (pos:Pos) (pins:List (Addr×Obj)) (s:Shared) (σ:St) (H:Hp) (Q:List V->Hp->Prop),Inv X pins σ H s->t σ H Q->wpAny (model X.prog X.w) X.A (spliced (backTo pos (starEach es X.env))) (AP X pins σ Q) X.xe s
def PS (X:Cx)(st:Stmt)(t:TS):Prop :=
 ∀ (pins:List (Addr×Obj)) (s:Shared) (σ:St) (H:Hp) (D:Ends),Inv X pins σ H s->t D σ H->wpAny (model X.prog X.w) X.A (exec st X.env) (SP X pins D) X.xe s
def PSs (X:Cx)(st:List Stmt)(t:TS):Prop :=
 ∀ (pins:List (Addr×Obj)) (s:Shared) (σ:St) (H:Hp) (D:Ends),Inv X pins σ H s->t D σ H->wpAny (model X.prog X.w) X.A (execs st X.env) (SP X pins D) X.xe s
theorem thn {α:Type}{t:Sem α}{Q Q':α->Shared->Prop}{M:Model}{A:Around}{E:Value->Shared->Prop}{s:Shared}(h:wpAny M A t Q E s)(hQ:∀ a s,Q a s->Q' a s):wpAny M A t Q' E s:=wpAny_mono h hQ fun _ _ x=>x
section
variable {X:Cx}
noncomputable def SO (i:Nat):TE:=fun σ H Q=>∃ v,σ[i]?=some (some v)/\Q v H
noncomputable def tC (v:V):TE:=fun _ H Q=>Q v H
theorem TD {i:Nat}{x:Str}{pos:Pos}(hN:X.N[i]?=some x)(hv:Vis X.env.scope x)(hd:(x==("__debug__" : Str))=false:=by decide) (hcd:(x==("__classdict__" : Str))=false:=by decide):PE X (.Name x pos) (SO i):=by
 intro pins s σ H Q I h
 obtain ⟨v,e,h⟩:=h
 obtain ⟨m,hn,hl⟩:=I.loc
 obtain ⟨u,r,l⟩:=hl i x v hN e hv
 have fin:EP X pins σ Q u s:=⟨v,H,I,r,h⟩
 rcases l with ⟨hk,hm⟩|⟨hk,c,hc,hcell⟩
 · exact wpAny_Name (wpAny_loadName_local I.ok.kind hk hn hm fin) hd
 · rcases hk with hk|hk
   · exact wpAny_Name (wpAny_loadName_cell I.ok.kind hk hc hcell fin) hd
   · exact wpAny_Name (wpAny_loadName_free I.ok.kind hk hc hcell fin hcd) hd
theorem Y5 {i j pos}:PE X (.Constant (.int i) j pos) (tC (.int i)):=fun _ _ _ H _ I h=>wpAny_Constant_int ⟨.int i,H,I.tok _,⟨_,rfl⟩,h⟩
theorem Q3f {b j pos}:PE X (.Constant (.bool b) j pos) (tC (.bl b)):=fun _ _ _ H _ I h=>Constant_bool ⟨.bl b,H,I,rfl,h⟩
theorem J9d {x j pos}:PE X (.Constant (.str x) j pos) (tC (.str x)):=fun _ _ _ H _ I h=>Calls.Constant_str ⟨.str x,H,I.tok _,⟨_,rfl⟩,h⟩
def Gl (X:Cx)(x:Str):Prop:=X.env.kindOf x=some .globalImplicit
theorem VJ {E:Value->Shared->Prop}{pins:List (Addr×Obj)}{s:Shared}{σ:St}{H:Hp}{x:Str}{u:Value}{pos:Pos}{Q:Value->Shared->Prop}(I:Inv X pins σ H s)(hg:Gl X x)(hm:X.mg x=some u)(h:Q u s)
 (hd:(x==("__debug__" : Str))=false:=by decide):wpAny (model X.prog X.w) X.A (eval (.Name x pos) X.env) Q E s :=
 Calls.Name_function_global I.ok.kind hg (Calls.loadGlobal_global (by rw [I.ok.glob];exact I.mod.glob.keeps I.bk) hm h) hd
theorem OI {E:Value->Shared->Prop}{pins:List (Addr×Obj)}{s:Shared}{σ:St}{H:Hp}{x:Str}{u:Value}{pos:Pos}{Q:Value->Shared->Prop}(I:Inv X pins σ H s)(hg:Gl X x)(hm:X.mg x=none)(hv:bootBuiltins x=some u)(h:Q u s)
 (hn:x≠"__name__":=by decide) (hd:(x==("__debug__" : Str))=false:=by decide):wpAny (model X.prog X.w) X.A (eval (.Name x pos) X.env) Q E s:=by
 obtain ⟨mb,h1,h2⟩:=I.mod.blt
 exact Calls.Name_function_global I.ok.kind hg (Calls.loadGlobal_builtin (by rw [I.ok.glob];exact I.mod.glob.keeps I.bk) hm (by rw [I.ok.blt];exact h1.keeps I.bk) ((h2 x hn).trans hv) h) hd
variable {a b:Expr}{pos:Pos}
variable {tA tB':TT}{rest:List Expr}
noncomputable def Q2s (t u:TT):TT:=fun σ H Q=>t σ H fun c H1=>if c=true then u σ H1 Q else Q false H1
noncomputable def tOr (t u:TT):TT:=fun σ H Q=>t σ H fun c H1=>if c=true then Q true H1 else u σ H1 Q
noncomputable def Q5i (t:TT):TT:=fun σ H Q=>t σ H fun c H1=>Q (!c) H1
theorem J4n (ha:PT X a tA):PW X (.BoolOp .And [a] pos) tA:=by
 intro wh pins s σ H Q I h
 refine isTrue_and (thn (ha pins s σ H Q I h) fun c s1 e=>?_)
 cases c with
 | true=>exact isTrue_and_nil e
 | false=>exact e
theorem J8w (ha:PT X a tA):PW X (.BoolOp .Or [a] pos) tA:=by
 intro wh pins s σ H Q I h
 refine isTrue_or (thn (ha pins s σ H Q I h) fun c s1 e=>?_)
 cases c with
 | false=>exact isTrue_or_nil e
 | true=>exact e
theorem J8x (ha:PT X a tA)(hb:PW X (.BoolOp .And (b::rest) pos) tB'):PW X (.BoolOp .And (a::b::rest) pos) (Q2s tA tB'):=by
 intro wh pins s σ H Q I h
 refine isTrue_and (thn (ha pins s σ H _ I h) fun c s1 ⟨H1,I1,q1⟩=>?_)
 cases c with
 | true=>exact hb wh pins s1 σ H1 Q I1 q1
 | false=>exact ⟨H1,I1,q1⟩
theorem Q3d (ha:PT X a tA)(hb:PW X (.BoolOp .Or (b::rest) pos) tB'):PW X (.BoolOp .Or (a::b::rest) pos) (tOr tA tB'):=by
 intro wh pins s σ H Q I h
 refine isTrue_or (thn (ha pins s σ H _ I h) fun c s1 ⟨H1,I1,q1⟩=>?_)
 cases c with
 | true=>exact ⟨H1,I1,q1⟩
 | false=>exact hb wh pins s1 σ H1 Q I1 q1
theorem J8y (ha:PT X a tA):PT X (.UnaryOp .Not a pos) (Q5i tA):=by
 intro pins s σ H Q I h
 exact isTrue_not (ha pins s σ H (fun c H1=>Q (!c) H1) I h)
end
def SqL (K:Fg)(H:Hp)(a:Addr)(xs:List V):Prop :=
 Rd H a (.lst xs) \/
  ∃ (o:Obj) (its:Array Value) (n:Nat),K.lookup a=some o/\o.cls=.type "list"/\o.dict=none/\o.data=.seq its n/\its.size<=sizeLine/\Vals xs its.toList
def SqT (K:Fg)(H:Hp)(a:Addr)(xs:List V):Prop :=
 Rd H a (.tup xs) \/
  ∃ (o:Obj) (its:Array Value) (n:Nat),K.lookup a=some o/\o.cls=.type "tuple"/\o.data=.seq its n/\its.size<=sizeLine/\Vals xs its.toList
def Q5z:Value->Option V
 | .none=>some .non
 | .bool b=>some (.bl b)
 | .int i _=>some (.int i)
 | .str x _=>some (.str x)
 | .bytes b _=>some (.byt b)
 | .float b _=>some (.flt b)
 | .ref a=>some (.ref a)
 | .type n=>some (.ty n)
 | _=>none
theorem RelV.abs {x:V}{u:Value}(r:RelV x u):Q5z u=some x:=by
 cases x with
 | non=>cases r;rfl
 | bl _=>cases r;rfl
 | int _=>obtain ⟨t,rfl⟩:=r;rfl
 | str _=>obtain ⟨t,rfl⟩:=r;rfl
 | byt _=>obtain ⟨t,rfl⟩:=r;rfl
 | flt _=>obtain ⟨t,rfl⟩:=r;rfl
 | ref _=>cases r;rfl
 | ty _=>cases r;rfl
theorem RelV.inj {x y:V}{u:Value}(r:RelV x u)(q:RelV y u):x=y:=Option.some.inj (r.abs.symm.trans q.abs)
theorem Vals.inj:∀ {xs ys:List V} {us:List Value},Vals xs us->Vals ys us->xs=ys
 | _,_,_,.nil,.nil=>rfl
 | _,_,_,.cons r t,.cons r' t'=>by rw [r.inj r',Vals.inj t t']
section
variable {X:Cx}{pins:List (Addr×Obj)}{σ:St}{H:Hp}{s:Shared}{a:Addr}{xs ys:List V}
theorem SqL.of (h:H a=some (.lst xs)):SqL K H a xs:=.inl (.inl h)
theorem SqT.of (h:H a=some (.tup xs)):SqT K H a xs:=.inl (.inl h)
theorem Inv.list (I:Inv X pins σ H s)(h:SqL X.K H a xs):∃ its:List Value,Vals xs its/\PlainL s.heap a its.toArray/\xs.length<=sizeLine:=by
 rcases h with h|⟨o,its,n,hk,hc,hd,hs,hz,r⟩
 · obtain ⟨z,its,n,r,e⟩:=h.ok I.hok
   exact ⟨its,r,⟨_,n,e,rfl,rfl,rfl⟩,z⟩
 · refine ⟨its.toList,r,⟨o,n,I.kIn a o hk,hc,hd,by simpa using hs⟩,?_⟩
   have e:=r.length
   simp only [Array.length_toList] at e
   omega
theorem Inv.tuple (I:Inv X pins σ H s)(h:SqT X.K H a xs):∃ its:List Value,Vals xs its/\IsTup s.heap a its.toArray/\xs.length<=sizeLine:=by
 rcases h with h|⟨o,its,n,hk,hc,hs,hz,r⟩
 · obtain ⟨z,its,r,p⟩:=h.ok I.hok
   exact ⟨its,r,p,z⟩
 · refine ⟨its.toList,r,⟨o,I.kIn a o hk,hc,n,by simpa using hs⟩,?_⟩
   have e:=r.length
   simp only [Array.length_toList] at e
   omega
theorem Inv.list_inj (I:Inv X pins σ H s)(h:SqL X.K H a xs)(h':SqL X.K H a ys):xs=ys:=by
 obtain ⟨its,r,⟨o,n,e,_,_,d⟩,_⟩:=I.list h
 obtain ⟨its',r',⟨o',n',e',_,_,d'⟩,_⟩:=I.list h'
 rw [e] at e';cases e'
 rw [d] at d'
 injection d' with d1 _
 have:its=its':=by simpa using congrArg Array.toList d1
 subst this
 exact r.inj r'
theorem Inv.tuple_inj (I:Inv X pins σ H s)(h:SqT X.K H a xs)(h':SqT X.K H a ys):xs=ys:=by
 obtain ⟨its,r,⟨o,e,_,n,d⟩,_⟩:=I.tuple h
 obtain ⟨its',r',⟨o',e',_,n',d'⟩,_⟩:=I.tuple h'
 rw [e] at e';cases e'
 rw [d] at d'
 injection d' with d1 _
 have:its=its':=by simpa using congrArg Array.toList d1
 subst this
 exact r.inj r'
end
abbrev Cx.wish (X:Cx)(E:Value->Shared->Prop):Cx:={ X with xe:=E }
abbrev Cx.nox (X:Cx):Cx:=X.wish fun _ _=>False
theorem Cx.Ok.wish {X:Cx}(ok:X.Ok)(E:Value->Shared->Prop):(X.wish E).Ok :=
 ⟨ok.mod,ok.kind,ok.glob,ok.blt,ok.above,ok.inj,ok.has,ok.cab,ok.hd,ok.frames,ok.stk,ok.exf,ok.bs,ok.bsz,ok.noex,ok.exfs,ok.funs,ok.frf⟩
theorem Cx.Ok.unwish {X:Cx}{E:Value->Shared->Prop}(ok:(X.wish E).Ok):X.Ok :=
 ⟨ok.mod,ok.kind,ok.glob,ok.blt,ok.above,ok.inj,ok.has,ok.cab,ok.hd,ok.frames,ok.stk,ok.exf,ok.bs,ok.bsz,ok.noex,ok.exfs,ok.funs,ok.frf⟩
section
variable {X:Cx}{pins:List (Addr×Obj)}{σ:St}{H:Hp}{s:Shared}{E:Value->Shared->Prop}
theorem Inv.wish (I:Inv X pins σ H s)(E:Value->Shared->Prop):Inv (X.wish E) pins σ H s:=⟨I.ok.wish E,I.os,I.bare,I.base,I.loc,I.cell,I.free,I.freeC,I.pin,I.hok,I.len⟩
theorem Inv.unwish (I:Inv (X.wish E) pins σ H s):Inv X pins σ H s:=⟨I.ok.unwish,I.os,I.bare,I.base,I.loc,I.cell,I.free,I.freeC,I.pin,I.hok,I.len⟩
theorem SP.unwish {D:Ends}{f:Flow}{s':Shared}(h:SP (X.wish E) pins D f s'):SP X pins D f s':=by
 cases f with
 | next=>obtain ⟨σ',H',I,q⟩:=h;exact ⟨σ',H',I.unwish,q⟩
 | brk=>obtain ⟨σ',H',I,q⟩:=h;exact ⟨σ',H',I.unwish,q⟩
 | cont=>obtain ⟨σ',H',I,q⟩:=h;exact ⟨σ',H',I.unwish,q⟩
 | ret u=>obtain ⟨v,σ',H',I,r,q⟩:=h;exact ⟨v,σ',H',I.unwish,r,q⟩
theorem PSs.nox {st:List Stmt}{t:TS}(h:PSs X.nox st t):PSs X st t:=fun pins s σ H D I hw =>
 wpAny_mono (h pins s σ H D (I.wish _) hw) (fun _ _ q=>q.unwish) fun _ _ z=>False.elim z
end
section
variable {X:Cx}{st:Stmt}{rest:List Stmt}{t u:TS}{e:Expr}{te:TE}{pos:Pos}
noncomputable def Q2o:TS:=fun D σ H=>D.nx σ H
noncomputable def Q5f (t u:TS):TS:=fun D σ H=>t { D with nx:=u D } σ H
theorem IR:PSs X [] Q2o:=fun _ _ σ H _ I h=>wpAny_execs_nil ⟨σ,H,I,h⟩
theorem AA (h1:PS X st t)(h2:PSs X rest u):PSs X (st::rest) (Q5f t u):=by
 intro pins s σ H D I h
 refine wpAny_execs_cons (thn (h1 pins s σ H { D with nx:=u D } I h) fun f s1 q=>?_)
 cases f with
 | next =>
   obtain ⟨σ',H',I',q⟩:=q
   exact h2 pins s1 σ' H' D I' q
 | ret v=>exact q
 | brk=>exact q
 | cont=>exact q
theorem CH (h1:PS X st t):PSs X [st] t:=by
 intro pins s σ H D I h
 refine wpAny_execs_cons (thn (h1 pins s σ H D I h) fun f s1 q=>?_)
 cases f with
 | next=>exact wpAny_execs_nil q
 | ret v=>exact q
 | brk=>exact q
 | cont=>exact q
theorem Inv.quiet {pins:List (Addr×Obj)}{σ:St}{H:Hp}{s:Shared}(I:Inv X pins σ H s):interactive X.env=false:=by simp [interactive,I.ok.kind]
noncomputable def J7d (te:TE):TS:=fun D σ H=>te σ H fun _ H1=>D.nx σ H1
theorem J4q (he:PE X e te)(hs:swapsWith e none pos.line X.env=pure false:=by rfl):PS X (.Expr e pos) (J7d te):=by
 intro pins s σ H D I h
 exact wpAny_Expr_any (thn (he pins s σ H _ I h) fun v s1 ⟨x,H1,I1,r1,q1⟩=>⟨σ,H1,I1,q1⟩) I.quiet hs
noncomputable def Q5g (te:TE):TS:=fun D σ H=>te σ H D.rt
theorem EW (he:PE X e te):PS X (.Return (some e) pos) (Q5g te):=by
 intro pins s σ H D I h
 exact wpAny_Return_some (thn (he pins s σ H _ I h) fun v s1 ⟨x,H1,I1,r1,q1⟩=>⟨x,σ,H1,I1,r1,q1⟩)
noncomputable def Q5k (c:TT)(t u:TS):TS:=fun D σ H=>c σ H fun b H1=>if b=true then t D σ H1 else u D σ H1
theorem UZ {c:Expr}{a b:List Stmt}{tc:TT}(hc:PT X c tc)(ha:PSs X a t)(hb:PSs X b u):PS X (.If c a b pos) (Q5k tc t u):=by
 intro pins s σ H D I h
 refine wpAny_If (thn (hc pins s σ H _ I h) fun d s1 ⟨H1,I1,q1⟩=>?_)
 cases d with
 | true=>exact ha pins s1 σ H1 D I1 q1
 | false=>exact hb pins s1 σ H1 D I1 q1
end
abbrev TG:=V->St->Hp->(St->Hp->Prop)->Prop
abbrev TGs:=List V->St->Hp->(St->Hp->Prop)->Prop
def PG (X:Cx)(target:Expr)(t:TG):Prop :=
 ∀ (pins:List (Addr×Obj)) (s:Shared) (σ:St) (H:Hp) (v:V) (u:Value) (Q:St->Hp->Prop),Inv X pins σ H s->RelV v u->t v σ H Q ->
  wpAny (model X.prog X.w) X.A (assign target X.env u) (fun _ s'=>∃ σ' H',Inv X pins σ' H' s'/\Q σ' H') X.xe s
def PGs (X:Cx)(ts:List Expr)(t:TGs):Prop :=
 ∀ (pins:List (Addr×Obj)) (s:Shared) (σ:St) (H:Hp) (vs:List V) (us:List Value) (Q:St->Hp->Prop),Inv X pins σ H s->Vals vs us->t vs σ H Q ->
  wpAny (model X.prog X.w) X.A (assignInOrder ((assignEach ts X.env).map (·.2)) us) (fun _ s'=>∃ σ' H',Inv X pins σ' H' s'/\Q σ' H') X.xe s
abbrev Q1x:=V->V->V->Hp->(Hp->Prop)->Prop
def Q2a (X:Cx)(t:Q1x):Prop :=
 ∀ (pins:List (Addr×Obj)) (s:Shared) (σ:St) (H:Hp) (o i v:V) (ov iv u:Value) (Q:Hp->Prop),Inv X pins σ H s->RelV o ov->RelV i iv->RelV v u->t o i v H Q ->
  wpAny (model X.prog X.w) X.A (setItem ov iv u) (fun _ s'=>∃ H',Inv X pins σ H' s'/\Q H') X.xe s
section
variable {X:Cx}{pos:Pos}
noncomputable def RS (i:Nat):TG:=fun v σ H Q=>Q (σ.set i (some v)) H
theorem pg_name {i:Nat} {x:Str} (hN:X.N.Nodup) (hi:X.N[i]?=some x) (hx:Loc X.env.scope x) (hf:X.fn x=true\/X.env.scope.names.lookup x=some .local:=by first|exact .inl rfl|exact .inr rfl|assumption):PG X (.Name x pos) (RS i):=by
 intro pins s σ H v u Q I r h
 exact wpAny_assign_Name (GQ I hN hi hx r (fun s' I'=>⟨_,H,I',h⟩) hf)
noncomputable def Q3y:TGs:=fun vs σ H Q=>vs=[]/\Q σ H
noncomputable def J7n (t:TG)(u:TGs):TGs:=fun vs σ H Q=>∃ v r,vs=v::r/\t v σ H fun σ' H'=>u r σ' H' Q
theorem Y9:PGs X [] Q3y:=by
 intro pins s σ H vs us Q I r h
 obtain ⟨e,h⟩:=h
 subst e
 cases r
 exact assignInOrder_nil ⟨σ,H,I,h⟩
theorem J8 {e:Expr}{es:List Expr}{t:TG}{u:TGs}(h1:PG X e t)(h2:PGs X es u)
 (hs:(assignEach (e::es) X.env).map (·.2)=assign e X.env::(assignEach es X.env).map (·.2):=by rfl):PGs X (e::es) (J7n t u):=by
 intro pins s σ H vs us Q I r h
 obtain ⟨v,vr,e1,h⟩:=h
 subst e1
 cases r with
 | cons r rr =>
   rw [hs]
   refine assignInOrder_cons (thn (h1 pins s σ H _ _ _ I r h) fun _ s1 ⟨σ1,H1,I1,q1⟩=>?_)
   exact h2 pins s1 σ1 H1 _ _ Q I1 rr q1
noncomputable def Q0g (K:Fg)(n:Nat)(t:TGs):TG:=fun v σ H Q=>∃ a xs,v=.ref a/\SqT K H a xs/\xs.length=n/\t xs σ H Q
theorem J9c {es:List Expr}{k:Nat}{t:TGs}{n:Nat}(hc:X.calm=true)(h:PGs X es t)
 (hn:(assignEach es X.env).length=n:=by rfl) (hst:(assignEach es X.env).findIdx? (·.1)=none:=by rfl):PG X (.Tuple es k pos) (Q0g X.K n t):=by
 intro pins s σ H v u Q I r hw
 obtain ⟨a,xs,e1,hq,hl,hw⟩:=hw
 subst e1
 cases r
 obtain ⟨its,rv,ht,hz⟩:=I.tuple hq
 refine assign_Tuple_tuple (I.ok.hd hc) ht (by simp [hn,<- hl,rv.length]) hst fun h' hx=>?_
 have I1:Inv X pins σ H { s with heap:=h' }:=I.kept (t':=s.toks) fun b o e=>hx b o (Nat.ne_of_lt (Heap.lt_size e)) e
 exact h pins _ σ H xs _ Q I1 (by simpa using rv) hw
noncomputable def Q3w (to ti:TE)(t:Q1x):TG:=fun v σ H Q=>to σ H fun o H1=>ti σ H1 fun i H2=>t o i v H2 fun H3=>Q σ H3
theorem SZ {o i:Expr}{to ti:TE}{t:Q1x}(ho:PE X o to)(hi:PE X i ti)(hs:Q2a X t)
 (ha:∀ v,assign (.Subscript o i pos) X.env v=(do
  let ov <- holding [v] (eval o X.env)
  let iv <- holding [v,ov] (eval i X.env)
  standAt pos
  holding [v,ov,iv] (setItem ov iv v)
  release [v,ov,iv] []):=by intro _;rfl):PG X (.Subscript o i pos) (Q3w to ti t):=by
 intro pins s σ H v u Q I r h
 rw [ha]
 refine wpAny_bind (wpAny_holding (thn (ho pins s σ H _ I h) fun ov s1 ⟨x,H1,I1,r1,q1⟩=>?_))
 refine wpAny_bind (wpAny_holding (thn (hi pins s1 σ H1 _ I1 q1) fun iv s2 ⟨y,H2,I2,r2,q2⟩=>?_))
 refine wpAny_bind (wpAny_standAt (wpAny_bind (wpAny_holding (thn (hs pins s2 σ H2 x y v ov iv u _ I2 r1 r2 r q2) fun _ s3 ⟨H3,I3,q3⟩=>?_))))
 exact wpAny_release ⟨σ,H3,I3,q3⟩
noncomputable def J4c (te:TE)(g:TG):TS:=fun D σ H=>te σ H fun x H1=>g x σ H1 D.nx
theorem NV {tg e:Expr}{te:TE}{g:TG}(he:PE X e te)(hg:PG X tg g)(hs:swapsWithSole [tg] e pos.line X.env=pure false:=by rfl)(hw:swappedStores [tg] e X.env=pure none:=by rfl)
 (h1:(assignEach [tg] X.env).map (·.2)=[assign tg X.env]:=by rfl):PS X (.Assign [tg] e pos) (J4c te g):=by
 intro pins s σ H D I h
 refine wpAny_Assign_stores (thn (he pins s σ H _ I h) fun v s1 ⟨x,H1,I1,r1,q1⟩=>?_) hs hw
 rw [h1]
 exact thn (hg pins s1 σ H1 x v _ I1 r1 q1) fun _ s2 q=>q
theorem BX {i:Nat} {x:Str} {e:Expr} {te:TE} {pos':Pos} (hN:X.N.Nodup) (hi:X.N[i]?=some x) (hx:Loc X.env.scope x) (he:PE X e te) (hs:swapsWith e (some (.Name x pos')) pos.line X.env=pure false:=by rfl) (hf:X.fn x=true\/X.env.scope.names.lookup x=some .local:=by first|exact .inl rfl|exact .inr rfl|assumption) :
 PS X (.Assign [.Name x pos'] e pos) (J4c te (RS i)):=by
 intro pins s σ H D I h
 refine wpAny_Assign_Name (thn (he pins s σ H _ I h) fun v s1 ⟨y,H1,I1,r1,q1⟩=>?_) hs
 exact GQ I1 hN hi hx r1 (fun s2 I2=>⟨_,H1,I2,q1⟩) hf
noncomputable def Q5h (i j:Nat)(ta:TA):TS:=fun D σ H=>ta σ H fun vs H1=>∃ v w,vs=[v,w]/\D.nx ((σ.set i (some v)).set j (some w)) H1
theorem J8z {i j:Nat}{x y:Str}{a b:Expr}{ta:TA}{px py pt:Pos}{kt k2 pt2}(hc:X.calm=true)(hN:X.N.Nodup)(hi:X.N[i]?=some x)(hj:X.N[j]?=some y)(hij:i≠j)
 (hx:X.env.scope.names.lookup x=some .local) (hy:X.env.scope.names.lookup y=some .local) (ha:PA X [a,b] ta)
 (hw:swappedStores [.Tuple [.Name x px,.Name y py] kt pt] (.Tuple [a,b] k2 pt2) X.env=pure (some [x,y]))
 (hs:swapsWithSole [.Tuple [.Name x px,.Name y py] kt pt] (.Tuple [a,b] k2 pt2) pos.line X.env=pure false:=by rfl) :
 PS X (.Assign [.Tuple [.Name x px,.Name y py] kt pt] (.Tuple [a,b] k2 pt2) pos) (Q5h i j ta):=by
 intro pins s σ H D I h
 rw [exec_Assign_arm]
 refine wpAny_bind (wpAny_standAt ?_)
 rw [hs]
 refine wpAny_bind (wpAny_pure ?_)
 rw [if_neg (by decide)]
 refine wpAny_bind (Tuple_ (thn (ha _ pins s σ H _ I h) fun us s1 ⟨vs,H1,I1,r1,q1⟩=>?_))
 obtain ⟨v,w,e1,q1⟩:=q1
 subst e1
 obtain ⟨u1,u2,rfl,rv,rw'⟩:∃ u1 u2,us=[u1,u2]/\RelV v u1/\RelV w u2:=by
  cases r1 with
  | cons p q =>
    cases q with
    | cons p' q' =>
      cases q'
      exact ⟨_,_,rfl,p,p'⟩
 refine wpAny_newObj_type ?_ (by show 2<=sizeLine;decide)
 have I2:Inv X pins σ H1 { s1 with heap:=s1.heap.push { cls:=.type "tuple",data:=.seq [u1,u2].toArray } }:=I1.kept (t':=s1.toks) fun b o e=>Heap.get?_push_of_some _ e
 rw [hw]
 refine wpAny_bind (wpAny_pure ?_)
 show wpAny (model X.prog X.w) X.A (do rule "assign.swapped-stores";let items <- unpackItems (.ref s1.heap.objs.size) 2 none;assignInOrder [fun v=>bindName X.env y v,fun v=>bindName X.env x v] items.reverse;pure Flow.next) _ _ _
 refine wpAny_bind (wpAny_rule (wpAny_bind (unpackItems_tuple (items:=#[u1,u2]) (I.ok.hd hc) (IsTup.new s1.heap _) fun h' hx'=>?_)))
 have I3:=I2.kept (h':=h') (t':=s1.toks) fun b o e=>hx' b o (Nat.ne_of_lt (Heap.lt_size e)) e
 show wpAny _ _ (assignInOrder [fun v=>bindName X.env y v,fun v=>bindName X.env x v] [u2,u1] >>= fun _=>pure Flow.next) _ _ _
 refine wpAny_bind (assignInOrder_cons (wpAny_bindName (GQ I3 hN hj (.inl hy) rw' (fun s2 I4=>?_) (.inr hy))))
 refine assignInOrder_cons (wpAny_bindName (GQ I4 hN hi (.inl hx) rv (fun s3 I5=>assignInOrder_nil (wpAny_pure ?_)) (.inr hx)))
 rw [List.set_comm _ _ (Ne.symm hij)] at I5
 exact ⟨_,H1,I5,q1⟩
end
section
variable {X:Cx}{pos:Pos}
noncomputable def ZD (c:TT)(tb:TS):TS:=fun D σ H=>∃ W:Nat->St->Hp->Prop,(∃ m,W m σ H)/\∀ m σ H,W m σ H ->
 c σ H fun b H1=>if b=true then ∃ N:St->Hp->Prop,(∀ σ' H',N σ' H'->∃ m',m'<m/\W m' σ' H')/\tb { D with nx:=N,ct:=N,bk:=D.nx } σ H1 else D.nx σ H1
theorem ZV {c:Expr}{body:List Stmt}{tc:TT}{tb:TS}(hp:PassesOwn (model X.prog X.w) X.A X.env X.xe)(hc:PT X c tc)(hb:PSs X body tb):PS X (.While c body [] pos) (ZD tc tb):=by
 intro pins s σ H D I h
 obtain ⟨W,⟨m0,w0⟩,turn⟩:=h
 refine wpAny_While (codeAny_whileLoop (fun n s'=>∃ σ' H',Inv X pins σ' H' s'/\W n σ' H') ?_ m0 ⟨σ,H,I,w0⟩)
 rintro n s1 ⟨σ1,H1,I1,w1⟩
 refine wpAny_passesOwn hp (thn (hc pins s1 σ1 H1 _ I1 (turn n σ1 H1 w1)) fun b s2 ⟨H2,I2,q2⟩=>?_)
 cases b with
 | true =>
   obtain ⟨N,hN,q2⟩:=q2
   rw [if_pos rfl]
   refine wpAny_passesOwn hp (thn (hb pins s2 σ1 H2 _ I2 q2) fun f s3 q3=>?_)
   cases f with
   | next =>
     obtain ⟨σ3,H3,I3,n3⟩:=q3
     obtain ⟨m',hm,w3⟩:=hN σ3 H3 n3
     exact ⟨m',hm,σ3,H3,I3,w3⟩
   | cont =>
     obtain ⟨σ3,H3,I3,n3⟩:=q3
     obtain ⟨m',hm,w3⟩:=hN σ3 H3 n3
     exact ⟨m',hm,σ3,H3,I3,w3⟩
   | brk=>exact q3
   | ret v=>exact q3
 | false =>
   rw [if_neg Bool.false_ne_true]
   exact wpAny_execs_nil ⟨σ1,H2,I2,q2⟩
end
structure It where
 go:Nat->Hp->Prop
 yld:Nat->Hp->V->Hp->Prop
 stop:Nat->Hp->Prop
def CU (X:Cx)(pins:List (Addr×Obj))(H:Hp)(b:Addr):Prop :=
 H b=none/\b≠X.env.locals/\b∉X.fs/\(b∈X.ex\/X.s₀.heap.objs.size<=b)/\(∀ x c,X.env.cells.lookup x=some c->c≠b)/\∀ p∈X.pn++pins,p.1≠b
theorem Inv.fpOk {X:Cx}{pins:List (Addr×Obj)}{σ:St}{H H':Hp}{s:Shared}{b:Addr}(I:Inv X pins σ H s)(hb:s.heap.objs.size<=b)(hn:H' b=none):CU X pins H' b:=by
 refine ⟨hn,Nat.ne_of_gt (Nat.lt_of_lt_of_le I.lt hb),I.nofs hb,.inr (Nat.le_trans I.sz hb),fun x c e z=>?_,fun p hp z=>?_⟩
 · obtain ⟨v,q⟩:=I.cell x c e
   exact absurd (Nat.lt_of_lt_of_le q.lt (by rw [z];exact hb)) (Nat.lt_irrefl _)
 · exact absurd (Nat.lt_of_lt_of_le (Heap.lt_size (I.pin p hp).1) (by rw [z];exact hb)) (Nat.lt_irrefl _)
structure Turn (P:Program)(w:World)(K:Fg)(tg:Expr)(J:It)(fp:List Addr)(it:Addr)(tn:Nat->Heap->Prop):Prop where
 mem:it∈fp
 obj:∀ i h,tn i h->∀ b∈fp,∃ o,h.get? b=some o/\∀ v,o.data≠.cell v
 keep:∀ i h h',tn i h->(∀ b∈fp,∀ o,h.get? b=some o->h'.get? b=some o)->tn i h'
 item:∀ (X:Cx),X.prog=P->X.w=w->X.K=K->X.calm=true->∀ (i:Nat) (pins:List (Addr×Obj)) (s:Shared) (σ:St) (H:Hp) (E:Value->Shared->Prop),Inv X pins σ H s->(∀ b∈fp,CU X pins H b)->tn i s.heap->J.go i H ->
  wpAny (model P w) X.A (pyNext (.ref it)) (fun r s1=>∃ u,r=some u /\
   wpAny (model P w) X.A (letOwnedTupleGo tg (.ref it) u) (fun _ s2=>∃ x H',Inv X pins σ H' s2/\RelV x u/\J.yld i H x H'/\tn (i+1) s2.heap/\∀ b∈fp,H' b=none) E s1) E s
 done:∀ (X:Cx),X.prog=P->X.w=w->X.K=K->X.calm=true->∀ (i:Nat) (pins:List (Addr×Obj)) (s:Shared) (σ:St) (H:Hp) (E:Value->Shared->Prop),Inv X pins σ H s->(∀ b∈fp,CU X pins H b)->tn i s.heap->J.stop i H ->
  wpAny (model P w) X.A (pyNext (.ref it)) (fun r s1=>r=none/\Inv X pins σ H s1) E s
 self:∀ (A:Around) (i:Nat) (s:Shared) (Q:Value->Shared->Prop) (E:Value->Shared->Prop),tn i s.heap->Q (.ref it) s->wpAny (model P w) A (pyIter (.ref it)) Q E s
abbrev TI:=St->Hp->(It->Hp->Prop)->Prop
def PIE (X:Cx)(pins:List (Addr×Obj))(σ:St)(tg:Expr)(R:It->Hp->Prop)(itv:Value)(s2:Shared):Prop :=
 ∃ (it:Addr) (fp:List Addr) (tn:Nat->Heap->Prop) (J:It) (H':Hp),itv=.ref it/\Inv X pins σ H' s2/\Turn X.prog X.w X.K tg J fp it tn/\tn 0 s2.heap/\(∀ b∈fp,CU X pins H' b)/\R J H'
def PI (X:Cx)(tg iter:Expr)(wi:TI):Prop :=
 ∀ (pins:List (Addr×Obj)) (s:Shared) (σ:St) (H:Hp) (R:It->Hp->Prop),Inv X pins σ H s->wi σ H R ->
  wpAny (model X.prog X.w) X.A (eval iter X.env) (fun v s1=>wpAny (model X.prog X.w) X.A (pyIter v) (PIE X pins σ tg R) X.xe s1) X.xe s
theorem VS {M:Model}{A:Around}{E:Value->Shared->Prop}{s:Shared}{tg:Expr}{it:Addr}{u:Value}{o:Obj}{n:String}{vs:Array Value}{Q:Unit->Shared->Prop}(ho:s.heap.get? it=some o)(hc:o.cls=.type n)(hd:o.data=.fields vs)
 (hn:["enumerate","zip","dict_itemiterator","dict_reverseitemiterator","odict_iterator","itertools.zip_longest","itertools.pairwise"].contains n=false) (hQ:Q () s):wpAny M A (letOwnedTupleGo tg (.ref it) u) Q E s:=by
 unfold letOwnedTupleGo
 cases tg<;>first
  | exact wpAny_pure hQ
  | (cases u<;>first
   | exact wpAny_pure hQ
   | (refine wpAny_bind (wpAny_load ho ?_)
      rw [hc,hd]
      show wpAny M A (if (["enumerate","zip","dict_itemiterator","dict_reverseitemiterator","odict_iterator","itertools.zip_longest","itertools.pairwise"].contains n&&vs[0]?==some (rawInt _))=true then _ else _) Q E s
      rw [if_neg (by intro h;rw [hn,Bool.false_and] at h;cases h)]
      exact wpAny_pure hQ))
def Itl (K:Fg)(a:Addr):It :=
 ⟨fun i H=>∃ xs x,SqL K H a xs/\xs[i]?=some x,fun i H x H'=>H'=H/\∀ xs,SqL K H a xs->xs[i]?=some x,fun i H=>∃ xs,SqL K H a xs/\xs.length<=i⟩
def Itt (K:Fg)(a:Addr):It :=
 ⟨fun i H=>∃ xs x,SqT K H a xs/\xs[i]?=some x,fun i H x H'=>H'=H/\∀ xs,SqT K H a xs->xs[i]?=some x,fun i H=>∃ xs,SqT K H a xs/\xs.length<=i⟩
def Itr (lo:Int)(n:Nat):It:=⟨fun i _=>i<n,fun i H x H'=>H'=H/\x=.int (lo+i),fun i _=>n<=i⟩
theorem WQ {w:World} {tg:Expr}(a it:Addr):Turn P w K tg (Itl K a) [it] it (fun i h=>h.IsListIter it a i) where
 mem:=by simp
 obj:=fun i h st b hb=>by
  have e:b=it:=by simpa using hb
  subst e
  obtain ⟨o,e,c,d⟩:=st
  exact ⟨o,e,fun v z=>by rw [d] at z;cases z⟩
 keep:=fun i h h' st k=>st.at fun o e=>k it (by simp) o e
 item:=by
  intro X hP hw hK hc i pins s σ H E I hf st hg
  subst hP hw hK
  obtain ⟨xs,x,hq,hx⟩:=hg
  obtain ⟨its,rv,p,hz⟩:=I.list hq
  obtain ⟨u,hu,ru⟩:=rv.get hx
  obtain ⟨f0,f1,f2,f3,f4,f5⟩:=hf it (by simp)
  refine wpAny_pyNext_list_item st p.isList (x:=u) (by simpa using hu) fun h' st' sb=>?_
  have I1:Inv X pins σ H { s with heap:=h' }:=I.turned (t':=s.toks) (fun b o hb e=>(sb.2 b hb).trans e) f0 f1 f3 f4 f5
  obtain ⟨o,e,c,d⟩:=id st'
  exact ⟨u,rfl,VS (s:={ s with heap:=h' }) e c d (by decide) ⟨x,H,I1,ru,⟨rfl,fun ys hy=>by rw [I.list_inj hy hq];exact hx⟩,st',fun b hb=>(hf b hb).1⟩⟩
 done:=by
  intro X hP hw hK hc i pins s σ H E I hf st hg
  subst hP hw hK
  obtain ⟨xs,hq,hx⟩:=hg
  obtain ⟨its,rv,p,hz⟩:=I.list hq
  obtain ⟨f0,f1,f2,f3,f4,f5⟩:=hf it (by simp)
  have hl:=rv.length
  exact wpAny_pyNext_list_end (I.ok.hd hc) st p.isList (by simp;omega) fun h' eb=>⟨rfl,I.turned (t':=s.toks) (fun b o hb e=>eb b o hb e) f0 f1 f3 f4 f5⟩
 self:=fun _ _ _ _ _ st h=>wpAny_pyIter_listiter st h
theorem SM {w:World} {tg:Expr}(a it:Addr):Turn P w K tg (Itt K a) [it] it (fun i h=>h.IsTupleIter it a i) where
 mem:=by simp
 obj:=fun i h st b hb=>by
  have e:b=it:=by simpa using hb
  subst e
  obtain ⟨o,e,c,d⟩:=st
  exact ⟨o,e,fun v z=>by rw [d] at z;cases z⟩
 keep:=fun i h h' st k=>st.at fun o e=>k it (by simp) o e
 item:=by
  intro X hP hw hK hc i pins s σ H E I hf st hg
  subst hP hw hK
  obtain ⟨xs,x,hq,hx⟩:=hg
  obtain ⟨its,rv,p,hz⟩:=I.tuple hq
  obtain ⟨u,hu,ru⟩:=rv.get hx
  obtain ⟨f0,f1,f2,f3,f4,f5⟩:=hf it (by simp)
  refine wpAny_pyNext_tuple_item st (show s.heap.IsTuple a its.toArray from p) (x:=u) (by simpa using hu) fun h' st' sb=>?_
  have I1:Inv X pins σ H { s with heap:=h' }:=I.turned (t':=s.toks) (fun b o hb e=>(sb.2 b hb).trans e) f0 f1 f3 f4 f5
  obtain ⟨o,e,c,d⟩:=id st'
  exact ⟨u,rfl,VS (s:={ s with heap:=h' }) e c d (by decide) ⟨x,H,I1,ru,⟨rfl,fun ys hy=>by rw [I.tuple_inj hy hq];exact hx⟩,st',fun b hb=>(hf b hb).1⟩⟩
 done:=by
  intro X hP hw hK hc i pins s σ H E I hf st hg
  subst hP hw hK
  obtain ⟨xs,hq,hx⟩:=hg
  obtain ⟨its,rv,p,hz⟩:=I.tuple hq
  obtain ⟨f0,f1,f2,f3,f4,f5⟩:=hf it (by simp)
  have hl:=rv.length
  exact wpAny_pyNext_tuple_end (I.ok.hd hc) st (show s.heap.IsTuple a its.toArray from p) (by simp;omega) fun h' eb=>⟨rfl,I.turned (t':=s.toks) (fun b o hb e=>eb b o hb e) f0 f1 f3 f4 f5⟩
 self:=fun _ _ _ _ _ st h=>wpAny_pyIter_tupleiter st h
theorem SN {w:World} {tg:Expr}(it:Addr)(lo:Int)(n:Nat):Turn P w K tg (Itr lo n) [it] it (fun i h=>IsRangeIter h it (lo+(i:Nat)*1) ((n:Int) - (i:Nat)) 1) where
 mem:=by simp
 obj:=fun i h st b hb=>by
  have e:b=it:=by simpa using hb
  subst e
  exact ⟨_,st,fun v z=>by
   have z':Data.fields _=Data.cell v:=z
   cases z'⟩
 keep:=fun i h h' st k=>k it (by simp) _ st
 item:=by
  intro X hP hw hK hc i pins s σ H E I hf st hg
  subst hP hw hK
  obtain ⟨f0,f1,f2,f3,f4,f5⟩:=hf it (by simp)
  have W:=Walks.range (prog:=X.prog) (w:=X.w) (I.ok.hd hc) it lo 1 n
  refine W.item i s _ _ hg st fun v h' tk hv st' kk=>?_
  obtain ⟨t,rfl⟩:=hv
  have I1:Inv X pins σ H { s with heap:=h',toks:=tk }:=I.turned (fun b o hb e=>kk b o (by simpa using hb) e) f0 f1 f3 f4 f5
  refine ⟨_,rfl,VS (s:={ s with heap:=h',toks:=tk }) (n:="range_iterator") st' rfl rfl (by decide) ⟨.int (lo+i),H,I1,⟨t,?_⟩,⟨rfl,rfl⟩,st',fun b hb=>(hf b hb).1⟩⟩
  rw [Int.mul_one]
 done:=by
  intro X hP hw hK hc i pins s σ H E I hf st hg
  subst hP hw hK
  obtain ⟨f0,f1,f2,f3,f4,f5⟩:=hf it (by simp)
  exact wpAny_pyNext_range_end (I.ok.hd hc) st (by have:n<=i:=hg;omega) fun h' eb=>⟨rfl,I.turned (t':=s.toks) (fun b o hb e=>eb b o hb e) f0 f1 f3 f4 f5⟩
 self:=fun _ _ _ _ _ st h=>wpAny_pyIter_rangeiter st h
section
variable {X:Cx}{tg:Expr}
theorem ZN {pins:List (Addr×Obj)}{σ:St}{H:Hp}{s:Shared}{R:It->Hp->Prop}{E:Value->Shared->Prop}{lo hi:Int}{t u v:Tok}{tk:Nat}(I:Inv X pins σ H s)(h1 : -(2 ^ 62)<=lo)(h2:lo<2 ^ 62)(h3 : -(2 ^ 62)<=hi)(h4:hi<2 ^ 62)
 (q:R (Itr lo (hi - lo).toNat) H):wpAny (model X.prog X.w) X.A (pyIter (.ref s.heap.objs.size)) (PIE X pins σ tg R) E { s with heap:=s.heap.push { cls:=.type "range",data:=.fields #[.int lo t,.int hi u,.int 1 v] },toks:=tk }:=by
 refine wpAny_pyIter_range (IsRange.new ..) (small_one h1 h2 h3 h4) ?_
 have I1:Inv X pins σ H { s with heap:=s.heap.push { cls:=.type "range",data:=.fields #[.int lo t,.int hi u,.int 1 v] },toks:=tk }:=I.kept fun b o e=>Heap.get?_push_of_some _ e
 refine ⟨(s.heap.push { cls:=.type "range",data:=.fields #[.int lo t,.int hi u,.int 1 v] }).objs.size,[(s.heap.push { cls:=.type "range",data:=.fields #[.int lo t,.int hi u,.int 1 v] }).objs.size],_,_,H,rfl,
  I1.kept (t':=tk) fun b o e=>Heap.get?_push_of_some _ e,SN _ lo (hi - lo).toNat,?_,fun b hb=>?_,q⟩
 · have e1:lo+((0:Nat):Int)*1=lo:=by simp
   have e2:(((hi - lo).toNat:Nat):Int) - ((0:Nat):Int)=Builtin.Range.rangeSize lo hi 1:=by rw [rangeSize_one];split<;>omega
   show IsRangeIter _ _ (lo+((0:Nat):Int)*1) ((((hi - lo).toNat:Nat):Int) - ((0:Nat):Int)) 1
   rw [e1,e2]
   exact Heap.get?_push_size _ rfl
 · have e:b=(s.heap.push { cls:=.type "range",data:=.fields #[.int lo t,.int hi u,.int 1 v] }).objs.size:=by simpa using hb
   subst e
   exact I1.fpOk (Nat.le_refl _) (I1.hok.fresh (Nat.le_refl _))
noncomputable def Q3s (ta:TA):TI:=fun σ H R=>ta σ H fun vs H1=>∃ j:Int,vs=[.int j]/\-(2 ^ 62)<=j/\j<2 ^ 62/\R (Itr 0 j.toNat) H1
theorem XE {a:Expr}{ta:TA}{p pos:Pos}(hg:Gl X "range") (hm:X.mg "range" = none) (ha:PA X [a] ta) (hs:starEach [a] X.env=[(false,eval a X.env)]:=by rfl):PI X tg (.Call (.Name "range" p) [a] [] pos) (Q3s ta):=by
 intro pins s σ H R I h
 refine Call_ (OI I hg hm boot_range (PyProof.Rows.callWith_type1 (thn (ha pos pins s σ H _ I h) fun us s1 ⟨vs,H1,I1,r1,q1⟩=>?_) hs rfl))
 obtain ⟨j,e,q1,q2,q⟩:=q1
 subst e
 cases r1 with
 | cons r rr =>
   cases rr
   obtain ⟨t,rfl⟩:=r
   exact call_range_1 (ZN I1 (by omega) (by omega) q1 q2 (by simpa using q))
noncomputable def Q2p (wi:TI)(g:TG)(tb:TS):TS:=fun D σ H=>wi σ H fun J H1=>∃ W:Nat->Nat->St->Hp->Prop,(∃ m,W 0 m σ H1)/\∀ i m σ H,W i m σ H ->
 (J.stop i H/\D.nx σ H)\/(J.go i H/\∃ N:St->Hp->Prop,(∀ σ' H',N σ' H'->∃ m',m'<m/\W (i+1) m' σ' H')/\∀ x H',J.yld i H x H'->g x σ H' fun σ2 H2=>tb { D with nx:=N,ct:=N,bk:=D.nx } σ2 H2)
def CO (fp:List Addr)(h:Heap):List (Addr×Obj):=fp.filterMap fun b=>(h.get? b).map fun o=>(b,o)
theorem Y3 {fp:List Addr}{h:Heap}{b:Addr}{o:Obj}(hb:b∈fp)(e:h.get? b=some o):(b,o)∈CO fp h:=List.mem_filterMap.mpr ⟨b,hb,by rw [e];rfl⟩
theorem MM {fp:List Addr}{h:Heap}{p:Addr×Obj}(hp:p∈CO fp h):p.1∈fp/\h.get? p.1=some p.2:=by
 obtain ⟨b,hb,e⟩:=List.mem_filterMap.mp hp
 cases q:h.get? b with
 | none=>rw [q] at e;cases e
 | some o =>
   rw [q] at e
   have e':(b,o)=p:=Option.some.inj e
   subst e'
   exact ⟨hb,q⟩
theorem Inv.pinned {pins:List (Addr×Obj)}{σ:St}{H:Hp}{s:Shared}{fp:List Addr}(I:Inv X pins σ H s)(hf:∀ b∈fp,CU X pins H b)(ho:∀ b∈fp,∃ o,s.heap.get? b=some o/\∀ v,o.data≠.cell v):Inv X (pins++CO fp s.heap) σ H s :=
 I.pins_of fun p hp=>(List.mem_append.mp hp).elim (fun z=>I.pin p (List.mem_append_right _ z)) fun z=>by
  obtain ⟨hb,e⟩:=MM z
  obtain ⟨f0,f1,f2,_⟩:=hf p.1 hb
  obtain ⟨o,e',d⟩:=ho p.1 hb
  rw [e] at e';cases e'
  exact ⟨e,f0,f1,f2,d⟩
theorem Inv.unpinned {pins pl:List (Addr×Obj)}{σ:St}{H:Hp}{s:Shared}(I:Inv X (pins++pl) σ H s):Inv X pins σ H s:=I.pins_of fun p hp=>I.pin p (List.mem_append_right _ (List.mem_append_left _ hp))
theorem J9a {iter:Expr}{body:List Stmt}{wi:TI}{g:TG}{tb:TS}{pos:Pos}(hp:PassesOwn (model X.prog X.w) X.A X.env X.xe)(hc:X.calm=true)(hi:PI X tg iter wi)(hg:PG X tg g)(hb:PSs X body tb)
 (hs:∀ x,foldedSetIterable iter X.env x=pure x:=by intro _;rfl):PS X (.For tg iter body [] pos) (Q2p wi g tb):=by
 intro pins s σ H D I h
 refine wpAny_For (thn (hi pins s σ H _ I h) fun v s1 h1=>thn h1 fun itv s2 h2=>?_) hs
 obtain ⟨it,fp,tn,J,H2,e,I2,T,st2,f2,W,⟨m0,w0⟩,turn⟩:=h2
 subst e
 have stat:∀ {H':Hp},(∀ b∈fp,H' b=none)->∀ b∈fp,CU X pins H' b:=fun hn b hb=>⟨hn b hb,(f2 b hb).2⟩
 refine codeAny_forLoop_any (fun n s'=>∃ i σ' H',Inv X pins σ' H' s'/\tn i s'.heap/\(∀ b∈fp,H' b=none)/\W i n σ' H') ?_ m0 ⟨0,σ,H2,I2,st2,fun b hb=>(f2 b hb).1,w0⟩
 rintro n s3 ⟨i,σ3,H3,I3,st3,fr3,w3⟩
 rcases turn i n σ3 H3 w3 with ⟨stop,qn⟩|⟨go,N,hN,step⟩
 · refine wpAny_passesOwn hp (thn (T.done X rfl rfl rfl hc i pins s3 σ3 H3 X.xe I3 (stat fr3) st3 stop) fun r s4 ⟨hr,I4⟩=>?_)
   subst hr
   exact wpAny_execs_nil ⟨σ3,H3,I4,qn⟩
 · refine wpAny_passesOwn hp (thn (T.item X rfl rfl rfl hc i pins s3 σ3 H3 X.xe I3 (stat fr3) st3 go) fun r s4 ⟨u,hr,h4⟩=>?_)
   subst hr
   refine wpAny_passesOwn hp (thn h4 fun _ s5 ⟨x,H5,I5,r5,y5,st5,fr5⟩=>?_)
   have I5':=I5.pinned (stat fr5) (T.obj _ _ st5)
   refine wpAny_passesOwn hp (thn (hg _ s5 σ3 H5 x u _ I5' r5 (step x H5 y5)) fun _ s6 ⟨σ6,H6,I6,q6⟩=>?_)
   refine wpAny_passesOwn hp (thn (hb _ s6 σ6 H6 _ I6 q6) fun f s7 q7=>?_)
   have again:∀ {σ7:St} {H7:Hp},Inv X (pins++CO fp s5.heap) σ7 H7 s7->N σ7 H7->∃ m,m<n/\∃ i σ' H',Inv X pins σ' H' s7/\tn i s7.heap/\(∀ b∈fp,H' b=none)/\W i m σ' H':=fun {σ7 H7} I7 n7=>by
    obtain ⟨m',hm,w7⟩:=hN σ7 H7 n7
    refine ⟨m',hm,i+1,σ7,H7,I7.unpinned,T.keep _ _ _ st5 fun b hb o e=>(I7.pin (b,o) (List.mem_append_right _ (List.mem_append_right _ (Y3 hb e)))).1,fun b hb=>?_,w7⟩
    obtain ⟨o,e,d⟩:=T.obj _ _ st5 b hb
    exact (I7.pin (b,o) (List.mem_append_right _ (List.mem_append_right _ (Y3 hb e)))).2.1
   cases f with
   | next=>obtain ⟨σ7,H7,I7,n7⟩:=q7;exact again I7 n7
   | cont=>obtain ⟨σ7,H7,I7,n7⟩:=q7;exact again I7 n7
   | brk=>obtain ⟨σ7,H7,I7,q7⟩:=q7;exact ⟨σ7,H7,I7.unpinned,q7⟩
   | ret v=>obtain ⟨x7,σ7,H7,I7,r7,q7⟩:=q7;exact ⟨x7,σ7,H7,I7.unpinned,r7,q7⟩
end
theorem YX {c:TT}{tb:TS}{D:Ends}{σ:St}{H:Hp}(Pv:St->Hp->Prop)(μ:St->Hp->Nat)(h0:Pv σ H)
 (hs:∀ σ H,Pv σ H->c σ H fun b H1=>if b=true then tb { D with nx:=fun σ' H'=>Pv σ' H'/\μ σ' H'<μ σ H,ct:=fun σ' H'=>Pv σ' H'/\μ σ' H'<μ σ H,bk:=D.nx } σ H1 else D.nx σ H1)
 (mono:∀ σ H Q Q',(∀ b H1,Q b H1->Q' b H1)->c σ H Q->c σ H Q'):ZD c tb D σ H:=by
 refine ⟨fun m σ H=>m=μ σ H/\Pv σ H,⟨_,rfl,h0⟩,?_⟩
 rintro m σ H ⟨rfl,p⟩
 refine mono σ H _ _ (fun b H1 q=>?_) (hs σ H p)
 cases b with
 | true=>exact ⟨_,fun σ' H' ⟨p',l⟩=>⟨_,l,rfl,p'⟩,q⟩
 | false=>exact q
abbrev R2:=V->V->Hp->VK->Prop
def OpR (X:Cx)(f:Value->Value->Sem Value)(r:R2):Prop :=
 ∀ (pins:List (Addr×Obj)) (s:Shared) (σ:St) (H:Hp) (x y:V) (v u:Value) (Q:VK),Inv X pins σ H s->RelV x v->RelV y u->r x y H Q ->
  wpAny (model X.prog X.w) X.A (f v u) (EP X pins σ Q) X.xe s
def UnR (X:Cx)(f:Value->Sem Value)(r:V->Hp->VK->Prop):Prop :=
 ∀ (pins:List (Addr×Obj)) (s:Shared) (σ:St) (H:Hp) (x:V) (v:Value) (Q:VK),Inv X pins σ H s->RelV x v->r x H Q ->
  wpAny (model X.prog X.w) X.A (f v) (EP X pins σ Q) X.xe s
def AW (X:Cx)(f:Value)(r:List V->Hp->VK->Prop):Prop :=
 ∀ (pins:List (Addr×Obj)) (s:Shared) (σ:St) (H:Hp) (xs:List V) (us:List Value) (Q:VK),Inv X pins σ H s->Vals xs us->r xs H Q ->
  wpAny (model X.prog X.w) X.A (call f us) (EP X pins σ Q) X.xe s
def Q6b (X:Cx)(r:V->Hp->(Bool->Hp->Prop)->Prop):Prop :=
 ∀ (pins:List (Addr×Obj)) (s:Shared) (σ:St) (H:Hp) (x:V) (v:Value) (Q:Bool->Hp->Prop),Inv X pins σ H s->RelV x v->r x H Q ->
  wpAny (model X.prog X.w) X.A (truthy v) (TP X pins σ Q) X.xe s
noncomputable def tOp (r:R2)(ta tb:TE):TE:=fun σ H Q=>ta σ H fun x H1=>tb σ H1 fun y H2=>r x y H2 Q
noncomputable def tUn (r:V->Hp->VK->Prop)(ta:TE):TE:=fun σ H Q=>ta σ H fun x H1=>r x H1 Q
noncomputable def rI (C:Int->Int->Prop)(g:Int->Int->V):R2:=fun x y H Q=>∃ i j,x=.int i/\y=.int j/\C i j/\Q (g i j) H
noncomputable def rI0 (g:Int->Int->V):R2:=fun x y H Q=>∃ i j,x=.int i/\y=.int j/\Q (g i j) H
noncomputable def rU (g:Int->V):V->Hp->VK->Prop:=fun x H Q=>∃ i,x=.int i/\Q (g i) H
section
variable {X:Cx}{a b:Expr}{ta tb:TE}{pos:Pos}
theorem Q1s (ha:PE X a ta)(hb:PE X b tb){pins:List (Addr×Obj)}{s:Shared}{σ:St}{H:Hp}{R:V->V->Hp->Prop}(I:Inv X pins σ H s)
 (h:ta σ H fun x H1=>tb σ H1 fun y H2=>R x y H2) {Q:Value->Shared->Prop} {f:Value->Value->Sem Value}
 (hf:∀ v u s2 x y H2,Inv X pins σ H2 s2->RelV x v->RelV y u->R x y H2->wpAny (model X.prog X.w) X.A (f v u) Q X.xe s2) :
 wpAny (model X.prog X.w) X.A (eval a X.env) (fun v s₁=>wpAny (model X.prog X.w) X.A (eval b X.env) (fun u s₂=>wpAny (model X.prog X.w) X.A (f v u) Q X.xe s₂) X.xe s₁) X.xe s:=by
 refine thn (ha pins s σ H _ I h) fun v s1 ⟨x,H1,I1,r1,q1⟩=>?_
 refine thn (hb pins s1 σ H1 _ I1 q1) fun u s2 ⟨y,H2,I2,r2,q2⟩=>?_
 exact hf v u s2 x y H2 I2 r1 r2 q2
theorem BU {op:Operator}{r:R2}(ho:OpR X (binaryOp op) r)(ha:PE X a ta)(hb:PE X b tb):PE X (.BinOp a op b pos) (tOp r ta tb):=by
 intro pins s σ H Q I h
 exact wpAny_BinOp (Q1s ha hb I h fun v u s2 x y H2 I2 rx ry q=>ho pins s2 σ H2 x y v u Q I2 rx ry q)
theorem Q3e {op:UnaryOp}{r:V->Hp->VK->Prop}(ho:UnR X (unaryOp op) r)(ha:PE X a ta):PE X (.UnaryOp op a pos) (tUn r ta):=by
 intro pins s σ H Q I h
 exact UnaryOp_ (thn (ha pins s σ H _ I h) fun v s1 ⟨x,H1,I1,r1,q1⟩=>ho pins s1 σ H1 x v Q I1 r1 q1)
theorem opI {f:Value->Value->Sem Value}{C:Int->Int->Prop}{g:Int->Int->Int}
 (rule:∀ (i j:Int) (t u:Tok) (s:Shared) (Q:Value->Shared->Prop) (E:Value->Shared->Prop),C i j->Q (.int (g i j) s.toks) { s with toks:=s.toks+1 }->wpAny (model X.prog X.w) X.A (f (.int i t) (.int j u)) Q E s) :
 OpR X f (rI C fun i j=>.int (g i j)):=by
 intro pins s σ H x y v u Q I rx ry h
 obtain ⟨i,j,rfl,rfl,hc,q⟩:=h
 obtain ⟨t,rfl⟩:=rx
 obtain ⟨t',rfl⟩:=ry
 exact rule i j t t' s _ _ hc ⟨.int (g i j),H,I.tok _,⟨_,rfl⟩,q⟩
theorem Q3k {f:Value->Value->Sem Value}{g:Int->Int->Int}
 (rule:∀ (i j:Int) (t u:Tok) (s:Shared) (Q:Value->Shared->Prop) (E:Value->Shared->Prop),Q (.int (g i j) s.toks) { s with toks:=s.toks+1 }->wpAny (model X.prog X.w) X.A (f (.int i t) (.int j u)) Q E s) :
 OpR X f (rI0 fun i j=>.int (g i j)):=by
 intro pins s σ H x y v u Q I rx ry h
 obtain ⟨i,j,rfl,rfl,q⟩:=h
 obtain ⟨t,rfl⟩:=rx
 obtain ⟨t',rfl⟩:=ry
 exact rule i j t t' s _ _ ⟨.int (g i j),H,I.tok _,⟨_,rfl⟩,q⟩
theorem J5d {f:Value->Value->Sem Value}{g:Int->Int->Bool}
 (rule:∀ (i j:Int) (t u:Tok) (s:Shared) (Q:Value->Shared->Prop) (E:Value->Shared->Prop),Q (.bool (g i j)) s->wpAny (model X.prog X.w) X.A (f (.int i t) (.int j u)) Q E s) :
 OpR X f (rI0 fun i j=>.bl (g i j)):=by
 intro pins s σ H x y v u Q I rx ry h
 obtain ⟨i,j,rfl,rfl,q⟩:=h
 obtain ⟨t,rfl⟩:=rx
 obtain ⟨t',rfl⟩:=ry
 exact rule i j t t' s _ _ ⟨.bl (g i j),H,I,rfl,q⟩
def Q6e (i j:Int):Prop:=0<=j/\j<=1000000/\i.natAbs<2 ^ 64
def CMul (i j:Int):Prop:=(-(2 ^ 64)<i/\i<2 ^ 64)\/(-(2 ^ 64)<j/\j<2 ^ 64)
theorem CMul.ok {i j:Int}(h:CMul i j):IntMulOk i j:=by
 rcases h with ⟨h1,h2⟩|⟨h1,h2⟩
 · exact .of_left (intBits_le_64 h1 h2)
 · exact .of_right (intBits_le_64 h1 h2)
theorem CP:OpR X (binaryOp .Add) (rI0 fun i j=>.int (i+j)):=Q3k fun _ _ _ _ _ _ _ q=>add_int q
theorem EX:OpR X (binaryOp .Sub) (rI0 fun i j=>.int (i - j)):=Q3k fun _ _ _ _ _ _ _ q=>sub_int q
theorem EE:OpR X (binaryOp .Mod) (rI (fun _ j=>0<j) fun i j=>.int (i % j)):=opI fun i j _ _ _ _ _ hc q=>by
 have h1:(0:Int)<j:=hc
 exact mod_int' (by omega) (by rw [Int.fmod_eq_emod_of_nonneg i (by omega)];exact q)
theorem J5b:OpR X (binaryOp .Mod) (rI (fun _ j=>j≠0) fun i j=>.int (i.fmod j)):=opI fun _ _ _ _ _ _ _ hc q=>mod_int' hc q
theorem TM:OpR X (binaryOp .Pow) (rI Q6e fun i j=>.int (i ^ j.toNat)):=opI fun _ _ _ _ _ _ _ hc q=>pow_int_small hc.1 hc.2.1 hc.2.2 q
theorem unI {f:Value->Sem Value}{g:Int->Int}
 (rule:∀ (i:Int) (t:Tok) (s:Shared) (Q:Value->Shared->Prop) (E:Value->Shared->Prop),Q (.int (g i) s.toks) { s with toks:=s.toks+1 }->wpAny (model X.prog X.w) X.A (f (.int i t)) Q E s) :
 UnR X f (rU fun i=>.int (g i)):=by
 intro pins s σ H x v Q I rx h
 obtain ⟨i,rfl,q⟩:=h
 obtain ⟨t,rfl⟩:=rx
 exact rule i t s _ _ ⟨.int (g i),H,I.tok _,⟨_,rfl⟩,q⟩
theorem J8h:UnR X (unaryOp .USub) (rU fun i=>.int (-i)):=unI fun _ _ _ _ _ q=>neg_int q
end
def Q2x:V->V->Bool
 | .non,.non=>true|.non,.int _=>true|.int _,.non=>true|.non,.bl _=>true|.bl _,.non=>true|.non,.str _=>true|.str _,.non=>true
 | .int _,.int _=>true|.bl _,.bl _=>true|.str _,.str _=>true|.byt _,.byt _=>true
 | .int _,.str _=>true|.str _,.int _=>true|.bl _,.str _=>true|.str _,.bl _=>true
 | _,_=>false
noncomputable def rEq:R2:=fun x y H Q=>Q2x x y=true/\Q (.bl (decide (x=y))) H
noncomputable def rNe:R2:=fun x y H Q=>Q2x x y=true/\Q (.bl (!decide (x=y))) H
theorem VX {i j:Int}:decide (V.int i=V.int j)=(i==j):=by
 rw [Bool.eq_iff_iff]
 simp
theorem J2j {i j:Bool}:decide (V.bl i=V.bl j)=(i==j):=by
 rw [Bool.eq_iff_iff]
 simp
theorem VW {i j:Str}:decide (V.str i=V.str j)=(i==j):=by
 rw [Bool.eq_iff_iff]
 simp
theorem VY {i j:Array UInt8}:decide (V.byt i=V.byt j)=(i.toList==j.toList):=by
 rw [Bool.eq_iff_iff]
 cases i
 cases j
 simp
section
variable {X:Cx}{a b c:Expr}{ta tb:TE}{pos:Pos}
theorem V7 {pins:List (Addr×Obj)}{σ:St}{H:Hp}{s:Shared}{Q:VK}{k k':Bool}(I:Inv X pins σ H s)(q:Q (.bl k) H)(e:k=k'):EP X pins σ Q (.bool k') s:=by
 subst e
 exact ⟨.bl k,H,I,rfl,q⟩
theorem FY:OpR X (compareOp .Eq) rEq:=by
 intro pins s σ H x y v u Q I rx ry h
 obtain ⟨hs,q⟩:=h
 cases x with
 | non =>
   cases rx
   cases y with
   | non=>cases ry;exact PySem.EqNone.eq_none_none (V7 I q (by simp))
   | bl j=>cases ry;exact PySem.EqNone.eq_none_bool (V7 I q (by simp))
   | int j=>obtain ⟨t',rfl⟩:=ry;exact PySem.EqNone.eq_none_int (V7 I q (by simp))
   | str j=>obtain ⟨t',rfl⟩:=ry;exact PySem.EqNone.eq_none_str (V7 I q (by simp))
   | _=>exact absurd (show false=true from hs) Bool.false_ne_true
 | bl i =>
   cases rx
   cases y with
   | non=>cases ry;exact PySem.EqNone.eq_bool_none (V7 I q (by simp))
   | bl j=>cases ry;exact eq_bool (V7 I q J2j)
   | str j=>obtain ⟨t',rfl⟩:=ry;exact PySem.EqMixed.eq_bool_str (V7 I q (by simp))
   | _=>exact absurd (show false=true from hs) Bool.false_ne_true
 | int i =>
   obtain ⟨t,rfl⟩:=rx
   cases y with
   | non=>cases ry;exact PySem.EqNone.eq_int_none (V7 I q (by simp))
   | int j=>obtain ⟨t',rfl⟩:=ry;exact eq_int (V7 I q VX)
   | str j=>obtain ⟨t',rfl⟩:=ry;exact PySem.EqMixed.eq_int_str (V7 I q (by simp))
   | _=>exact absurd (show false=true from hs) Bool.false_ne_true
 | str i =>
   obtain ⟨t,rfl⟩:=rx
   cases y with
   | non=>cases ry;exact PySem.EqNone.eq_str_none (V7 I q (by simp))
   | bl j=>cases ry;exact PySem.EqMixed.eq_str_bool (V7 I q (by simp))
   | int j=>obtain ⟨t',rfl⟩:=ry;exact PySem.EqMixed.eq_str_int (V7 I q (by simp))
   | str j=>obtain ⟨t',rfl⟩:=ry;exact eq_str (V7 I q VW)
   | _=>exact absurd (show false=true from hs) Bool.false_ne_true
 | byt i =>
   obtain ⟨t,rfl⟩:=rx
   cases y with
   | byt j=>obtain ⟨t',rfl⟩:=ry;exact PySem.W.eq_bytes (V7 I q VY)
   | _=>exact absurd (show false=true from hs) Bool.false_ne_true
 | _=>cases y<;>exact absurd (show false=true from hs) Bool.false_ne_true
theorem J7g:OpR X (compareOp .NotEq) rNe:=by
 intro pins s σ H x y v u Q I rx ry h
 obtain ⟨hs,q⟩:=h
 cases x with
 | non =>
   cases rx
   cases y with
   | non=>cases ry;exact PySem.EqNone.ne_none_none (V7 I q (by simp))
   | bl j=>cases ry;exact PySem.EqNone.ne_none_bool (V7 I q (by simp))
   | int j=>obtain ⟨t',rfl⟩:=ry;exact PySem.EqNone.ne_none_int (V7 I q (by simp))
   | str j=>obtain ⟨t',rfl⟩:=ry;exact PySem.EqNone.ne_none_str (V7 I q (by simp))
   | _=>exact absurd (show false=true from hs) Bool.false_ne_true
 | bl i =>
   cases rx
   cases y with
   | non=>cases ry;exact PySem.EqNone.ne_bool_none (V7 I q (by simp))
   | bl j=>cases ry;exact ne_bool (V7 I q (congrArg not J2j))
   | str j=>obtain ⟨t',rfl⟩:=ry;exact PySem.EqMixed.ne_bool_str (V7 I q (by simp))
   | _=>exact absurd (show false=true from hs) Bool.false_ne_true
 | int i =>
   obtain ⟨t,rfl⟩:=rx
   cases y with
   | non=>cases ry;exact PySem.EqNone.ne_int_none (V7 I q (by simp))
   | int j=>obtain ⟨t',rfl⟩:=ry;exact ne_int (V7 I q (congrArg not VX))
   | str j=>obtain ⟨t',rfl⟩:=ry;exact PySem.EqMixed.ne_int_str (V7 I q (by simp))
   | _=>exact absurd (show false=true from hs) Bool.false_ne_true
 | str i =>
   obtain ⟨t,rfl⟩:=rx
   cases y with
   | non=>cases ry;exact PySem.EqNone.ne_str_none (V7 I q (by simp))
   | bl j=>cases ry;exact PySem.EqMixed.ne_str_bool (V7 I q (by simp))
   | int j=>obtain ⟨t',rfl⟩:=ry;exact PySem.EqMixed.ne_str_int (V7 I q (by simp))
   | str j=>obtain ⟨t',rfl⟩:=ry;exact ne_str (V7 I q (congrArg not VW))
   | _=>exact absurd (show false=true from hs) Bool.false_ne_true
 | byt i =>
   obtain ⟨t,rfl⟩:=rx
   cases y with
   | byt j=>obtain ⟨t',rfl⟩:=ry;exact PySem.W.ne_bytes (V7 I q (congrArg not VY))
   | _=>exact absurd (show false=true from hs) Bool.false_ne_true
 | _=>cases y<;>exact absurd (show false=true from hs) Bool.false_ne_true
theorem J7h:OpR X (compareOp .Lt) (rI0 fun i j=>.bl (decide (i<j))):=J5d fun _ _ _ _ _ _ _ q=>lt_int q
theorem Q3i:OpR X (compareOp .LtE) (rI0 fun i j=>.bl (decide (i<=j))):=J5d fun _ _ _ _ _ _ _ q=>le_int q
theorem J7i:OpR X (compareOp .Gt) (rI0 fun i j=>.bl (decide (j<i))):=J5d fun _ _ _ _ _ _ _ q=>gt_int q
theorem Q3j:OpR X (compareOp .GtE) (rI0 fun i j=>.bl (decide (j<=i))):=J5d fun _ _ _ _ _ _ _ q=>ge_int q
theorem Z5 (b:Expr){op:CmpOp}(h:op≠.In:=by decide)(h2:op≠.NotIn:=by decide):behindInMarks op b=false:=by
 have e1:(op==CmpOp.In)=false:=by cases op<;>first|rfl|exact absurd rfl h
 have e2:(op==CmpOp.NotIn)=false:=by cases op<;>first|rfl|exact absurd rfl h2
 cases b<;>simp [behindInMarks,e1,e2]
theorem J5a {op:CmpOp}{r:R2}(ho:OpR X (compareOp op) r)(ha:PE X a ta)(hb:PE X b tb)(hm:behindInMarks op b=false):PE X (.Compare a [op] [b] pos) (tOp r ta tb):=by
 intro pins s σ H Q I h
 exact wpAny_Compare1 (Q1s ha hb I h fun v u s2 x y H2 I2 rx ry q=>ho pins s2 σ H2 x y v u Q I2 rx ry q) hm
noncomputable def Q2j (t:TE):TT:=fun σ H Q=>t σ H fun x H'=>∃ k,x=.bl k/\Q k H'
theorem GU {op:CmpOp}{r:R2}(ho:OpR X (compareOp op) r)(ha:PE X a ta)(hb:PE X b tb)(hm:behindInMarks op b=false):PT X (.Compare a [op] [b] pos) (Q2j (tOp r ta tb)):=by
 intro pins s σ H Q I h
 refine wpAny_isTrue_Compare1 (thn (ha pins s σ H _ I h) fun v s1 ⟨x,H1,I1,r1,q1⟩=>thn (hb pins s1 σ H1 _ I1 q1) fun u s2 ⟨y,H2,I2,r2,q2⟩ =>
  thn (ho pins s2 σ H2 x y v u _ I2 r1 r2 q2) fun c s3 ⟨z,H3,I3,r3,k,e,q3⟩=>?_) hm
 subst e
 cases r3
 exact wpAny_truthy_bool ⟨H3,I3,q3⟩
def Q1w (K:Fg)(x:V)(H:Hp)(k:Bool):Prop :=
 match x with
 | .non=>k=false
 | .bl b=>k=b
 | .int i=>k=(i != 0)
 | .str y=>y.length<=sizeLine/\k=((y.length:Int)!=0)
 | .byt y=>y.size<=sizeLine/\k=((y.size:Int)!=0)
 | .ref p=>(∃ xs,SqL K H p xs/\k = !xs.isEmpty)\/(∃ xs,SqT K H p xs/\k = !xs.isEmpty)\/∃ kvs,H p=some (.dK kvs)/\k = !kvs.isEmpty
 | _=>False
theorem UA {κ:Type}{kvs:List (κ×V)}{vs:List (κ×Value)}(r:KV kvs vs):(!vs.isEmpty) = !kvs.isEmpty:=by
 cases r<;>rfl
theorem KG {xs:List V}{its:List Value}(r:Vals xs its):(!its.toArray.isEmpty) = !xs.isEmpty:=by
 cases r<;>simp
theorem JY:(sizeLine:Nat)<2 ^ 63:=by rw [sizeLine_eq];decide
theorem J8j:Q6b X (fun x H Q=>∃ k,Q1w X.K x H k/\Q k H):=by
 intro pins s σ H x v Q I rx h
 obtain ⟨k,e,q⟩:=h
 have hl:=JY
 have hs:sizeLine=16777216:=sizeLine_eq
 cases x with
 | non =>
   cases rx
   have e':k=false:=e
   subst e'
   exact truthy_none ⟨H,I,q⟩
 | bl b =>
   cases rx
   have e':k=b:=e
   subst e'
   exact wpAny_truthy_bool ⟨H,I,q⟩
 | int i =>
   obtain ⟨t,rfl⟩:=rx
   have e':k=(i != 0):=e
   subst e'
   exact PySem.P.truthy_int ⟨H,I,q⟩
 | str y =>
   obtain ⟨t,rfl⟩:=rx
   obtain ⟨hy,e'⟩:y.length<=sizeLine/\k=((y.length:Int)!=0):=e
   subst e'
   exact PySem.P.truthy_str (by omega) ⟨H,I.tok _,q⟩
 | byt y =>
   obtain ⟨t,rfl⟩:=rx
   obtain ⟨hy,e'⟩:y.size<=sizeLine/\k=((y.size:Int)!=0):=e
   subst e'
   exact PySem.W.truthy_bytes (by omega) ⟨H,I.tok _,q⟩
 | ref p =>
   cases rx
   have e':(∃ xs,SqL X.K H p xs/\k = !xs.isEmpty)\/(∃ xs,SqT X.K H p xs/\k = !xs.isEmpty)\/∃ kvs,H p=some (.dK kvs)/\k = !kvs.isEmpty:=e
   rcases e' with ⟨xs,hx,e'⟩|⟨xs,hx,e'⟩|⟨kvs,hx,e'⟩
   · subst e'
     obtain ⟨its,r,pl,hz⟩:=I.list hx
     have hlen:=r.length
     exact wpAny_truthy_list pl.isList (by simp only [List.size_toArray];omega) ⟨H,I.tok _,by rw [KG r];exact q⟩
   · subst e'
     obtain ⟨its,r,pl,hz⟩:=I.tuple hx
     have hlen:=r.length
     exact truthy_tuple pl (by simp only [List.size_toArray];omega) ⟨H,I.tok _,by rw [KG r];exact q⟩
   · subst e'
     obtain ⟨hz,hS,vs,r,m⟩:kvs.length<=sizeLine/\(p==sysModules)=false/\∃ vs,KV kvs vs/\s.heap.DictOf (OH X.prog X.w) p vs:=I.hok p _ hx
     have hlen:kvs.length=vs.length:=Paired.length r
     exact wpAny_truthy_dict hS m (by omega) ⟨H,I.tok _,by rw [UA r];exact q⟩
 | _=>exact (show False from e).elim
theorem ZT (ha:PE X a ta)(he:∀ whole,isTrue a X.env whole=(do let v <- whole;standAt a.pos;holding [v] (truthy v))) :
 PT X a (fun σ H Q=>ta σ H fun x H'=>∃ k,Q1w X.K x H' k/\Q k H'):=by
 intro pins s σ H Q I h
 exact isTrue_plain (thn (ha pins s σ H _ I h) fun v s1 ⟨x,H1,I1,r1,q1⟩=>J8j pins s1 σ H1 x v Q I1 r1 q1) (he _)
theorem FW {x:V}{us:List Value}(r:Vals [x] us):∃ u,us=[u]/\RelV x u:=by
 cases r with
 | cons r1 r2=>cases r2;exact ⟨_,rfl,r1⟩
theorem YY {x y:V}{us:List Value}(r:Vals [x,y] us):∃ u w',us=[u,w']/\RelV x u/\RelV y w':=by
 cases r with
 | cons r1 r2 =>
   cases r2 with
   | cons r3 r4=>cases r4;exact ⟨_,_,rfl,r1,r3⟩
theorem J2x:AW X (.builtin "abs") (fun xs H Q=>∃ i,xs=[.int i]/\Q (.int (if i<0 then -i else i)) H):=by
 intro pins s σ H xs us Q I r h
 obtain ⟨i,rfl,q⟩:=h
 obtain ⟨u,rfl,t,rfl⟩:=FW r
 exact call_abs_int fun u tk=>⟨.int (if i<0 then -i else i),H,I.tok _,⟨_,rfl⟩,q⟩
theorem FV (hc:X.calm=true):AW X (.builtin "max") (fun xs H Q=>∃ i j,xs=[.int i,.int j]/\Q (.int (if j>i then j else i)) H):=by
 intro pins s σ H xs us Q I r h
 obtain ⟨i,j,rfl,q⟩:=h
 obtain ⟨u,w',rfl,⟨t,rfl⟩,⟨t',rfl⟩⟩:=YY r
 refine max_two_ints (I.ok.hd hc) fun h' tk k=>⟨_,H,I.kept k,?_,q⟩
 by_cases hj:j>i
 · rw [if_pos hj,if_pos hj];exact ⟨_,rfl⟩
 · rw [if_neg hj,if_neg hj];exact ⟨_,rfl⟩
theorem NF (hc:X.calm=true):AW X (.builtin "min") (fun xs H Q=>∃ i j,xs=[.int i,.int j]/\Q (.int (if j<i then j else i)) H):=by
 intro pins s σ H xs us Q I r h
 obtain ⟨i,j,rfl,q⟩:=h
 obtain ⟨u,w',rfl,⟨t,rfl⟩,⟨t',rfl⟩⟩:=YY r
 refine min_two_ints (I.ok.hd hc) fun h' tk k=>⟨_,H,I.kept k,?_,q⟩
 by_cases hj:j<i
 · rw [if_pos hj,if_pos hj];exact ⟨_,rfl⟩
 · rw [if_neg hj,if_neg hj];exact ⟨_,rfl⟩
theorem NG:AW X (.type "int") (fun xs H Q=>(∃ i,xs=[.int i]/\Q (.int i) H)\/∃ k,xs=[.bl k]/\Q (.int (if k then 1 else 0)) H):=by
 intro pins s σ H xs us Q I r h
 rcases h with ⟨i,rfl,q⟩|⟨k,rfl,q⟩
 · obtain ⟨u,rfl,t,rfl⟩:=FW r
   exact call_int_int ⟨.int i,H,I,⟨_,rfl⟩,q⟩
 · obtain ⟨u,rfl,r1⟩:=FW r
   cases r1
   exact call_int_bool ⟨.int (if k then 1 else 0),H,I.tok _,⟨_,rfl⟩,q⟩
end
structure Cls (K:Fg)(C:Addr):Prop where
 pg:PySem.W.plainGet K C Str.empty=true
 hd:PySem.W.hasDictIn K C=true
 po:PySem.W.plainOver K C=true
 sa:PySem.W.findIn K (.ref C) "__setattr__" = some (some (.builtin "object.__setattr__"))
theorem Cls.get {C:Addr}(c:Cls K C)(f:Str):PySem.W.plainGet K C f=true:=c.pg
def Q2c (K:Fg)(C:Addr)(f:Str):Prop:=PySem.W.findIn K (.ref C) f=some none
noncomputable def Q6h (K:Fg)(ta:TE)(f:Str):TE:=fun σ H Q=>ta σ H fun x H1=>∃ a C dx fs v,x=.ref a/\H1 a=some (.ins C dx fs)/\Cls K C/\Q2c K C f/\fs.lookup f=some v/\Q v H1
section
variable {H:Hp}
inductive TyOf (K:Fg)(H:Hp):V->Value->Prop where
 | non:TyOf K H .non (.type "NoneType")
 | bl (x:Bool):TyOf K H (.bl x) (.type "bool")
 | int (i:Int):TyOf K H (.int i) (.type "int")
 | str (x:Str):TyOf K H (.str x) (.type "str")
 | flt (x:UInt64):TyOf K H (.flt x) (.type "float")
 | lst {a:Addr} {xs:List V} (e:H a=some (.lst xs)):TyOf K H (.ref a) (.type "list")
 | frz {a:Addr} {o:Obj} {xs:List V} (e:H a=some (.frz o (.lst xs))):TyOf K H (.ref a) (.type "list")
 | tup {a:Addr} {xs:List V} (e:H a=some (.tup xs)):TyOf K H (.ref a) (.type "tuple")
 | dK {a:Addr} {kvs:List (Key×V)} (e:H a=some (.dK kvs)):TyOf K H (.ref a) (.type "dict")
 | dT {a:Addr} {kvs:List (List Key×V)} (e:H a=some (.dT kvs)):TyOf K H (.ref a) (.type "dict")
 | ins {a C dx:Addr} {fs:List (Str×V)} (e:H a=some (.ins C dx fs)) (cl:Cls K C) (ha:PySem.W.findIn K (.ref C) "__class__" = some (some (.builtin "object.__class__")))
  (hn:PySem.W.specialIn K (.builtin "object.__class__") "__get__" = some (some (.builtin "getset_descriptor.__get__"))) (htk:PySem.W.takesIn K (.builtin "object.__class__")=some true)
  (hm:PySem.W.mroIn K C (.type "object")=some true):TyOf K H (.ref a) (.ref C)
end
structure Room (k:Nat)(A:Around):Prop where
 hd:A.handled=none
 dp:A.depth+3*k+5<recursionLimit
 un:A.units+16*k+200<cLine
theorem Room.mono {j k:Nat}{A:Around}(r:Room k A)(h:j<=k):Room j A:=⟨r.hd,by have:=r.dp;omega,by have:=r.un;omega⟩
theorem Room.deeper {k:Nat}{A:Around}(r:Room (k+1) A)(env:Env):Room k (A.deeper env) :=
 ⟨r.hd,by have:=r.dp;show A.depth+1+3*k+5<_;omega,by have:=r.un;show A.units+3+16*k+200<_;omega⟩
theorem Room.in1 {k:Nat}{A:Around}(r:Room (k+1) A):Room k A.in1 :=
 ⟨r.hd,by have:=r.dp;show A.depth+3*k+5<_;omega,by have:=r.un;show A.units+1+16*k+200<_;omega⟩
theorem Room.depth {k:Nat}{A:Around}(r:Room k A):A.depth<recursionLimit:=by have:=r.dp;omega
theorem Room.units {k:Nat}{A:Around}(r:Room k A):A.units+64<cLine:=by have:=r.un;omega
noncomputable def Q2n:TA:=fun _ H Q=>Q [] H
noncomputable def ZF (ta:TE)(tr:TA):TA:=fun σ H Q=>ta σ H fun x H1=>tr σ H1 fun xs H2=>Q (x::xs) H2
section
variable {X:Cx}{e:Expr}{es:List Expr}{te:TE}{t:TA}{pos:Pos}
theorem DI:PA X [] Q2n:=fun _ _ _ _ H Q I h=>Calls.spliced_nil ⟨[],H,I,.nil,h⟩
theorem AF (ha:PE X e te)(hr:PA X es t)(hs:starEach (e::es) X.env=(false,eval e X.env)::starEach es X.env:=by rfl):PA X (e::es) (ZF te t):=by
 intro pos pins s σ H Q I h
 rw [hs]
 show wpAny _ _ (spliced ((false,eval e X.env)::backTo pos (starEach es X.env))) _ _ s
 refine Calls.spliced_cons (thn (ha pins s σ H _ I h) fun u s1 ⟨x,H1,I1,r1,q1⟩=>?_)
 exact thn (hr pos pins s1 σ H1 _ I1 q1) fun us s2 ⟨xs,H2,I2,r2,q2⟩=>⟨x::xs,H2,I2,.cons r1 r2,q2⟩
noncomputable def Q2h (t:TA):TE:=fun σ H Q=>t σ H fun xs H1=>xs.length<=sizeLine/\∀ p,H1 p=none->Q (.ref p) (upd H1 p (.tup xs))
noncomputable def Q5j (t:TA):TE:=fun σ H Q=>t σ H fun xs H1=>xs.length<=sizeLine/\∀ p,H1 p=none->Q (.ref p) (upd H1 p (.lst xs))
theorem TH {x1}(h:PA X es t):PE X (.Tuple es x1 pos) (Q2h t):=by
 intro pins s σ H Q I hq
 refine wpAny_Tuple_spliced (thn (h pos pins s σ H _ I hq) fun us s1 ⟨xs,H1,I1,r,z,q⟩=>⟨by rw [<- r.length];exact z,?_⟩)
 have hf:H1 s1.heap.objs.size=none:=I1.hok.fresh (Nat.le_refl _)
 refine ⟨.ref s1.heap.objs.size,upd H1 s1.heap.objs.size (.tup xs),I1.laid (t':=s1.toks) (fun b u e=>Heap.get?_push_of_some _ e) (Nat.le_refl _) ?_,rfl,q _ hf⟩
 exact ⟨z,us,r,⟨_,Heap.get?_push_size _ rfl,rfl,_,rfl⟩⟩
theorem TL (h:PA X es t):PE X (.List es pos) (Q5j t):=by
 intro pins s σ H Q I hq
 refine wpAny_List_spliced (thn (h pos pins s σ H _ I hq) fun us s1 ⟨xs,H1,I1,r,z,q⟩=>⟨by rw [<- r.length];exact z,?_⟩)
 have hf:H1 s1.heap.objs.size=none:=I1.hok.fresh (Nat.le_refl _)
 refine ⟨.ref s1.heap.objs.size,upd H1 s1.heap.objs.size (.lst xs),I1.laid (t':=s1.toks) (fun b u e=>Heap.get?_push_of_some _ e) (Nat.le_refl _) ?_,rfl,q _ hf⟩
 exact ⟨z,us,0,r,Heap.get?_push_size _ rfl⟩
end
abbrev Sp:=List V->Hp->VK->XK->Prop
abbrev CXT:=List Env->Hp->Shared->XK->Value->Shared->Prop
structure Env0 (P:Program)(w:World)(K:Fg)(mg:Str->Option Value)(base:Heap)(A:Around)(outer:List Env)(s:Shared)(H:Hp):Prop where
 frames:A.frames=some outer
 mod:Mod K mg base
 bs:∀ b o,base.get? b=some o->s.heap.get? b=some o/\H b=none
 bsz:base.objs.size<=s.heap.objs.size
 funs:s.heap.FunFrames base outer
 frf:∀ b∈frs outer,H b=none
 hok:HOk P w H s.heap
 bare:AllBare s.gens
def CE (outer:List Env)(P:Program)(w:World)(H:Hp)(s:Shared)(Q:VK)(u:Value)(s':Shared):Prop :=
 ∃ v H',s'.os=s.os/\AllBare s'.gens/\Un (frs outer) [] H H' s.heap s'.heap/\HOk P w H' s'.heap/\RelV v u/\Q v H'
def CR (CX:CXT)(outer:List Env)(P:Program)(w:World)(H:Hp)(s:Shared)(Q:VK)(E:XK)(r:Result)(s':Shared):Prop :=
 match r with
 | .ok (.ret u)=>CE outer P w H s Q u s'
 | .ok _=>False
 | .error e=>CX outer H s E e s'
structure FnOk (P:Program)(w:World)(K:Fg)(mg:Str->Option Value)(base:Heap)(CX:CXT)(k:Nat)(f:Addr)(fd:FuncData)(ps:List Str)(sp:Sp):Prop where
 len:∀ vs H Q E,sp vs H Q E->vs.length=ps.length
 run:∀ (A:Around) (outer:List Env) (s:Shared) (H:Hp) (args:Args) (us:List Value) (vs:List V) (Q:VK) (E:XK),Room k A->Env0 P w K mg base A outer s H->BindsTo s fd args (ps.zip us)->Vals vs us->sp vs H Q E ->
  codeAny (model P w) A (.call (.ref f) args) (CR CX outer P w H s Q E) s
theorem FnOk.mono {w:World} {CX:CXT}{j k:Nat}{f:Addr} {ps:List Str}{sp:Sp}(F:FnOk P w K mg base CX j f fd ps sp)(h:j<=k) :
 FnOk P w K mg base CX k f fd ps sp:=⟨F.len,fun A outer s H args us vs Q E hr=>F.run A outer s H args us vs Q E (hr.mono h)⟩
theorem FnOk.imp {w:World} {CX:CXT}{k:Nat}{f:Addr} {ps:List Str}{sp sp':Sp}(F:FnOk P w K mg base CX k f fd ps sp)
 (h:∀ vs H Q E,sp' vs H Q E->sp vs H Q E):FnOk P w K mg base CX k f fd ps sp' :=
 ⟨fun vs H Q E q=>F.len vs H Q E (h _ _ _ _ q),fun A outer s H args us vs Q E hr he hb hv hs=>F.run A outer s H args us vs Q E hr he hb hv (h _ _ _ _ hs)⟩
theorem Env0.in1 {w:World} {A:Around}{outer:List Env}{s:Shared}{H:Hp}(e:Env0 P w K mg base A outer s H) :
 Env0 P w K mg base A.in1 outer s H:=⟨e.frames,e.mod,e.bs,e.bsz,e.funs,e.frf,e.hok,e.bare⟩
section
variable {X:Cx}{pins:List (Addr×Obj)}{σ:St}{H:Hp}{s s':Shared}
theorem Inv.env0 (I:Inv X pins σ H s):Env0 X.prog X.w X.K X.mg X.base X.A X.stack s H :=
 ⟨I.ok.frames,I.ok.mod,I.bs,Nat.le_trans I.ok.bsz I.sz,I.stack,I.stkFree,I.hok,I.bare⟩
theorem Inv.after {Q:VK}{u:Value}(I:Inv X pins σ H s)(h:CE X.stack X.prog X.w H s Q u s'):EP X pins σ Q u s':=by
 obtain ⟨v,H',os,bare,un,hok,r,q⟩:=h
 obtain ⟨hh,g,d,t,os'⟩:=s'
 obtain rfl:os'=s.os:=os
 exact ⟨v,H',I.call (h':=hh) (g':=g) (d':=d) (t':=t) (ch:=[]) un hok bare (fun b z=>absurd z (by simp)),r,q⟩
end
noncomputable def UU (sp:Sp)(dvs:List V)(E:XK)(t:TA):TE:=fun σ H Q=>t σ H fun vs H1=>sp (vs++dvs) H1 Q E
noncomputable def Q6f (C:Addr)(m:Str)(sp:Sp)(dvs:List V)(E:XK)(ta:TE)(t:TA):TE:=fun σ H Q=>ta σ H fun x H1=>∃ a dx fs,x=.ref a/\H1 a=some (.ins C dx fs)/\fs.lookup m=none /\
 t σ H1 fun vs H2=>sp (x::(vs++dvs)) H2 Q E
noncomputable def Q6g (C:Addr)(sp:Sp)(dvs:List V)(E:XK)(t:TA):TE:=fun σ H Q=>t σ H fun vs H1=>∀ x dx,H1 x=none->H1 dx=none->dx≠x ->
 sp (.ref x::(vs++dvs)) (upd (upd H1 dx (.own x)) x (.ins C dx [])) (fun v H2=>v=.non/\Q (.ref x) H2) E
def Binds (K:Fg)(fd:FuncData)(ps:List Str)(ds:List Value):Prop :=
 ∀ (s:Shared) (us:List Value),K.In s.heap->(us++ds).length=ps.length->BindsTo s fd ⟨us,[]⟩ (ps.zip (us++ds))
theorem Binds.all {ps:List Str}(h:∀ us:List Value,us.length=ps.length->bindArgs fd ⟨us,[]⟩=pure (ps.zip us)):Binds K fd ps []:=fun s us _ hl=>by
 rw [List.append_nil] at hl ⊢
 exact .of_eq (h us hl)
def DL (CX:CXT)(X:Cx)(E:XK):Prop:=∀ (pins:List (Addr×Obj)) (σ:St) (H:Hp) (s:Shared) (e:Value) (s':Shared),Inv X pins σ H s->CX X.stack H s E e s'->X.xe e s'
section
variable {X:Cx}{CX:CXT}{k:Nat}{f:Addr}{fd:FuncData}{ps:List Str}{sp:Sp}{dvs:List V}{ds:List Value}{E:XK}{x:Str}{p pos:Pos}{e:Expr}{es:List Expr}{t:TA}
theorem J8s {pins:List (Addr×Obj)}{σ:St}{H:Hp}{s:Shared}{Q:VK}{us:List Value}{vs:List V}(F:FnOk X.prog X.w X.K X.mg X.base CX k f fd ps sp)(hr:Room k X.A)(hb:Binds X.K fd ps ds)(hd:Vals dvs ds)(hx:DL CX X E)
 (I:Inv X pins σ H s) (r:Vals vs us) (h:sp (vs++dvs) H Q E):wpAny (model X.prog X.w) X.A (call (.ref f) us) (EP X pins σ Q) X.xe s:=by
 have r2:Vals (vs++dvs) (us++ds):=r.append hd
 have hl:(us++ds).length=ps.length:=by rw [<- r2.length];exact F.len _ _ _ _ h
 refine wpAny_call (codeAny_mono (F.run X.A X.stack s H ⟨us,[]⟩ (us++ds) (vs++dvs) Q E hr I.env0 (hb s us I.kIn hl) r2 h) fun r s' hq=>?_)
 cases r with
 | error e=>exact hx pins σ H s e s' I hq
 | ok fl =>
   cases fl with
   | ret u=>exact I.after hq
   | next=>exact False.elim hq
   | brk=>exact False.elim hq
   | cont=>exact False.elim hq
theorem VB (F:FnOk X.prog X.w X.K X.mg X.base CX k f fd ps sp)(hr:Room k X.A)(hg:Gl X x)(hm:X.mg x=some (.ref f))(hk:PySem.W.keepIn X.K (.ref f)=true)(hb:Binds X.K fd ps ds)(hd:Vals dvs ds)(hx:DL CX X E)
 (ha:PA X (e::es) t) (hdb:(x==("__debug__" : Str))=false:=by decide) (he:starEach (e::es) X.env=(false,eval e X.env)::starEach es X.env:=by rfl) (hpl:(backTo pos (starEach es X.env)).any (·.1)=false:=by rfl) :
 PE X (.Call (.Name x p) (e::es) [] pos) (UU sp dvs E t):=by
 intro pins s σ H Q I h
 refine wpAny_Call_Name_kw (VJ I hg hm ?_ hdb)
 refine PySem.W.callWith_K (h₀:=X.base) I.ok.mod.kin hk (thn (ha pos pins s σ H _ I h) fun us s1 ⟨vs,H1,I1,r,q⟩=>⟨I1.kIn,?_⟩) he hpl
 exact J8s F hr hb hd hx I1 r q
end
structure FnScope (N P:List Str)(sc:Scope):Prop where
 kind:sc.kind=.function
 co:sc.isCoroutine=false
 gen:sc.isGenerator=false
 nd:N.Nodup
 pre:N.take P.length=P
 par:∀ x∈P,sc.names.lookup x=some .local\/sc.names.lookup x=some .cell
 nofree:∀ y∈sc.names,y.2≠.free
theorem NH {kindOf:Str->Option NameKind}{x:Str}:∀ {binds:List (Str×Value)} {m:Str->Option Value},(∀ v,(x,v)∉binds)->bindL kindOf binds m x=m x
 | [],_,_=>rfl
 | (n,v)::r,m,h=>by
   unfold bindL
   rw [NH fun w hw=>h w (List.mem_cons_of_mem _ hw)]
   split
   · have:x≠n:=by rintro rfl;exact h v List.mem_cons_self
     simp [this]
   · rfl
theorem NJ {kindOf:Str->Option NameKind}{x:Str}:∀ {binds:List (Str×Value)} {m:Str->Option Value},(∀ v,(x,v)∉binds)->bindC kindOf binds m x=m x
 | [],_,_=>rfl
 | (n,v)::r,m,h=>by
   unfold bindC
   rw [NJ fun w hw=>h w (List.mem_cons_of_mem _ hw)]
   split
   · rfl
   · have:x≠n:=by rintro rfl;exact h v List.mem_cons_self
     simp [this]
theorem NI {kindOf:Str->Option NameKind}{x:Str}{v:Value}:∀ {P:List Str} {vs:List Value} {i:Nat} {m:Str->Option Value},P.Nodup->P[i]?=some x->vs[i]?=some v->kindOf x=some .local ->
 bindL kindOf (P.zip vs) m x=some v
 | [],_,_,_,_,h,_,_=>by simp at h
 | _::_,[],_,_,_,_,h,_=>by simp at h
 | p::P,w::vs,0,m,nd,h1,h2,hk=>by
   simp at h1 h2;subst h1;subst h2
   show bindL kindOf ((p,w)::P.zip vs) m p=_
   unfold bindL
   rw [NH fun v hv=>(List.nodup_cons.mp nd).1 (List.of_mem_zip hv).1,if_pos hk]
   simp
 | p::P,w::vs,i+1,m,nd,h1,h2,hk=>by
   show bindL kindOf ((p,w)::P.zip vs) m x=_
   unfold bindL
   exact NI (i:=i) (List.nodup_cons.mp nd).2 (by simpa using h1) (by simpa using h2) hk
theorem NK {kindOf:Str->Option NameKind}{x:Str}{v:Value}:∀ {P:List Str} {vs:List Value} {i:Nat} {m:Str->Option Value},P.Nodup->P[i]?=some x->vs[i]?=some v->kindOf x≠some .local ->
 bindC kindOf (P.zip vs) m x=some v
 | [],_,_,_,_,h,_,_=>by simp at h
 | _::_,[],_,_,_,_,h,_=>by simp at h
 | p::P,w::vs,0,m,nd,h1,h2,hk=>by
   simp at h1 h2;subst h1;subst h2
   show bindC kindOf ((p,w)::P.zip vs) m p=_
   unfold bindC
   rw [NJ fun v hv=>(List.nodup_cons.mp nd).1 (List.of_mem_zip hv).1,if_neg hk]
   simp
 | p::P,w::vs,i+1,m,nd,h1,h2,hk=>by
   show bindC kindOf ((p,w)::P.zip vs) m x=_
   unfold bindC
   exact NK (i:=i) (List.nodup_cons.mp nd).2 (by simpa using h1) (by simpa using h2) hk
def CV (N:List Str)(vs:List V):St:=vs.map some++List.replicate (N.length - vs.length) none
def Z8 (CX:CXT)(P:Program)(w:World)(K:Fg)(mg:Str->Option Value)(base:Heap)(N:List Str)(qual:Str)(scope:Scope)(f:Addr)(cd:Value)(A:Around)(outer:List Env)(s:Shared)(H:Hp)(E:XK):Cx where
 prog:=P
 w:=w
 K:=K
 mg:=mg
 base:=base
 A:=A.deeper (envOfC qual scope s.heap.objs.size f cd)
 N:=N
 s₀:=s
 H₀:=H
 env:=envOfC qual scope s.heap.objs.size f cd
 outer:=outer
 stack:=envOfC qual scope s.heap.objs.size f cd::outer
 ex:=[]
 calm:=true
 fn:=fun _=>true
 pn:=[]
 xe:=fun e s'=>wpAny (model P w) (A.deeper (envOfC qual scope s.heap.objs.size f cd)) (leaving (envOfC qual scope s.heap.objs.size f cd) e) (fun _ s''=>CX outer H s E e s'') (fun e' s''=>CX outer H s E e' s'') s'
theorem SF {sc:Scope}{n:Nat}{x:Str}(h:sc.names.lookup x=some .cell):∃ c,(cellsFrom n sc.names []).lookup x=some c:=by
 have q:=PySem.W.cellsFrom_some sc.names n [] (.inl h)
 exact Option.isSome_iff_exists.mp q
theorem YC {CX:CXT}{P:Program}{w:World}{K:Fg}{mg:Str->Option Value}{base:Heap}{N ps:List Str}{qual:Str}{scope:Scope}{f:Addr}{cd:Value}{A:Around}{outer:List Env}{s s1:Shared}{H:Hp}{E:XK}{us:List Value}{vs:List V}
 (S:FnScope N ps scope) (hd:A.handled=none) (e0:Env0 P w K mg base A outer s H) (hl:vs.length=ps.length) (r:Vals vs us)
 (x:InCallC s s.heap.objs.size (bindL (envOfC qual scope s.heap.objs.size f cd).kindOf (ps.zip us) fun _=>none) (cellsFrom (s.heap.objs.size+1) scope.names []) (bindC (envOfC qual scope s.heap.objs.size f cd).kindOf (ps.zip us) fun _=>none) s1) :
 Inv (Z8 CX P w K mg base N qual scope f cd A outer s H E) [] (CV N vs) H s1:=by
 have hpl:ps.length<=N.length:=by have:=congrArg List.length S.pre;rw [List.length_take] at this;omega
 obtain ⟨h1,tk,rfl,hk⟩:=x.done
 have noA:∀ b:Addr,b∉(Z8 CX P w K mg base N qual scope f cd A outer s H E).ex:=fun b z=>absurd (show b∈([]:List Addr) from z) (by simp)
 refine ⟨⟨e0.mod,S.kind,rfl,rfl,Nat.le_refl _,fun y z c h1 h2=>?_,fun y hy=>?_,fun y c _ h=>?_,fun _=>hd,Around.frames_deeper e0.frames,.inr ⟨rfl,rfl⟩,fun b z=>absurd z (noA b),e0.bs,e0.bsz,fun b _ _=>noA b,fun b z=>absurd z (noA b),e0.funs,e0.frf⟩,
  rfl,e0.bare,Un.kept hk,⟨_,x.toInCall.ns,fun i y v h1 h2 h3=>?_⟩,fun y c h=>⟨_,x.cell y c h⟩,e0.hok.fresh (Nat.le_refl _),fun y c h=>?_,fun p hp=>absurd (show p∈([]:List (Addr×Obj)) from hp) (by simp),e0.hok.kept hk,?_⟩
 · exact name_of_addr x.apart (PySem.mem_of_lookup h1) (PySem.mem_of_lookup h2)
 · have hy:scope.names.lookup y=some .cell\/scope.names.lookup y=some .free:=hy
   rcases hy with hy|hy
   · exact SF hy
   · exact absurd rfl (S.nofree _ (PySem.mem_of_lookup hy))
 · exact Nat.le_of_lt (x.above y c (PySem.mem_of_lookup h))
 · have hi:i<vs.length:=by
    unfold CV at h2
    by_cases hi:i<vs.length
    · exact hi
    · rw [List.getElem?_append_right (by simpa using hi)] at h2
      rw [List.getElem?_replicate] at h2
      split at h2<;>cases h2
   have ha:vs[i]?=some v:=by
    unfold CV at h2
    rw [List.getElem?_append_left (by simpa using hi),List.getElem?_map] at h2
    cases e:vs[i]? with
    | none=>rw [e] at h2;cases h2
    | some a=>rw [e] at h2;cases h2;rfl
   obtain ⟨u,hu,rv⟩:=r.get ha
   have hp:ps[i]?=some y:=by
    rw [<- S.pre,List.getElem?_take_of_lt (by omega)];exact h1
   have ndP:ps.Nodup:=by rw [<- S.pre];exact S.nd.sublist (List.take_sublist _ _)
   refine ⟨u,rv,?_⟩
   rcases S.par y (List.mem_of_getElem? hp) with k|k
   · exact .inl ⟨k,NI ndP hp hu k⟩
   · obtain ⟨c,e⟩:=SF (n:=s.heap.objs.size+1) k
     refine .inr ⟨.inl k,c,e,?_⟩
     have q:=x.cell y c e
     rw [NK ndP hp hu (by show scope.names.lookup y≠_;rw [k];decide)] at q
     exact q
 · exact e0.hok.fresh (Nat.le_of_lt (x.above y c (PySem.mem_of_lookup h)))
 · unfold CV
   show _=N.length
   rw [List.length_append,List.length_map,List.length_replicate]
   omega
theorem J7o {CX:CXT}{P:Program}{w:World}{K:Fg}{mg:Str->Option Value}{base:Heap}{k:Nat}{f:Addr}{name qual:Str}{params:Arguments}{body:List Stmt}{scope:Scope}{dV kV doc pm cdv ct oc:Value}{an od:Option Addr}
 {osl:Array (Option Value)} {N ps:List Str} {sp:Sp} (lk:K.lookup f=some ⟨oc,od,.func (PySem.W.fnOf name qual params body scope dV kV doc pm an cdv ct),osl⟩) (hcd:PySem.W.codeIn K cdv qual=true) (S:FnScope N ps scope)
 (len:∀ vs H Q E,sp vs H Q E->vs.length=ps.length)
 (hbody:∀ (A:Around) (outer:List Env) (s:Shared) (H:Hp) (vs:List V) (Q:VK) (E:XK),Room k (A.deeper (envOfC qual scope s.heap.objs.size f cdv))->sp vs H Q E ->
  ∃ t,PSs (Z8 CX P w K mg base N qual scope f cdv A outer s H E) body t/\t { nx:=fun _ H'=>Q .non H',rt:=Q } (CV N vs) H) :
 FnOk P w K mg base CX (k+1) f (PySem.W.fnOf name qual params body scope dV kV doc pm an cdv ct) ps sp:=by
 refine ⟨len,fun A outer s H args us vs Q E hr e0 hb r hsp=>?_⟩
 have hl:=len _ _ _ _ hsp
 have KX:K.In s.heap:=e0.mod.kin.keeps fun b o e=>(e0.bs b o e).1
 have lim:s.heap.NoLimit:=e0.mod.nolimit.keeps fun b o e=>(e0.bs b o e).1
 have hkind:∀ y∈ps.zip us,scope.names.lookup y.1=some .local\/(scope.names.lookup y.1=some .cell/\((cellsFrom (s.heap.objs.size+1) scope.names []).lookup y.1).isSome=true):=fun ⟨n,v⟩ hy=>by
  rcases S.par n (List.of_mem_zip hy).1 with q|q
  · exact .inl q
  · exact .inr ⟨q,PySem.W.cellsFrom_some _ _ _ (.inl q)⟩
 refine codeAny_call_function hr.depth (KX _ _ lk) rfl S.co S.gen rfl (PySem.W.codeRec_of KX hcd) (hb _ _ _ _ ?_)
 refine wpAny_newFunctionEnv_cells S.kind hkind fun env he s1 x=>?_
 subst he
 refine ⟨lim.keeps x.toInCall.keep,codeAny_func ?_⟩
 obtain ⟨t,ht,hq⟩:=hbody A outer s H vs Q E (hr.deeper _) hsp
 have I:Inv (Z8 CX P w K mg base N qual scope f cdv A outer s H E) [] (CV N vs) H s1:=YC S hr.hd e0 hl r x
 refine wpAny_mono (ht [] s1 (CV N vs) H _ I hq) (fun fl s' hs=>?_) fun e s' hs=>hs
 have fin:∀ {σ':St} {H':Hp} {v:V} {u:Value},Inv (Z8 CX P w K mg base N qual scope f cdv A outer s H E) [] σ' H' s'->RelV v u->Q v H'->CE outer P w H s Q u s' :=
  fun {σ' H' v u} J rv q=>⟨v,H',J.os,J.bare,J.base,J.hok,rv,q⟩
 cases fl with
 | ret u =>
   obtain ⟨v,σ',H',J,rv,q⟩:=hs
   exact fin J rv q
 | next =>
   obtain ⟨σ',H',J,q⟩:=hs
   exact fin (v:=V.non) (u:=Value.none) J rfl q
 | brk =>
   obtain ⟨_,_,_,q⟩:=hs
   exact False.elim q
 | cont =>
   obtain ⟨_,_,_,q⟩:=hs
   exact False.elim q
section
variable {X:Cx}{x:Str}{p pos:Pos}{e:Expr}{es:List Expr}{t:TA}{id T:String}{r:List V->Hp->VK->Prop}
noncomputable def tCB (r:List V->Hp->VK->Prop)(t:TA):TE:=fun σ H Q=>t σ H fun vs H1=>r vs H1 Q
theorem DR (hc:AW X (.builtin id) r)(hg:Gl X x)(hm:X.mg x=none)(hv:bootBuiltins x=some (.builtin id))(ha:PA X (e::es) t)(hn:x≠"__name__":=by decide) (hdb:(x==("__debug__" : Str))=false:=by decide)
 (he:starEach (e::es) X.env=(false,eval e X.env)::starEach es X.env:=by rfl) (hpl:(backTo pos (starEach es X.env)).any (·.1)=false:=by rfl):PE X (.Call (.Name x p) (e::es) [] pos) (tCB r t):=by
 intro pins s σ H Q I h
 refine wpAny_Call_Name_kw (OI I hg hm hv ?_ hn hdb)
 exact PyProof.Rows.callWith_builtin1 (thn (ha pos pins s σ H _ I h) fun us s1 ⟨vs,H1,I1,r1,q1⟩=>hc pins s1 σ H1 vs us Q I1 r1 q1) he hpl
theorem MJ (hc:AW X (.type T) r)(hg:Gl X x)(hm:X.mg x=none)(hv:bootBuiltins x=some (.type T))(ha:PA X (e::es) t)(hn:x≠"__name__":=by decide) (hdb:(x==("__debug__" : Str))=false:=by decide)
 (he:starEach (e::es) X.env=(false,eval e X.env)::starEach es X.env:=by rfl) (hpl:(backTo pos (starEach es X.env)).any (·.1)=false:=by rfl):PE X (.Call (.Name x p) (e::es) [] pos) (tCB r t):=by
 intro pins s σ H Q I h
 refine wpAny_Call_Name_kw (OI I hg hm hv ?_ hn hdb)
 exact PyProof.Rows.callWith_type1 (thn (ha pos pins s σ H _ I h) fun us s1 ⟨vs,H1,I1,r1,q1⟩=>hc pins s1 σ H1 vs us Q I1 r1 q1) he hpl
end
end L2
namespace HT
open PySem PyProof.Rows
section
variable {prog:Program}{w:World}{A:Around}{E:Value->Shared->Prop}{s:Shared}
theorem cat_tup {t b:Addr}{vs ws:List Value}{Q:Value->Shared->Prop}(ht:IsTup s.heap t vs.toArray)(hb:IsTup s.heap b ws.toArray)(hv:vs≠[])
 (h1:ws=[]->Q (.ref t) s) (h2:ws≠[]->Q (.ref s.heap.objs.size) { s with heap:=s.heap.push { cls:=.type "tuple",data:=.seq (vs++ws).toArray } })
 (hsz:vs.length+ws.length<=sizeLine):wpAny (model prog w) A (binaryOp .Add (.ref t) (.ref b)) Q E s:=by
 obtain ⟨⟨cls,dd,data,sl⟩,ho,hc,n,hd⟩:=id ht
 obtain ⟨⟨cls2,dd2,data2,sl2⟩,ho2,hc2,n2,hd2⟩:=id hb
 simp only at hc hd hc2 hd2
 subst hc hd hc2 hd2
 have e:vs.toArray++ws.toArray=(vs++ws).toArray:=by simp
 by_cases hw:ws=[]
 · exact concat_meets ⟨_,ho,rfl⟩ ⟨_,ho2,rfl⟩ noFill_tuple_add seq_tuple_add PySem.F.slot_tuple_add PySem.F.entry_tuple_add (PySem.F.args_tuple_add_2 _ _)
    (tuple_addW1 t b vs.toArray ws.toArray n n2 dd dd2 sl sl2 (by simpa using hv) (by simp [hw])) ⟨ho,ho2,h1 hw⟩
 · refine concat_meets ⟨_,ho,rfl⟩ ⟨_,ho2,rfl⟩ noFill_tuple_add seq_tuple_add PySem.F.slot_tuple_add PySem.F.entry_tuple_add (PySem.F.args_tuple_add_2 _ _)
    (tuple_addW2 t b vs.toArray ws.toArray n n2 dd dd2 sl sl2 (by simpa using hv) (by simpa using hw) (by rw [List.size_toArray,List.size_toArray];exact hsz)) ⟨ho,ho2,?_⟩
   rw [e]
   exact h2 hw
def sIx (n d:Nat):Option Int->Nat
 | none=>d
 | some v=>if v<0 then (v+(n:Int)).toNat else min v.toNat n
theorem J8r (n d:Nat)(hd:d<=n)(o:Option Int):sIx n d o<=n:=by
 cases o with
 | none=>exact hd
 | some v =>
   show (if v<0 then (v+(n:Int)).toNat else min v.toNat n)<=n
   by_cases hv:v<0
   · rw [if_pos hv];omega
   · rw [if_neg hv];exact Nat.min_le_right _ _
theorem WA (v:Int)(n d:Nat):(if v<0 then max (v+(n:Int)) 0 else min v (n:Int))=((sIx n d (some v):Nat):Int):=by
 show (if v<0 then max (v+(n:Int)) 0 else min v (n:Int))=(((if v<0 then (v+(n:Int)).toNat else min v.toNat n):Nat):Int)
 by_cases hv:v<0
 · simp only [if_pos hv];omega
 · simp only [if_neg hv];omega
theorem UM (lo hi:Option Int)(n:Nat):Builtin.Slice.sliceAdjust lo hi 1 (n:Int)=(((sIx n 0 lo:Nat):Int),((sIx n n hi:Nat):Int)):=by
 have h1:¬ ((1:Int)<0):=by omega
 unfold Builtin.Slice.sliceAdjust
 simp only [h1,if_false]
 refine Prod.ext ?_ ?_
 · cases lo with
   | none=>rfl
   | some v=>exact WA v n 0
 · cases hi with
   | none=>rfl
   | some v=>exact WA v n n
theorem SY (i j:Nat):Builtin.Slice.slicePlaces (i:Int) (j:Int) 1=j - i:=by
 unfold Builtin.Slice.slicePlaces
 have h1:(1:Int)>0:=by omega
 simp only [h1,if_true,Int.ediv_one]
 split<;>omega
theorem IZ {v:Value}{o:Option Int}{Q:Option Int->Shared->Prop}(p:IsPart v o)(h:Q o s):wpAny (model prog w) A (Builtin.Slice.slicePartIndex v) Q E s:=by
 cases p with
 | none=>exact slicePart_none h
 | int i t=>exact slicePart_int h
theorem HE {sl:Addr}{vl vu:Value}{lo hi:Option Int}{n:Nat}{Q:Int×Int×Nat->Shared->Prop}(hs:s.heap.IsSliceOf sl vl vu .none)(pl:IsPart vl lo)(pu:IsPart vu hi)
 (h:Q (((sIx n 0 lo:Nat):Int),1,sIx n n hi - sIx n 0 lo) s):wpAny (model prog w) A (Builtin.Slice.sliceApplied (.ref sl) (pure (n:Int))) Q E s:=by
 obtain ⟨os,hos,hcs,hds⟩:=id hs
 unfold Builtin.Slice.sliceApplied Builtin.Slice.sliceFields
 refine wpAny_bind (wpAny_bind (wpAny_field hos hds (x:=vl) rfl (wpAny_bind (wpAny_field hos hds (x:=vu) rfl (wpAny_bind (wpAny_field hos hds (x:=.none) rfl (wpAny_pure ?_)))))))
 refine wpAny_bind (slicePart_none ?_)
 show wpAny _ _ (if ((1:Int)==0)=true then _ else _) _ _ s
 rw [if_neg (by decide)]
 refine wpAny_bind (IZ pl (wpAny_bind (IZ pu (wpAny_bind (wpAny_pure ?_)))))
 show wpAny _ _ (match Builtin.Slice.sliceAdjust lo hi 1 (n:Int) with|(lo,hi)=>pure (lo,(1:Int),Builtin.Slice.slicePlaces lo hi 1)) _ _ s
 rw [UM lo hi n]
 show wpAny _ _ (pure (((sIx n 0 lo:Nat):Int),(1:Int),Builtin.Slice.slicePlaces ((sIx n 0 lo:Nat):Int) ((sIx n n hi:Nat):Int) 1)) _ _ s
 rw [SY]
 exact wpAny_pure h
theorem ZY (xs:Array Value)(i k:Nat):((List.range k).filterMap fun (m:Nat)=>xs[((i:Int)+(m:Int)*1).toNat]?).toArray=((xs.toList.drop i).take k).toArray:=by
 have e:(fun (m:Nat)=>xs[((i:Int)+(m:Int)*1).toNat]?)=fun m=>xs[i+m]?:=by
  funext m
  have:((i:Int)+(m:Int)*1).toNat=i+m:=by omega
  rw [this]
 rw [e]
 have:=pick_run xs i k
 rw [List.filterMap_map] at this
 have e2:((fun x=>xs[x]?)∘fun x=>i+x)=fun m=>xs[i+m]?:=rfl
 rw [e2] at this
 rw [this]
theorem getItem_tuple_cut {t sl:Addr}{items:Array Value}{vl vu:Value}{lo hi:Option Int}{Q:Value->Shared->Prop}(ht:IsTup s.heap t items)(hs:s.heap.IsSliceOf sl vl vu .none)(pl:IsPart vl lo)(pu:IsPart vu hi)
 (hw:¬ (sIx items.size 0 lo=0/\sIx items.size items.size hi=items.size))
 (h:Q (.ref s.heap.objs.size) { s with heap:=s.heap.push { cls:=.type "tuple",data:=.seq ((items.toList.drop (sIx items.size 0 lo)).take (sIx items.size items.size hi - sIx items.size 0 lo)).toArray } })
 (hsz:items.size<=sizeLine):wpAny (model prog w) A (getItem (.ref t) (.ref sl)) Q E s:=by
 have htake:sizeOk (.seq ((items.toList.drop (sIx items.size 0 lo)).take (sIx items.size items.size hi - sIx items.size 0 lo)).toArray):=by
  show ((items.toList.drop (sIx items.size 0 lo)).take (sIx items.size items.size hi - sIx items.size 0 lo)).toArray.size<=sizeLine
  rw [List.size_toArray,List.length_take,List.length_drop,Array.length_toList]
  omega
 have hj:sIx items.size items.size hi<=items.size:=J8r _ _ (Nat.le_refl _) hi
 obtain ⟨os,hos,hcs,hds⟩:=id hs
 have hTs:s.TypeIs (.ref sl) "slice":=⟨os,hos,hcs⟩
 unfold getItem
 try with_reducible refine wpAny_holding ?_
 first|refine wpAny_bind (wpAny_pure ?_)|skip
 refine wpAny_bind (wpAny_sequenceKey ht.typeIs (by decide) ?_)
 refine wpAny_bind (wpAny_callSpecial?_slot (name:=Str.ofString "__getitem__") ht.typeIs PyProof.Rows.slot_tuple_getitem
  (wpAny_call_entry PyProof.Rows.slot_tuple_getitem ht.typeIs entry_tuple_getitem ?_ (args_tuple_getitem _ _)))
 show wpAny _ _ (Builtin.Tuple.tupleItemsOf (.ref t) >>= _) _ _ s
 refine wpAny_bind (tupleItemsOf_ ht ?_)
 refine wpAny_bind (wpAny_typeOf hTs ?_)
 rw [if_pos (by decide)]
 refine wpAny_bind (HE hs pl pu ?_)
 have hno:¬ ((((sIx items.size 0 lo:Nat):Int)==0&&(1:Int)==1&&(sIx items.size items.size hi - sIx items.size 0 lo)==items.size)=true):=by
  intro q
  rw [Bool.and_eq_true,Bool.and_eq_true] at q
  have q1:((sIx items.size 0 lo:Nat):Int)=0:=eq_of_beq q.1.1
  have q2:sIx items.size items.size hi - sIx items.size 0 lo=items.size:=eq_of_beq q.2
  exact hw ⟨by omega,by omega⟩
 show wpAny _ _ (if (((sIx items.size 0 lo:Nat):Int)==0&&(1:Int)==1&&(sIx items.size items.size hi - sIx items.size 0 lo)==items.size)=true then _ else _) _ _ s
 rw [if_neg hno,ZY]
 first
  | exact wpAny_bind (m:=Builtin.Tuple.tupleExact _) (wpAny_newObj_type (wpAny_pure ⟨_,rfl,wpAny_pure h⟩) htake)
  | exact wpAny_bind (m:=Builtin.Tuple.tupleExact _) (wpAny_newObj_type (wpAny_bind (wpAny_pure (wpAny_pure ⟨_,rfl,wpAny_pure h⟩))) htake)
  | exact wpAny_bind (wpAny_bind (m:=Builtin.Tuple.tupleExact _) (wpAny_newObj_type (wpAny_pure (wpAny_pure ⟨_,rfl,wpAny_pure h⟩)) htake))
  | exact wpAny_bind (wpAny_bind (m:=Builtin.Tuple.tupleExact _) (wpAny_newObj_type (wpAny_pure ⟨_,rfl,wpAny_pure h⟩) htake))
end
end HT
namespace L2
open PySem PySem.Spec PyProof.Rows
abbrev TO:=St->Hp->(Option Int->Hp->Prop)->Prop
def PO (X:Cx)(e:Option Expr)(t:TO):Prop :=
 ∀ (pins:List (Addr×Obj)) (s:Shared) (σ:St) (H:Hp) (Q:Option Int->Hp->Prop),Inv X pins σ H s->t σ H Q ->
  wpAny (model X.prog X.w) X.A (evalPart e X.env) (fun u s'=>∃ o H',Inv X pins σ H' s'/\IsPart u o/\Q o H') X.xe s
noncomputable def J4b:TO:=fun _ H Q=>Q none H
noncomputable def Q2m (t:TE):TO:=fun σ H Q=>t σ H fun x H1=>∃ i,x=.int i/\Q (some i) H1
section
variable {X:Cx}{e:Expr}{te:TE}{lo hi:Option Expr}{tl th:TO}{pos p2:Pos}
theorem J4t:PO X none J4b:=by
 intro pins s σ H Q I h
 rw [evalPart_none]
 exact wpAny_pure ⟨none,H,I,.none,h⟩
theorem J4s (h:PE X e te):PO X (some e) (Q2m te):=by
 intro pins s σ H Q I hw
 rw [evalPart_some]
 refine thn (h pins s σ H _ I hw) fun u s1 ⟨x,H1,I1,r1,q1⟩=>?_
 obtain ⟨i,rfl,q⟩:=q1
 obtain ⟨t,rfl⟩:=r1
 exact ⟨some i,H1,I1,.int i t,q⟩
def SlR (X:Cx)(r:V->Option Int->Option Int->Hp->VK->Prop):Prop :=
 ∀ (pins:List (Addr×Obj)) (s:Shared) (σ:St) (H:Hp) (x:V) (v vl vu:Value) (lo hi:Option Int) (sl:Addr) (Q:VK),Inv X pins σ H s->RelV x v->s.heap.IsSliceOf sl vl vu .none->IsPart vl lo->IsPart vu hi->r x lo hi H Q ->
  ∃ T id,typeLookup (.type T) "__getitem__" = pure (some (.builtin id))/\s.TypeIs v T/\wpAny (model X.prog X.w) X.A (getItem v (.ref sl)) (EP X pins σ Q) X.xe s
theorem SlR.or {r r':V->Option Int->Option Int->Hp->VK->Prop}(h:SlR X r)(h':SlR X r'):SlR X (fun x lo hi H Q=>r x lo hi H Q\/r' x lo hi H Q):=by
 intro pins s σ H x v vl vu lo hi sl Q I rx hs pl pu q
 rcases q with q|q
 · exact h pins s σ H x v vl vu lo hi sl Q I rx hs pl pu q
 · exact h' pins s σ H x v vl vu lo hi sl Q I rx hs pl pu q
noncomputable def tSl (r:V->Option Int->Option Int->Hp->VK->Prop)(te:TE)(tl th:TO):TE:=fun σ H Q=>te σ H fun x H1=>tl σ H1 fun l H2=>th σ H2 fun u H3=>r x l u H3 Q
theorem J0a {r:V->Option Int->Option Int->Hp->VK->Prop}(hr:SlR X r)(he:PE X e te)(hl:PO X lo tl)(hu:PO X hi th):PE X (.Subscript e (.Slice lo hi none p2) pos) (tSl r te tl th):=by
 intro pins s σ H Q I h
 refine Subscript_ (thn (he pins s σ H _ I h) fun v s1 ⟨x,H1,I1,r1,q1⟩=>?_)
 refine wpAny_Slice (thn (hl pins s1 σ H1 _ I1 q1) fun vl s2 ⟨l,H2,I2,pl,q2⟩=>thn (hu pins s2 σ H2 _ I2 q2) fun vu s3 ⟨u,H3,I3,pu,q3⟩=>?_)
 rw [evalPart_none]
 refine wpAny_pure ?_
 have I4:Inv X pins σ H3 { s3 with heap:=s3.heap.push { cls:=.type "slice",data:=.fields #[vl,vu,.none] } }:=I3.kept (t':=s3.toks) fun b ob q=>Heap.get?_push_of_some _ q
 obtain ⟨T,id,hT,ht,hg⟩:=hr pins { s3 with heap:=s3.heap.push { cls:=.type "slice",data:=.fields #[vl,vu,.none] } } σ H3 x v vl vu l u s3.heap.objs.size Q I4 r1 (Heap.IsSliceOf.new ..) pl pu q3
 show wpAny (model X.prog X.w) X.A (subscriptTail e (.Slice lo hi none p2) v (.ref s3.heap.objs.size)) (EP X pins σ Q) X.xe { s3 with heap:=s3.heap.push { cls:=.type "slice",data:=.fields #[vl,vu,.none] } }
 exact tail_any (ops:=[.ref s3.heap.objs.size,v]) ht hT hg (by with_unfolding_all rfl)
def RX (xs:List V)(lo hi:Option Int):List V:=(xs.drop (HT.sIx xs.length 0 lo)).take (HT.sIx xs.length xs.length hi - HT.sIx xs.length 0 lo)
theorem IE (xs:List V)(lo hi:Option Int):(RX xs lo hi).length<=xs.length:=by
 unfold RX
 rw [List.length_take,List.length_drop]
 omega
noncomputable def ZP (K:Fg):V->Option Int->Option Int->Hp->VK->Prop:=fun x lo hi H Q=>∃ a xs,x=.ref a/\SqT K H a xs /\
 ¬ (HT.sIx xs.length 0 lo=0/\HT.sIx xs.length xs.length hi=xs.length)/\∀ p,H p=none->Q (.ref p) (upd H p (.tup (RX xs lo hi)))
theorem J8o:SlR X (ZP X.K):=by
 intro pins s σ H x v vl vu lo hi sl Q I rx hs pl pu h
 obtain ⟨a,xs,rfl,hx,hw,q⟩:=h
 cases rx
 obtain ⟨its,r,ht,hz⟩:=I.tuple hx
 have hlen:its.toArray.size=xs.length:=by rw [List.size_toArray];exact r.length.symm
 refine ⟨"tuple",_,PyProof.Rows.slot_tuple_getitem.lookup,ht.typeIs,?_⟩
 refine HT.getItem_tuple_cut ht hs pl pu (by rw [hlen];exact hw) ?_ (by rw [hlen];exact hz)
 rw [hlen]
 refine ⟨.ref s.heap.objs.size,_,I.laid (t':=s.toks) (o:=.tup (RX xs lo hi)) (fun b ob q=>Heap.get?_push_of_some _ q) (Nat.le_refl _) ?_,rfl,q _ (I.hok.fresh (Nat.le_refl _))⟩
 exact ⟨Nat.le_trans (IE xs lo hi) hz,_,(r.drop (HT.sIx xs.length 0 lo)).take (HT.sIx xs.length xs.length hi - HT.sIx xs.length 0 lo),IsTup.new _ _⟩
noncomputable def J7f (K:Fg):R2:=fun x y H Q=>∃ a b xs ys,x=.ref a/\y=.ref b/\SqT K H a xs/\SqT K H b ys/\xs≠[]/\xs.length+ys.length<=sizeLine /\
 (ys=[]->Q (.ref a) H)/\(ys≠[]->∀ p,H p=none->Q (.ref p) (upd H p (.tup (xs++ys))))
theorem Vals.nil_iff {xs:List V}{us:List Value}(r:Vals xs us):us=[]↔xs=[]:=by
 cases r with
 | nil=>simp
 | cons _ _=>simp
theorem J5c:OpR X (binaryOp .Add) (J7f X.K):=by
 intro pins s σ H x y v u Q I rx ry h
 obtain ⟨a,b,xs,ys,rfl,rfl,ha,hb,hx,hz,q1,q2⟩:=h
 cases rx
 cases ry
 obtain ⟨its,r1,p1,_⟩:=I.tuple ha
 obtain ⟨its2,r2,p2,_⟩:=I.tuple hb
 refine HT.cat_tup p1 p2 (fun z=>hx (r1.nil_iff.mp z)) (fun z=>⟨.ref a,H,I,rfl,q1 (r2.nil_iff.mp z)⟩) (fun z=>?_) (by rw [<- r1.length,<- r2.length];exact hz)
 refine ⟨.ref s.heap.objs.size,_,I.laid (t':=s.toks) (o:=.tup (xs++ys)) (fun b ob q=>Heap.get?_push_of_some _ q) (Nat.le_refl _) ?_,rfl,q2 (fun w=>z (r2.nil_iff.mpr w)) _ (I.hok.fresh (Nat.le_refl _))⟩
 exact ⟨by rw [List.length_append];exact hz,_,r1.append r2,IsTup.new _ _⟩
end
def ixN (n:Nat)(i:Int):Option Nat:=if 0<=i then (if i<n then some i.toNat else none) else if -(n:Int)<=i then some (i+n).toNat else none
def atI {α:Type}(xs:List α)(i:Int):Option α:=(ixN xs.length i).bind fun j=>xs[j]?
theorem VP {n:Nat}{i:Int}{j:Nat}(h:ixN n i=some j):seqIndex? i n=some j/\j<n/\-(n:Int)<=i/\i<n:=by
 unfold ixN at h
 by_cases h0:0<=i
 · rw [if_pos h0] at h
   by_cases h1:i<n
   · rw [if_pos h1] at h
     have e:i.toNat=j:=Option.some.inj h
     exact ⟨by rw [seqIndex_of h0 h1,e],by omega,by omega,h1⟩
   · rw [if_neg h1] at h;cases h
 · rw [if_neg h0] at h
   by_cases h1 : -(n:Int)<=i
   · rw [if_pos h1] at h
     have e:(i+n).toNat=j:=Option.some.inj h
     exact ⟨by rw [seqIndex_neg (by omega) h1,e],by omega,h1,by omega⟩
   · rw [if_neg h1] at h;cases h
theorem WG {α:Type}{xs:List α}{i:Int}{v:α}(h:atI xs i=some v):∃ j,seqIndex? i xs.length=some j/\xs[j]?=some v/\j<xs.length/\-(xs.length:Int)<=i/\i<xs.length:=by
 unfold atI at h
 cases e:ixN xs.length i with
 | none=>rw [e] at h;cases h
 | some j =>
   rw [e] at h
   obtain ⟨h1,h2,h3,h4⟩:=VP e
   exact ⟨j,h1,h,h2,h3,h4⟩
theorem IV {α:Type}{xs:List α}{j:Nat}{v:α}(h:xs[j]?=some v):atI xs (j:Int)=some v:=by
 have hj:j<xs.length:=(List.getElem?_eq_some_iff.mp h).1
 have e:ixN xs.length (j:Int)=some j:=by
  unfold ixN
  rw [if_pos (by omega),if_pos (by omega)];simp
 unfold atI;rw [e];exact h
def PK (b:Expr):Prop:=∀ o i,subscripted b false o i=operate [o,i] (getItem o i)
def IxR (X:Cx)(r:R2):Prop :=
 ∀ (value slice:Expr) (pins:List (Addr×Obj)) (s:Shared) (σ:St) (H:Hp) (x y:V) (v u:Value) (Q:VK),Inv X pins σ H s->RelV x v->RelV y u->r x y H Q ->
  subscripted slice false v u=operate [v,u] (getItem v u)->wpAny (model X.prog X.w) X.A (subscriptTail value slice v u) (EP X pins σ Q) X.xe s
def MtR (X:Cx)(id:String)(r:V->List V->Hp->VK->Prop):Prop :=
 ∀ (pins:List (Addr×Obj)) (s:Shared) (σ:St) (H:Hp) (x:V) (xs:List V) (v:Value) (us:List Value) (Q:VK),Inv X pins σ H s->RelV x v->Vals xs us->r x xs H Q ->
  wpAny (model X.prog X.w) X.A (call (.builtin id) (v::us)) (EP X pins σ Q) X.xe s
section
variable {X:Cx}{a b:Expr}{ta tb:TE}{pos:Pos}
theorem IxR.or {r r':R2}(h:IxR X r)(h':IxR X r'):IxR X (fun x y H Q=>r x y H Q\/r' x y H Q):=by
 intro value slice pins s σ H x y v u Q I rx ry q hs
 rcases q with q|q
 · exact h value slice pins s σ H x y v u Q I rx ry q hs
 · exact h' value slice pins s σ H x y v u Q I rx ry q hs
theorem GV {r:R2}(hr:IxR X r)(ha:PE X a ta)(hb:PE X b tb)(hs:PK b):PE X (.Subscript a b pos) (tOp r ta tb):=by
 intro pins s σ H Q I h
 exact Subscript_ (Q1s ha hb I h fun v u s2 x y H2 I2 rx ry q=>hr a b pins s2 σ H2 x y v u Q I2 rx ry q (hs _ _))
noncomputable def J4m (K:Fg):R2:=fun x y H Q=>∃ p xs i v,x=.ref p/\y=.int i/\SqL K H p xs/\atI xs i=some v/\Q v H
noncomputable def J4l (K:Fg):R2:=fun x y H Q=>∃ p xs i v,x=.ref p/\y=.int i/\SqT K H p xs/\atI xs i=some v/\Q v H
theorem J5u:IxR X (J4m X.K):=by
 intro value slice pins s σ H x y v u Q I rx ry h hs
 obtain ⟨p,xs,i,z,rfl,rfl,hq,he,q⟩:=h
 cases rx
 obtain ⟨t,rfl⟩:=ry
 obtain ⟨its,r,pl,hz⟩:=I.list hq
 obtain ⟨j,h1,h2,h3,h4,h5⟩:=WG he
 obtain ⟨w,ew,rw'⟩:=r.get h2
 have hl:=r.length
 have hn:=JY
 have fin:EP X pins σ Q w s:=⟨z,H,I,rw',q⟩
 by_cases h0:0<=i
 · have hj:i.toNat=j:=by
    rw [seqIndex_of h0 h5] at h1
    exact Option.some.inj h1
   exact item_listR pl.isList h0 (by omega) (by rw [hj];simpa using ew) fin hs
 · have hj:(i+(its.toArray.size:Int)).toNat=j:=by
    rw [seqIndex_neg (by omega) h4] at h1
    rw [List.size_toArray,<- hl]
    exact Option.some.inj h1
   exact subscriptTail_builtinR (x:=w) pl.isList.typeIs slot_list_getitem.lookup
    (wpAny_getItem_list_neg (Q:=fun r s'=>r=w/\EP X pins σ Q r s') pl.isList (by omega) (by rw [List.size_toArray]<;>omega) (by omega) (by rw [hj];simpa using ew) ⟨rfl,fin⟩) hs
theorem J9y:IxR X (J4l X.K):=by
 intro value slice pins s σ H x y v u Q I rx ry h hs
 obtain ⟨p,xs,i,z,rfl,rfl,hq,he,q⟩:=h
 cases rx
 obtain ⟨t,rfl⟩:=ry
 obtain ⟨its,r,pl,hz⟩:=I.tuple hq
 obtain ⟨j,h1,h2,h3,h4,h5⟩:=WG he
 obtain ⟨w,ew,rw'⟩:=r.get h2
 have hl:=r.length
 have hn:=JY
 have fin:EP X pins σ Q w s:=⟨z,H,I,rw',q⟩
 exact subscriptTail_builtinR (x:=w) pl.typeIs slot_tuple_getitem.lookup
  (getItem_tuple (j:=j) (Q:=fun r s'=>r=w/\EP X pins σ Q r s') pl (by omega) (by omega) (by rw [List.size_toArray,<- hl];exact h1) (by simpa using ew) ⟨rfl,fin⟩) hs
theorem TV (its:List Value)(n j:Nat)(u:Value):Obj.mapSeq (·.setIfInBounds j u) { cls:=.type "list",data:=.seq its.toArray n }={ cls:=.type "list",data:=.seq (its.set j u).toArray n }:=by
 simp [Obj.mapSeq]
theorem Inv.lst {pins:List (Addr×Obj)}{σ:St}{H:Hp}{s:Shared}{p:Addr}{xs:List V}(I:Inv X pins σ H s)(h:H p=some (.lst xs)) :
 ∃ (its:List Value) (n:Nat),Vals xs its/\s.heap.get? p=some { cls:=.type "list",data:=.seq its.toArray n }/\xs.length<=sizeLine:=by
 obtain ⟨z,its,n,r,e⟩:=I.hok p _ h
 exact ⟨its,n,r,e,z⟩
theorem Inv.lstUpd {pins:List (Addr×Obj)}{σ:St}{H:Hp}{s:Shared}{p:Addr}{xs ys:List V}{its its':List Value}{n n':Nat}{f:Obj->Obj}(I:Inv X pins σ H s)(h:H p=some (.lst xs))
 (ho:s.heap.get? p=some { cls:=.type "list",data:=.seq its.toArray n }) (hf:f { cls:=.type "list",data:=.seq its.toArray n }={ cls:=.type "list",data:=.seq its'.toArray n' }) (r:Vals ys its') (hz:ys.length<=sizeLine) (t:Nat) :
 Inv X pins σ (upd H p (.lst ys)) { s with heap:=s.heap.update p f,toks:=t }:=by
 have e:(s.heap.update p f).get? p=some { cls:=.type "list",data:=.seq its'.toArray n' }:=by
  rw [Heap.get?_update_self f ho (by rw [hf]<;>rfl),hf]
 refine I.write (x:=p) (e:=p) (by rw [h];trivial) (.inl rfl) (fun b u hb q=>(Heap.get?_update_other _ _ (Ne.symm hb)).trans q) ⟨_,e⟩ ?_
 exact ⟨hz,its',n',r,e⟩
noncomputable def Q2z:V->V->V->Hp->(Hp->Prop)->Prop:=fun o i v H Q=>∃ p xs k j,o=.ref p/\i=.int k/\H p=some (.lst xs)/\ixN xs.length k=some j/\Q (upd H p (.lst (xs.set j v)))
theorem QK:Q2a X Q2z:=by
 intro pins s σ H o i v ov iv u Q I ro ri rv h
 obtain ⟨p,xs,k,j,rfl,rfl,hp,hj,q⟩:=h
 cases ro
 obtain ⟨t,rfl⟩:=ri
 obtain ⟨its,n,r,ho,hz⟩:=I.lst hp
 obtain ⟨h1,h2,h3,h4⟩:=VP hj
 have hl:=r.length
 have hn:=JY
 have I':Inv X pins σ (upd H p (.lst (xs.set j v))) { s with heap:=s.heap.update p (Obj.mapSeq (·.setIfInBounds j u)) } :=
  I.lstUpd hp ho (TV its n j u) (r.set rv j) (by rw [List.length_set];exact hz) s.toks
 by_cases h0:0<=k
 · have hk:k.toNat=j:=by
    rw [seqIndex_of h0 h4] at h1
    exact Option.some.inj h1
   exact PySem.W.ki_setAt ho h0 (by omega) (by rw [List.size_toArray,<- hl];exact h4) (by rw [hk];exact ⟨_,I',q⟩)
 · have hk:(k+(its.toArray.size:Int)).toNat=j:=by
    rw [seqIndex_neg (by omega) h3] at h1
    rw [List.size_toArray,<- hl]
    exact Option.some.inj h1
   exact PySem.W.ki_setBack ho (by omega) (by rw [List.size_toArray,<- hl];exact h3) (by omega) (by rw [hk];exact ⟨_,I',q⟩)
theorem NR (lo hi:Option Int)(n:Nat):(sliceBounds lo hi none n).1=((HT.sIx n 0 lo:Nat):Int)/\(sliceBounds lo hi none n).2.1=((HT.sIx n n hi:Nat):Int)/\(sliceBounds lo hi none n).2.2=1:=by
 refine ⟨?_,?_,rfl⟩
 · cases lo with
   | none=>simp [sliceBounds,HT.sIx]
   | some i =>
     simp only [sliceBounds,HT.sIx,Option.getD_none,show (1:Int)>0 by decide,if_true]
     by_cases h:i<0
     · simp only [h,if_true]<;>omega
     · simp only [h,if_false]<;>omega
 · cases hi with
   | none=>simp [sliceBounds,HT.sIx]
   | some i =>
     simp only [sliceBounds,HT.sIx,Option.getD_none,show (1:Int)>0 by decide,if_true]
     by_cases h:i<0
     · simp only [h,if_true]<;>omega
     · simp only [h,if_false]<;>omega
theorem LF (its:List Value)(lo hi:Option Int):slicePick its.toArray lo hi none=((its.drop (HT.sIx its.length 0 lo)).take (HT.sIx its.length its.length hi - HT.sIx its.length 0 lo)).toArray:=by
 obtain ⟨h1,h2,h3⟩:=NR lo hi its.toArray.size
 unfold slicePick
 rw [h1,h2,h3]
 simp only [sliceRange_one,pick_run,List.size_toArray]<;>rfl
noncomputable def ZQ (K:Fg):V->Option Int->Option Int->Hp->VK->Prop:=fun x lo hi H Q=>∃ a xs,x=.ref a/\SqL K H a xs/\∀ p,H p=none->Q (.ref p) (upd H p (.lst (RX xs lo hi)))
theorem J4f:SlR X (ZQ X.K):=by
 intro pins s σ H x v vl vu lo hi sl Q I rx hs pl pu h
 obtain ⟨a,xs,rfl,hx,q⟩:=h
 cases rx
 obtain ⟨its,r,ht,hz⟩:=I.list hx
 have hlen:=r.length
 refine ⟨"list",_,slot_list_getitem.lookup,ht.isList.typeIs,?_⟩
 refine wpAny_getItem_list_slice ht.isList hs pl pu .none (by simp) ?_ (by rw [List.size_toArray]<;>omega)
 rw [LF,<- hlen]
 refine ⟨.ref s.heap.objs.size,_,I.laid (t':=s.toks) (o:=.lst (RX xs lo hi)) (fun b ob q=>Heap.get?_push_of_some _ q) (Nat.le_refl _) ?_,rfl,q _ (I.hok.fresh (Nat.le_refl _))⟩
 exact ⟨Nat.le_trans (IE xs lo hi) hz,_,0,(r.drop (HT.sIx xs.length 0 lo)).take (HT.sIx xs.length xs.length hi - HT.sIx xs.length 0 lo),Heap.get?_push_size _ rfl⟩
theorem PC:AW X (.builtin "len") (fun xs H Q=>∃ p ys,xs=[.ref p]/\(SqL X.K H p ys\/SqT X.K H p ys)/\Q (.int ys.length) H):=by
 intro pins s σ H xs us Q I r h
 obtain ⟨p,ys,rfl,hq,q⟩:=h
 obtain ⟨u,rfl,rx⟩:=FW r
 cases rx
 have hn:=JY
 rcases hq with hq|hq
 · obtain ⟨its,r',pl,hz⟩:=I.list hq
   have hlen:=r'.length
   exact Calls.call_len_list pl.isList (by simp only [List.size_toArray]<;>omega) ⟨.int ys.length,H,I.tok _,⟨s.toks+1,by rw [List.size_toArray,hlen]⟩,q⟩
 · obtain ⟨its,r',pl,hz⟩:=I.tuple hq
   have hlen:=r'.length
   exact len_tuple pl (by simp only [List.size_toArray]<;>omega) ⟨.int ys.length,H,I.tok _,⟨s.toks+1,by rw [List.size_toArray,hlen]⟩,q⟩
theorem PB:AW X (.type "list") (fun xs H Q=>∃ p ys,xs=[.ref p]/\(SqL X.K H p ys\/SqT X.K H p ys)/\∀ l,H l=none->Q (.ref l) (upd H l (.lst ys))):=by
 intro pins s σ H xs us Q I r h
 obtain ⟨p,ys,rfl,hq,q⟩:=h
 obtain ⟨u,rfl,rx⟩:=FW r
 cases rx
 have fin:∀ (its:List Value),Vals ys its->ys.length<=sizeLine->∀ (h':Heap) (c':Nat),(∀ b o',s.heap.get? b=some o'->h'.get? b=some o') ->
  h'.get? s.heap.objs.size=some { cls:=.type "list",dict:=none,data:=.seq its.toArray c',slots:=#[] }->EP X pins σ Q (.ref s.heap.objs.size) { s with heap:=h' }:=fun its r' hz h' c' kp e =>
  ⟨.ref s.heap.objs.size,_,I.laid (t':=s.toks) kp (Nat.le_refl _) (show ObjOk X.prog X.w _ h' _ (.lst ys) from ⟨hz,its,c',r',e⟩),rfl,q _ (I.hok.fresh (Nat.le_refl _))⟩
 rcases hq with hq|hq
 · obtain ⟨its,r',pl,hz⟩:=I.list hq
   have hlen:=r'.length
   obtain ⟨o,ho,hc,n,hd⟩:=pl.isList
   exact call_list_seq p (.inl rfl) ho hc hd (fun h' c' kp e=>fin its r' hz h' c' kp e) (by simp only [List.size_toArray]<;>omega)
 · obtain ⟨its,r',pl,hz⟩:=I.tuple hq
   have hlen:=r'.length
   obtain ⟨o,ho,hc,n,hd⟩:=pl
   exact call_list_seq p (.inr rfl) ho hc hd (fun h' c' kp e=>fin its r' hz h' c' kp e) (by simp only [List.size_toArray]<;>omega)
theorem LU:AW X (.type "tuple") (fun xs H Q=>∃ p ys,xs=[.ref p]/\((SqL X.K H p ys/\∀ l,H l=none->Q (.ref l) (upd H l (.tup ys)))\/(SqT X.K H p ys/\Q (.ref p) H))):=by
 intro pins s σ H xs us Q I r h
 obtain ⟨p,ys,rfl,h⟩:=h
 obtain ⟨u,rfl,rx⟩:=FW r
 cases rx
 rcases h with ⟨hq,q⟩|⟨hq,q⟩
 · obtain ⟨its,r',pl,hz⟩:=I.list hq
   have hlen:=r'.length
   refine call_tuple_list pl.isList (fun h' kp=>?_) (by simp only [List.size_toArray]<;>omega)
   have I1:Inv X pins σ H { s with heap:=h' }:=I.kept (t':=s.toks) kp
   have I2:Inv X pins σ (upd H h'.objs.size (.tup ys)) { s with heap:=h'.push { cls:=.type "tuple",data:=.seq its.toArray } } :=
    I1.laid (t':=s.toks) (fun b o e=>Heap.get?_push_of_some _ e) (Nat.le_refl _) (show ObjOk X.prog X.w _ _ _ (.tup ys) from ⟨hz,its,r',IsTup.new _ _⟩)
   exact ⟨.ref h'.objs.size,_,I2,rfl,q _ (I1.hok.fresh (Nat.le_refl _))⟩
 · obtain ⟨its,r',pl,hz⟩:=I.tuple hq
   exact call_tuple_same pl ⟨.ref p,H,I,rfl,q⟩
def tyV (K:Fg)(T:String)(x:V)(H:Hp):Prop:=match x with
 | .str _=>T = "str"
 | .int _=>T = "int"
 | .ref p=>(T = "list"/\∃ xs,SqL K H p xs)\/(T = "tuple"/\∃ o,K.lookup p=some o/\o.cls=.type "tuple"/\o.dict=none) \/
  (T = "dict"/\((∃ kvs,H p=some (.dK kvs))\/∃ kvs,H p=some (.dT kvs)))\/(T = "set"/\∃ S n,H p=some (.set S n))
 | _=>False
theorem J8i {pins:List (Addr×Obj)}{σ:St}{H:Hp}{s:Shared}{T:String}{x:V}{v:Value}(I:Inv X pins σ H s)(r:RelV x v)(ty:tyV X.K T x H) :
 s.TypeIs v T/\∀ a,v=.ref a->∃ ob,s.heap.get? a=some ob/\ob.dict=none:=by
 cases x with
 | str z =>
   obtain ⟨t,rfl⟩:=r
   cases (show T = "str" from ty)
   exact ⟨typeIs_str s z t,fun _ e=>nomatch e⟩
 | int i =>
   obtain ⟨t,rfl⟩:=r
   cases (show T = "int" from ty)
   exact ⟨typeIs_int s i t,fun _ e=>nomatch e⟩
 | ref p =>
   cases r
   rcases ty with ⟨rfl,xs,hq⟩|⟨rfl,o,hk,hc,hd⟩|⟨rfl,hk⟩|⟨rfl,S,n,hk⟩
   · obtain ⟨its,_,pl,_⟩:=I.list hq
     refine ⟨pl.isList.typeIs,fun a e=>?_⟩
     cases e
     obtain ⟨o,n,e,c,hd,_⟩:=pl
     exact ⟨o,e,hd⟩
   · refine ⟨⟨o,I.kIn p o hk,hc⟩,fun a e=>?_⟩
     cases e
     exact ⟨o,I.kIn _ o hk,hd⟩
   · have z:∃ o,s.heap.get? p=some o/\o.ExactDict:=by
      rcases hk with ⟨kvs,hk⟩|⟨kvs,hk⟩
      · obtain ⟨_,_,_,_,o,_,_,e,ex,_⟩:=I.hok p _ hk
        exact ⟨o,e,ex⟩
      · obtain ⟨_,_,_,_,o,_,_,e,ex,_⟩:=I.hok p _ hk
        exact ⟨o,e,ex⟩
     obtain ⟨o,e,ex⟩:=z
     refine ⟨⟨o,e,ex.1⟩,fun a e2=>?_⟩
     cases e2
     exact ⟨o,e,ex.2.1⟩
   · obtain ⟨o,_,_,_,e,ex,_⟩:=I.hok p _ hk
     refine ⟨⟨o,e,ex.1⟩,fun a e2=>?_⟩
     cases e2
     exact ⟨o,e,ex.2.1⟩
 | _=>exact False.elim ty
noncomputable def tBM (K:Fg)(T:String)(r:V->List V->Hp->VK->Prop)(to:TE)(t:TA):TE:=fun σ H Q=>to σ H fun x H1=>tyV K T x H1/\t σ H1 fun xs H2=>r x xs H2 Q
variable {o e:Expr}{es:List Expr}{to:TE}{t:TA}{name:Str}{apos cpos:Pos}{T id:String}{r:V->List V->Hp->VK->Prop}
theorem VC (pa:PlainAttrs T)(slot:Slot T name id)(hty:typeOf (.builtin id)=pure (.type "method_descriptor")) (hm:MtR X id r) (ho:PE X o to) (ha:PA X (e::es) t)
 (hbase:attributeBase o name X.env (eval o X.env)=eval o X.env:=by rfl)
 (hfew:((backTo cpos (starEach (e::es) X.env)).all (fun x=>!x.1)&&(backToKw cpos (keywordEach [] X.env)).all (fun x=>x.1.isSome)
  && decide ((e::es).length+([]:List Keyword).length+(if ([]:List Keyword).isEmpty then 0 else 1)<30))=true:=by rfl)
 (hline:(apos.endLine==cpos.line)=true:=by rfl) (hs:starEach (e::es) X.env=(false,eval e X.env)::starEach es X.env:=by rfl) (hplain:(backTo cpos (starEach es X.env)).any (·.1)=false:=by rfl) :
 PE X (.Call (.Attribute o name apos) (e::es) [] cpos) (tBM X.K T r to t):=by
 intro pins s σ H Q I h
 refine wpAny_Call_method_late hbase hfew hline rfl (thn (ho pins s σ H _ I h) fun v s1 ⟨x,H1,I1,r1,ty,q1⟩=>?_)
 obtain ⟨h1,h2⟩:=J8i I1 r1 ty
 refine ⟨T,id,pa,slot,hty,h1,h2,?_⟩
 have hA:=ha cpos pins s1 σ H1 _ I1 q1
 rw [hs] at hA ⊢
 refine Calls.callWith_builtin (by show (false||(backTo cpos (starEach es X.env)).any (·.1))=false;rw [hplain]<;>rfl) (Calls.evalArgs_plain ?_)
 exact thn hA fun us s2 ⟨vs,H2,I2,r2,q2⟩=>hm pins s2 σ H2 x vs v us Q I2 r1 r2 q2
end
def MtM (X:Cx)(id:String)(r:V->List V->Hp->VK->Prop):Prop :=
 ∀ (pins:List (Addr×Obj)) (s:Shared) (σ:St) (H:Hp) (x:V) (xs:List V) (v:Value) (us:List Value) (Q:VK),Inv X pins σ H s->RelV x v->Vals xs us->r x xs H Q ->
  wpAny (model X.prog X.w) X.A (call (.builtin id) (v::us)) (EP X pins σ Q) X.xe s
theorem Vals.one:∀ {x:V} {us:List Value},Vals [x] us->∃ u,us=[u]/\RelV x u
 | _,_,.cons r .nil=>⟨_,rfl,r⟩
theorem Vals.two:∀ {x y:V} {us:List Value},Vals [x,y] us->∃ u v,us=[u,v]/\RelV x u/\RelV y v
 | _,_,_,.cons r (.cons q .nil)=>⟨_,_,rfl,r,q⟩
theorem Vals.eraseIdx:∀ {xs:List V} {us:List Value} (i:Nat),Vals xs us->Vals (xs.eraseIdx i) (us.eraseIdx i)
 | _,_,_,.nil=>.nil
 | _,_,0,.cons _ t=>t
 | _,_,i+1,.cons r t=>.cons r (Vals.eraseIdx i t)
theorem Vals.rep {xs:List V}{us:List Value}(h:Vals xs us):∀ k:Nat,Vals (List.replicate k xs).flatten (List.replicate k us).flatten
 | 0=>.nil
 | k+1=>by
   rw [List.replicate_succ,List.replicate_succ,List.flatten_cons,List.flatten_cons]
   exact Vals.append h (Vals.rep h k)
theorem MP {α:Type}:∀ (l:List α) (i:Nat),(l.eraseIdx i).length<=l.length
 | [],_=>Nat.le_refl _
 | _::_,0=>Nat.le_succ _
 | _::r,i+1=>Nat.succ_le_succ (MP r i)
theorem MW (its:List Value):∀ (k:Nat) (acc:List Value),
 List.foldl (fun x1 x2=>x1++x2) acc.toArray (List.replicate k its.toArray)=(acc++(List.replicate k its).flatten).toArray
 | 0,acc=>by simp
 | k+1,acc=>by
   have e:acc.toArray++its.toArray=(acc++its).toArray:=by simp
   have e2:(acc++its)++(List.replicate k its).flatten=acc++(List.replicate (k+1) its).flatten:=by
    rw [List.replicate_succ,List.flatten_cons,List.append_assoc]
   rw [<- e2,<- MW its k (acc++its),<- e,List.replicate_succ,List.foldl_cons]
section
variable {X:Cx}{pins:List (Addr×Obj)}{σ:St}{H:Hp}{s:Shared}{l:Addr}{xs ys:List V}
theorem Inv.lset {its its':List Value}{n:Nat}{f:Array Value->Array Value}{t':Nat}(I:Inv X pins σ H s)(hH:H l=some (.lst xs))
 (e:s.heap.get? l=some { cls:=.type "list",data:=.seq its.toArray n }) (hf:f its.toArray=its'.toArray) (hv:Vals ys its') (hz:ys.length<=sizeLine) :
 Inv X pins σ (upd H l (.lst ys)) { s with heap:=s.heap.update l (Obj.mapSeq f),toks:=t' }:=by
 have q:=PySem.IsL.update e f
 rw [hf] at q
 refine I.write (x:=l) (e:=l) (by rw [hH];exact trivial) (.inl rfl) (fun b' u hb hu=>(Heap.get?_update_other s.heap (Obj.mapSeq f) (Ne.symm hb)).trans hu) ⟨_,q⟩ ?_
 exact ⟨hz,its',_,hv,q⟩
theorem Inv.lnew {its:List Value}{t':Nat}(I:Inv X pins σ H s)(hv:Vals ys its)(hz:ys.length<=sizeLine) :
 Inv X pins σ (upd H s.heap.objs.size (.lst ys)) { s with heap:=s.heap.push { cls:=.type "list",data:=.seq its.toArray },toks:=t' } :=
 I.laid (fun _ _ q=>Heap.get?_push_of_some _ q) (Nat.le_refl _) ⟨hz,its,0,hv,Heap.get?_push_size _ rfl⟩
theorem Inv.fresh (I:Inv X pins σ H s):H s.heap.objs.size=none:=I.hok.fresh (Nat.le_refl _)
theorem Inv.lstM (I:Inv X pins σ H s)(hH:H l=some (.lst xs)):xs.length<=sizeLine/\∃ (its:List Value) (n:Nat),Vals xs its/\xs.length=its.length/\s.heap.get? l=some { cls:=.type "list",data:=.seq its.toArray n }:=by
 obtain ⟨z,its,n,r,e⟩:=I.hok l _ hH
 exact ⟨z,its,n,r,r.length,e⟩
theorem RC {n:Nat}(h:n<=sizeLine):Builtin.List.listTooLong n=false:=by
 unfold Builtin.List.listTooLong
 exact decide_eq_false (by omega)
end
section
variable {X:Cx}
noncomputable def NU:V->List V->Hp->VK->Prop:=fun x vs H Q=>∃ l b xs zs,x=.ref l/\vs=[.ref b]/\H l=some (.lst xs)/\H b=some (.lst zs)/\xs.length+zs.length<=sizeLine/\Q .non (upd H l (.lst (xs++zs)))
theorem HL:MtM X "list.extend" NU:=by
 intro pins s σ H x vs v us Q I rx rv h
 obtain ⟨l,b,xs,zs,rfl,rfl,hH,hB,hz,q⟩:=h
 cases rx
 obtain ⟨u,rfl,ru⟩:=rv.one
 cases ru
 obtain ⟨z,its,n,r,hl,e⟩:=I.lstM hH
 obtain ⟨z2,its2,n2,r2,hl2,e2⟩:=I.lstM hB
 have hsz:its.toArray.size+its2.toArray.size<=sizeLine:=by rw [List.size_toArray,List.size_toArray];omega
 have hlong:¬ (!its.toArray.isEmpty&&Builtin.List.listTooLong (its.toArray.size+its2.toArray.size))=true:=by
  rw [RC hsz,Bool.and_false]
  exact Bool.false_ne_true
 refine call_meets F.slot_list_extend ⟨_,e,rfl⟩ F.entry_list_extend (F.args_list_extend_2 _ _)
  (AutoSeq1.list_extend_list_list_0 l its.toArray n b its2.toArray n2 hlong (by rw [List.size_toArray];omega) (by omega)) ⟨e,e2,?_⟩
 refine ⟨.non,_,I.lset (its':=its++its2) hH e (by simp) (r.append r2) ?_,rfl,q⟩
 rw [List.length_append]
 omega
noncomputable def SV:V->List V->Hp->VK->Prop:=fun x vs H Q=>∃ l xs i k y,x=.ref l/\vs=[.int i]/\H l=some (.lst xs)/\-(2 ^ 63)<=i/\i<2 ^ 63/\seqIndex? i xs.length=some k/\xs[k]?=some y/\Q y (upd H l (.lst (xs.eraseIdx k)))
theorem J0v:MtM X "list.pop" SV:=by
 intro pins s σ H x vs v us Q I rx rv h
 obtain ⟨l,xs,i,k,y,rfl,rfl,hH,h1,h2,hk,hy,q⟩:=h
 cases rx
 obtain ⟨u,rfl,ru⟩:=rv.one
 obtain ⟨t,rfl⟩:=ru
 obtain ⟨z,its,n,r,hl,e⟩:=I.lstM hH
 obtain ⟨w,hw,rw'⟩:=r.get hy
 refine call_meets F.slot_list_pop ⟨_,e,rfl⟩ F.entry_list_pop (F.args_list_pop_2 _ _)
  (MeetsSeq.list_pop_at l its.toArray n i t k w (fitsIndex_both h1 h2) (by rw [List.size_toArray,<- hl];exact hk) (by rw [<- Array.getElem?_toList];exact hw) (by rw [List.size_toArray];omega)) ⟨e,?_⟩
 refine ⟨y,_,I.lset (its':=its.eraseIdx k) hH e ?_ (r.eraseIdx k) ?_,rw',q⟩
 · show its.toArray.eraseIdxIfInBounds k=(its.eraseIdx k).toArray
   rw [List.eraseIdxIfInBounds_toArray]
 · have:=MP xs k
   omega
noncomputable def Q3c:R2:=fun x y H Q=>∃ l b xs zs,x=.ref l/\y=.ref b/\H l=some (.lst xs)/\H b=some (.lst zs)/\xs.length+zs.length<=sizeLine/\∀ p,H p=none->Q (.ref p) (upd H p (.lst (xs++zs)))
theorem J9h:OpR X (binaryOp .Add) Q3c:=by
 intro pins s σ H x y v u Q I rx ry h
 obtain ⟨l,b,xs,zs,rfl,rfl,hH,hB,hz,q⟩:=h
 cases rx
 cases ry
 obtain ⟨z,its,n,r,hl,e⟩:=I.lstM hH
 obtain ⟨z2,its2,n2,r2,hl2,e2⟩:=I.lstM hB
 refine PySem.P.add_list e e2 ?_ (by rw [List.size_toArray,List.size_toArray];omega)
 have ea:its.toArray++its2.toArray=(its++its2).toArray:=by simp
 rw [ea]
 exact ⟨.ref _,_,I.lnew (t':=s.toks) (r.append r2) (by rw [List.length_append];omega),rfl,q _ I.fresh⟩
noncomputable def Q3a:R2:=fun x y H Q=>∃ l k xs,x=.ref l/\y=.int k/\H l=some (.lst xs)/\-(2 ^ 63)<=k/\k<2 ^ 63/\xs.length*k.toNat<=sizeLine /\
 ∀ p,H p=none->Q (.ref p) (upd H p (.lst (List.replicate k.toNat xs).flatten))
theorem J5n {α:Type}(xs:List α)(k:Nat):(List.replicate k xs).flatten.length=k*xs.length:=by
 induction k with
 | zero=>simp
 | succ k ih=>rw [List.replicate_succ,List.flatten_cons,List.length_append,ih,Nat.succ_mul,Nat.add_comm]
theorem J0h:OpR X (binaryOp .Mult) Q3a:=by
 intro pins s σ H x y v u Q I rx ry h
 obtain ⟨l,k,xs,rfl,rfl,hH,h1,h2,hz,q⟩:=h
 cases rx
 obtain ⟨t,rfl⟩:=ry
 obtain ⟨z,its,n,r,hl,e⟩:=I.lstM hH
 have hlen:its.toArray.size*k.toNat<=sizeLine:=by rw [List.size_toArray,<- hl];exact hz
 have hcap:¬ its.toArray.size*k.toNat>(2 ^ 63 - 1) / 8:=by
  have:(sizeLine:Nat)<=(2 ^ 63 - 1) / 8:=by decide
  omega
 have hfit:¬ (!Builtin.List.listFitsIndex k)=true:=by
  rw [fitsIndex_both h1 h2]
  exact Bool.false_ne_true
 have hlong:¬ Builtin.List.listTooLong (its.toArray.size*k.toNat)=true:=by
  rw [RC hlen]
  exact Bool.false_ne_true
 have hnew:List.foldl (fun x1 x2=>x1++x2) #[] (List.replicate (if its.toArray.isEmpty=true then 0 else k.toNat) its.toArray)=(List.replicate k.toNat its).flatten.toArray:=by
  have f0:∀ m:Nat,List.foldl (fun x1 x2=>x1++x2) #[] (List.replicate m its.toArray)=(List.replicate m its).flatten.toArray:=fun m=>by
   have:=MW its m []
   rw [List.nil_append] at this
   exact this
  rw [f0]
  cases its with
  | nil=>simp
  | cons a r'=>rw [if_neg (by simp)]
 refine wpAny_binaryOp_repeat_ref (T:="list") (U:="int") (by decide) ⟨_,e,rfl⟩ (fun s'=>typeIs_int s' k t) noFill_list_mul F.fills_int_mul F.slot_int_rmul repeat_list F.slot_int_index.lookup
  (call_meets F.slot_int_rmul (typeIs_int s k t) F.entry_int_rmul (F.args_int_rmul_2 _ _) (int___rmul___int_list k t l its.toArray n)
   ⟨e,rfl,⟨_,e,rfl⟩,call_meets F.slot_list_mul ⟨_,e,rfl⟩ F.entry_list_mul (F.args_list_mul_2 _ _) (AutoListH.list___mul___list_int_3 l its.toArray n k t hfit hcap hlong) ⟨e,?_⟩⟩)
 rw [hnew]
 exact ⟨.ref _,_,I.lnew (t':=s.toks) (r.rep k.toNat) (by rw [J5n,Nat.mul_comm];exact hz),rfl,q _ I.fresh⟩
end
end L2
namespace Att
open PySem PySem.W PySem.Calls PyProof.Rows
theorem IJ {P:Params}{h:Heap}:∀ (ns:List Int) (vs:List Value),WellAll P h vs (ns.map WData.int)->IntsAre vs ns:=by
 intro ns
 induction ns with
 | nil =>
   intro vs w
   rw [List.map_nil] at w
   cases w
   exact .nil
 | cons n ns ih =>
   intro vs w
   rw [List.map_cons] at w
   cases w with
   | cons a b =>
     cases a
     exact .cons _ _ (ih _ b)
theorem WV {l:OpenLaw}{n:Nat}(hn:l.most=some n){P:Params}{h:Heap}{args:List WData}{vals:List Value}
 (hpre:l.row.toRowW.claim.pre args=true) (hwl:WellAll P h vals args) :
 ∃ a vs ns,vals=[Value.ref a]/\args=[WData.list (ns.map WData.int)]/\h.get? a=some { cls:=.type "list",data:=.seq vs.toArray }/\IntsAre vs ns/\ns.length<=n:=by
 have hsh:WShape.hasAll [] args [.list .int]=true:=(pre_splitW hpre).1
 have hc:l.pre.holds [] { args:=args }=true:=(pre_splitW hpre).2
 obtain ⟨d,r,rfl,h1,h2⟩:=hasAllW_cons hsh
 obtain rfl:=hasAllW_nil h2
 obtain ⟨xs,rfl,h3⟩:=hasW_list h1
 obtain ⟨ns,rfl⟩:=items_int h3
 have hlen:ns.length<=n:=by
  unfold OpenLaw.pre at hc
  have h4:(WTm.not (.lt (.lit (.int (n:Int))) (.len (.arg 0)))).holds [] { args:=[.list (ns.map .int)] }=true:=by
   have h4:=(holds_andW hc).1
   rw [hn] at h4
   exact h4
  have h5:=condW_of h4 (w_not (w_lt w_lit (w_len_list (w_arg rfl))))
  rw [List.length_map] at h5
  refine Nat.le_of_not_lt fun q=>?_
  have q':(n:Int)<((ns.length:Nat):Int):=by omega
  first
   | (rw [decide_eq_true q'] at h5;exact absurd h5 (by decide))
   | (simp at h5;omega)
 cases hwl with
 | cons w1 w2 =>
   cases w2
   cases w1 with
   | list ho hall=>exact ⟨_,_,ns,rfl,rfl,ho,IJ ns _ hall,hlen⟩
theorem XD (l:OpenLaw)(args:List WData):l.row.toRowW.claim.post args (.bool true) args=true :=
 postW_of (r:=l.row.toRowW) (X:=(true==true))
  (show WShape.has [] (.bool true) .bool=true by first|rfl|decide|simp [WShape.has,WShape.arms,WShape.armsAll])
  (show (WTm.eq .res (.lit (.bool true))).value [] { args:=args,res:=some (.bool true),after:=args }=some (.bool (true==true)) from w_eq_bool (w_res rfl) w_lit) rfl
theorem attach_call {l:OpenLaw}{n:Nat}{q:Program}{loose:List Str}{XP:(Str->Option Value)->Heap->Prop}{YP:World->Heap->Prop}{d:DefRec}
 (hn:l.most=some n) (hdf:d.params.defaults=[])
 (call:∀ (w:World) (s₀ s₁:Shared) (mg mb:Str->Option Value) (fa:Addr) (o:Obj) (pm cd doc:Value) (a:Addr) (vs:List Value) (ns:List Int),
  Ground q loose [] XP w s₀ mg mb s₁.heap->YP w s₁.heap ->
  s₁.heap.get? fa=some o->o.data=.func (docDef d.name d.params d.body d.scope pm cd doc)->s₁.heap.CodeRec cd d.name->mg d.name=some (.ref fa) ->
  s₁.heap.get? a=some { cls:=.type "list",data:=.seq vs.toArray }->IntsAre vs ns->ns.length<=n->s₁.gens=#[] ->
  codeAny (model l.prog w) callerA (.call (.ref fa) ⟨[.ref a],[]⟩) (fun r s'=>r=.ok (.ret (.bool true))/\OldK s₁.heap s'.heap/\s'.os=s₁.os/\AllBare s'.gens) s₁) :
 WalkO q loose XP YP l.row.toRowW d [] (fun f vs=>PySem.call f vs):=by
 intro w s₀ s₁ mg mb G Y fa o pm cd doc dV kV ho hd hcd hD hmg hg args vals as hpre hlay hrd hwl hlo
 obtain rfl:dV=.none:=Dflts.none hD hdf
 obtain rfl:kV=.none:=Dflts.noKw hD
 obtain ⟨a,vs,ns,rfl,rfl,hobj,hints,hlen⟩:=WV hn hpre hwl
 refine enter_call (codeAny_mono (call w s₀ s₁ mg mb fa o pm cd doc a vs ns G Y ho (fd_plain hd) hcd hmg hobj hints hlen hg) fun r s' hq=>?_)
 obtain ⟨rfl,h2,h3,h4⟩:=hq
 exact ⟨.inl ⟨.bool true,.bool true,[],rfl,fun _=>rfl,.bool true,XD l _,fun _=>⟨List.Pairwise.nil,fun _ hm=>(nomatch hm)⟩⟩,h2,h3,h4⟩
section
def Q5s (h:Heap)(L d:Addr):List (Addr×Obj):=(List.range h.objs.size).filterMap fun a=>if a=L\/a=d then none else (h.get? a).map fun o=>(a,o)
end
end Att
namespace L2
open PySem PySem.Spec PyProof.Rows
theorem LY:∀ {vs:List Value} {ns:List Int},IntsAre vs ns->Vals (ns.map V.int) vs
 | _,_,.nil=>.nil
 | _,_,.cons n t h=>.cons ⟨t,rfl⟩ (LY h)
def Q2b (H:Hp):Prop:=∀ b,H b=none\/∃ o xs,H b=some (.frz o (.lst xs))
theorem J1b {P:Program}{w:World}{K:Fg}{mg mb:Str->Option Value}{CX:CXT}{k:Nat}{fa a:Addr}{fd:FuncData}{x:Str}{sp:Sp}{s₁:Shared}{vs:List Value}{ns:List Int}
 (KX:K.In s₁.heap) (hns:s₁.heap.Ns mainGlobals mg) (hb:s₁.heap.Ns builtinsNs mb) (hbb:∀ x:Str,x≠"__name__"->mb x=bootBuiltins x) (hlim:s₁.heap.NoLimit) (hg:s₁.gens=#[])
 (ha:s₁.heap.get? a=some { cls:=.type "list",data:=.seq vs.toArray }) (hi:IntsAre vs ns) (hl:ns.length<=sizeLine) (hr:Room k callerA)
 (F:∀ base:Heap,K.In base->base.Ns mainGlobals mg->FnOk P w K mg base CX k fa fd [x] sp) (hbind:∀ (s:Shared) (u:Value),BindsTo s fd ⟨[u],[]⟩ [(x,u)])
 (hsp:∀ H:Hp,Q2b H->SqL K H a (ns.map V.int)->sp [.ref a] H (fun v _=>v=.bl true) fun _ _ _=>False)
 (hCX:∀ H e s',CX [] H s₁ (fun _ _ _=>False) e s'->False) :
 codeAny (model P w) callerA (.call (.ref fa) ⟨[.ref a],[]⟩) (fun r s'=>r=.ok (.ret (.bool true))/\OldK s₁.heap s'.heap/\s'.os=s₁.os/\AllBare s'.gens) s₁:=by
 have rv:=LY hi
 have lenV:=hi.length
 have core:∀ H:Hp,Q2b H->SqL K H a (ns.map V.int)->HOk P w H s₁.heap->(∀ b,H b≠none->b=a)->(H a≠none->K.lookup a=none) ->
  codeAny (model P w) callerA (.call (.ref fa) ⟨[.ref a],[]⟩) (fun r s'=>r=.ok (.ret (.bool true))/\OldK s₁.heap s'.heap/\s'.os=s₁.os/\AllBare s'.gens) s₁:=by
  intro H hO hS hok hA hK
  have base_of:∀ {b:Addr} {o:Obj},s₁.heap.get? b=some o->H b=none->(OM s₁.heap H).get? b=some o:=fun e n=>J1w e n
  have noA:∀ {b:Addr} {o:Obj} {es:Array DictEntry} {ep:Nat},s₁.heap.get? b=some o->o.data=.dict es ep->H b=none:=fun {b o es ep} e d=>by
   cases q:H b with
   | none=>rfl
   | some u =>
     have e':b=a:=hA b (by rw [q];simp)
     subst e'
     rw [ha] at e;cases e
     have d':Data.seq vs.toArray _=Data.dict es ep:=d
     cases d'
  have nsK:∀ {b:Addr} {m:Str->Option Value},s₁.heap.Ns b m->(OM s₁.heap H).Ns b m:=fun {b m} ⟨o,es,ep,e,d,r⟩=>⟨o,es,ep,base_of e (noA e d),d,r⟩
  have hKb:K.In (OM s₁.heap H):=fun b o e=>base_of (KX b o e) (by
   cases q:H b with
   | none=>rfl
   | some u =>
     have e':b=a:=hA b (by rw [q];simp)
     subst e'
     rw [hK (by rw [q];simp)] at e;cases e)
  have hM:Mod K mg (OM s₁.heap H):=⟨hKb,nsK hns,⟨mb,nsK hb,hbb⟩,let ⟨mc,h1,h2⟩:=hlim;⟨mc,nsK h1,h2⟩⟩
  have e0:Env0 P w K mg (OM s₁.heap H) callerA [] s₁ H:=⟨rfl,hM,fun b o e=>J5f e,Nat.le_of_eq (YD _ _),trivial,fun b hb=>absurd (show b∈([]:List Addr) from hb) (by simp),hok,.of_eq hg⟩
  refine codeAny_mono ((F _ hKb (nsK hns)).run callerA [] s₁ H ⟨[.ref a],[]⟩ [.ref a] [.ref a] _ _ hr e0 (hbind s₁ (.ref a)) (.cons rfl .nil) (hsp H hO hS)) fun r s' h=>?_
  cases r with
  | error e=>exact (hCX H e s' h).elim
  | ok fl =>
    cases fl with
    | next=>exact False.elim h
    | brk=>exact False.elim h
    | cont=>exact False.elim h
    | ret u =>
      obtain ⟨v,H',os,bare,un,hok',r',q⟩:=h
      have q':v=.bl true:=q
      subst q'
      obtain rfl:u=Value.bool true:=r'
      refine ⟨rfl,OldK.of_keep fun b o e=>?_,os,bare⟩
      cases q:H b with
      | none=>exact un.keep b o e q (by intro z;exact absurd (show b∈([]:List Addr) from z) (by simp)) (by simp)
      | some u =>
        rcases hO b with z|⟨ob,xs,z⟩
        · rw [q] at z;cases z
        · have z2:=un.frzs b ob _ z
          obtain ⟨e1,_⟩:=hok b _ z
          obtain ⟨e2,_⟩:=hok' b _ z2
          rw [e] at e1;cases e1
          exact e2
 cases hk:K.lookup a with
 | some o =>
   have e:=KX a o hk
   rw [ha] at e
   cases e
   refine core (fun _=>none) (fun _=>.inl rfl) (.inr ⟨_,vs.toArray,_,hk,rfl,rfl,rfl,by rw [List.size_toArray,lenV];exact hl,by simpa using rv⟩) (fun b u z=>by have z':(none:Option HO)=some u:=z;cases z') (fun b z=>absurd rfl z) fun z=>absurd rfl z
 | none =>
   refine core (fun b=>if b=a then some (.frz { cls:=.type "list",data:=.seq vs.toArray } (.lst (ns.map V.int))) else none) (fun b=>?_) (.inl (.inr ⟨{ cls:=.type "list",data:=.seq vs.toArray },if_pos rfl⟩)) (fun b u z=>?_) (fun b z=>?_) fun _=>hk
   · by_cases hb:b=a
     · exact .inr ⟨_,_,if_pos hb⟩
     · exact .inl (if_neg hb)
   · by_cases hb:b=a
     · have z':=(if_pos hb).symm.trans z
       cases z'
       subst hb
       exact ⟨ha,by rw [List.length_map];exact hl,vs,_,rv,ha⟩
     · have z':=(if_neg hb).symm.trans z
       cases z'
   · by_cases hb:b=a
     · exact hb
     · exact absurd (if_neg hb) z
theorem J3x {l:PySem.W.OpenLaw}{n k:Nat}{q:Program}{loose:List Str}{XP:(Str->Option Value)->Heap->Prop}{YP:World->Heap->Prop}{d:DefRec}{K:Params->Fg}{CX:World->CXT}{sp:World->Sp}{x:Str}
 (hn:l.most=some n) (hn2:n<=sizeLine) (hdf:d.params.defaults=[]) (hr:Room k callerA)
 (hY:∀ (w:World) (h:Heap),YP w h->(K w.params).In h)
 (F:∀ (w:World) (mg:Str->Option Value) (fa:Addr) (h:Heap),(K w.params).In h->h.Ns mainGlobals mg->mg d.name=some (.ref fa) ->
  ∃ fd:FuncData,(∀ (s:Shared) (u:Value),BindsTo s fd ⟨[u],[]⟩ [(x,u)]) /\
   ∀ base:Heap,(K w.params).In base->base.Ns mainGlobals mg->FnOk l.prog w (K w.params) mg base (CX w) k fa fd [x] (sp w))
 (hsp:∀ (w:World) (H:Hp) (a:Addr) (ns:List Int),ns.length<=n->Q2b H->SqL (K w.params) H a (ns.map V.int)->sp w [.ref a] H (fun v _=>v=.bl true) fun _ _ _=>False)
 (hCX:∀ (w:World) (H:Hp) (s:Shared) (e:Value) (s':Shared),CX w [] H s (fun _ _ _=>False) e s'->False) :
 PySem.W.WalkO q loose XP YP l.row.toRowW d [] (fun f vs=>PySem.call f vs):=by
 refine Att.attach_call hn hdf fun w s₀ s₁ mg mb fa o pm cd doc a vs ns G Y ho hd hcd hmg hobj hints hlen hg=>?_
 have KX:=hY w _ Y
 obtain ⟨fd,hb,hF⟩:=F w mg fa _ KX G.T.g hmg
 exact J1b KX G.T.g G.T.b G.T.builtins G.T.nolimit hg hobj hints (Nat.le_trans hlen hn2) hr hF hb (fun H hO hS=>hsp w H a ns hlen hO hS) fun H e s'=>hCX w H s₁ e s'
def HB (s:Stmt):Arguments:=match s with
 | .FunctionDef _ a _ _ _ _ _ _ _ _=>a
 | _=>{ posonlyargs:=[],args:=[],vararg:=none,kwonlyargs:=[],kw_defaults:=[],kwarg:=none,defaults:=[] }
def AH (s:Stmt):List Stmt:=match s with
 | .FunctionDef _ _ b _ _ _ _ _ _ _=>b
 | _=>[]
def J4 (s:Stmt):Scope:=match s with
 | .FunctionDef _ _ _ _ _ _ sc _ _ _=>sc
 | _=>{ kind:=.function,names:=[],isGenerator:=false,isCoroutine:=false }
abbrev CX0:CXT:=fun _ _ _ _ _ _=>False
abbrev E0:XK:=fun _ _ _=>False
theorem Q3g {X:Cx}:DL CX0 X E0:=fun _ _ _ _ _ _ _ h=>h.elim
structure Fun (K:Fg)(x qual:Str)(st:Stmt)(f:Addr)(fd:FuncData):Prop where
 ex:∃ (oc:Value) (od:Option Addr) (kV doc pm:Value) (an:Option Addr) (cdv ct:Value) (osl:Array (Option Value)),
  fd=PySem.W.fnOf x qual (HB st) (AH st) (J4 st) .none kV doc pm an cdv ct/\K.lookup f=some ⟨oc,od,.func fd,osl⟩/\PySem.W.codeIn K cdv qual=true
 kp:PySem.W.keepIn K (.ref f)=true
section
variable {P:Program}{w:World}{K:Fg}{mg:Str->Option Value}{base:Heap}
theorem Fun.ok {x qual:Str}{st:Stmt}{f:Addr} {N ps:List Str}{k:Nat}{sp:Sp}(F:Fun K x qual st f fd)(S:FnScope N ps (J4 st))(len:∀ vs H Q E,sp vs H Q E->vs.length=ps.length)
 (hbody:∀ (cdv:Value) (A:Around) (outer:List Env) (s:Shared) (H:Hp) (vs:List V) (Q:VK) (E:XK),Room k (A.deeper (envOfC qual (J4 st) s.heap.objs.size f cdv))->sp vs H Q E ->
  ∃ t,PSs (Z8 CX0 P w K mg base N qual (J4 st) f cdv A outer s H E).nox (AH st) t/\t { nx:=fun _ H'=>Q .non H',rt:=Q } (CV N vs) H):FnOk P w K mg base CX0 (k+1) f fd ps sp:=by
 obtain ⟨oc,od,kV,doc,pm,an,cdv,ct,osl,rfl,lk,hcd⟩:=F.ex
 refine J7o lk hcd S len fun A outer s H vs Q E hr hsp=>?_
 obtain ⟨t,h,q⟩:=hbody cdv A outer s H vs Q E hr hsp
 exact ⟨t,h.nox,q⟩
theorem Fun.binds {x qual:Str}{st:Stmt}{f:Addr} {ps:List Str}(F:Fun K x qual st f fd)
 (h:∀ (kV doc pm:Value) (an:Option Addr) (cdv ct:Value) (us:List Value),us.length=ps.length->bindArgs (PySem.W.fnOf x qual (HB st) (AH st) (J4 st) .none kV doc pm an cdv ct) ⟨us,[]⟩=pure (ps.zip us)):Binds K fd ps []:=by
 obtain ⟨oc,od,kV,doc,pm,an,cdv,ct,osl,rfl,lk,hcd⟩:=F.ex
 exact .all (h kV doc pm an cdv ct)
theorem Q0h {x qual:Str}{st:Stmt}{f:Addr}{oc:Value}{od an:Option Addr}{osl:Array (Option Value)}{kV doc pm cdv ct:Value}(l:K.lookup f=some ⟨oc,od,.func (PySem.W.fnOf x qual (HB st) (AH st) (J4 st) .none kV doc pm an cdv ct),osl⟩)
 (c:PySem.W.codeIn K cdv qual=true) (k:PySem.W.keepIn K (.ref f)=true):Fun K x qual st f (PySem.W.fnOf x qual (HB st) (AH st) (J4 st) .none kV doc pm an cdv ct):=⟨⟨oc,od,kV,doc,pm,an,cdv,ct,osl,rfl,l,c⟩,k⟩
end
section
variable {X:Cx}
theorem pv (i:Nat) {x:Str} {pos:Pos} (hN:X.N[i]?=some x:=by rfl) (hv:Vis X.env.scope x:=by first|exact Or.inl rfl|exact Or.inr (Or.inl rfl)|exact Or.inr (Or.inr rfl)) (hd:(x==("__debug__" : Str))=false:=by decide)
 (hcd:(x==("__classdict__" : Str))=false:=by decide):PE X (.Name x pos) (SO i):=TD hN hv hd hcd
end
theorem Q5v {A B:Prop}(h:B):if false=true then A else B:=by
 rw [if_neg Bool.false_ne_true]
 exact h
theorem Q5u {A B:Prop}(h:A):if true=true then A else B:=by
 rw [if_pos rfl]
 exact h
def Same (H H':Hp):Prop:=∀ b o,H b=some o->H' b=some o
theorem Same.refl (H:Hp):Same H H:=fun _ _ h=>h
theorem Same.trans {H H1 H2:Hp}(a:Same H H1)(b:Same H1 H2):Same H H2:=fun c o h=>b c o (a c o h)
theorem Same.free {H H':Hp}(e:Same H H'){l:Addr}(h:H' l=Option.none):H l=Option.none:=by
 cases q:H l with
 | none=>rfl
 | some o =>
   rw [e l o q] at h
   cases h
end L2
set_option maxHeartbeats 4000000
namespace L2
open PySem PySem.Spec PyProof.Rows
theorem OW {x:Str}{lo:Nat}:∀ (names:List (Str×NameKind)) (n:Nat) (acc:List (Str×Addr)),lo<=n->(∀ c,acc.lookup x=some c->lo<=c)->∀ c,(cellsFrom n names acc).lookup x=some c->lo<=c
 | [],_,_,_,h,c,e=>h c e
 | (y,k)::r,n,acc,hn,h,c,e=>by
   unfold cellsFrom at e
   split at e
   · refine OW r (n+1) ((y,n)::acc) (by omega) (fun c' e'=>?_) c e
     rw [List.lookup_cons] at e'
     cases hb:x==y with
     | true=>rw [hb] at e';cases e';exact hn
     | false=>rw [hb] at e';exact h c' e'
   · exact OW r n acc hn h c e
theorem UG {x:Str}{lo:Nat}:∀ (names:List (Str×NameKind)) (n:Nat) (acc:List (Str×Addr)),lo<=n->(x,NameKind.cell)∈names->∀ c,(cellsFrom n names acc).lookup x=some c->lo<=c
 | [],_,_,_,hm,_,_=>by cases hm
 | (y,k)::r,n,acc,hn,hm,c,e=>by
   unfold cellsFrom at e
   split at e
   · rcases List.mem_cons.mp hm with z|z
     · cases z
       refine OW r (n+1) ((x,n)::acc) (by omega) (fun c' e'=>?_) c e
       rw [List.lookup_cons,beq_self_eq_true] at e'
       cases e'
       exact hn
     · exact UG r (n+1) ((y,n)::acc) (by omega) z c e
   · rename_i hk
     rcases List.mem_cons.mp hm with z|z
     · cases z
       exact absurd rfl hk
     · exact UG r n acc hn z c e
theorem UH {x:Str}:∀ (names:List (Str×NameKind)) (n:Nat) (acc:List (Str×Addr)),¬ (x,NameKind.cell)∈names->(cellsFrom n names acc).lookup x=acc.lookup x
 | [],_,_,_=>rfl
 | (y,k)::r,n,acc,hm=>by
   unfold cellsFrom
   have hr:¬ (x,NameKind.cell)∈r:=fun z=>hm (List.mem_cons_of_mem _ z)
   split
   · rename_i hk
     rw [UH r (n+1) _ hr,List.lookup_cons]
     have hxy:(x==y)=false:=by
      cases hb:x==y with
      | false=>rfl
      | true =>
        have e1:x=y:=beq_iff_eq.mp hb
        have e2:k=NameKind.cell:=beq_iff_eq.mp hk
        subst e1 e2
        exact absurd List.mem_cons_self hm
     rw [hxy]
   · exact UH r n acc hr
theorem UI:∀ (names:List (Str×NameKind)) (n:Nat) (acc:List (Str×Addr)),(∀ x c,acc.lookup x=some c->c<n)->(∀ x y c,acc.lookup x=some c->acc.lookup y=some c->x=y) ->
 ∀ x y c,(cellsFrom n names acc).lookup x=some c->(cellsFrom n names acc).lookup y=some c->x=y
 | [],_,_,_,h,x,y,c,e1,e2=>h x y c e1 e2
 | (z,k)::r,n,acc,hb,h,x,y,c,e1,e2=>by
   unfold cellsFrom at e1 e2
   split at e1
   · rename_i hk
     rw [if_pos hk] at e2
     refine UI r (n+1) ((z,n)::acc) (fun x' c' e'=>?_) (fun x' y' c' e1' e2'=>?_) x y c e1 e2
     · rw [List.lookup_cons] at e'
       cases q:x'==z with
       | true=>rw [q] at e';cases e';exact Nat.lt_succ_self _
       | false=>rw [q] at e';exact Nat.lt_succ_of_lt (hb x' c' e')
     · rw [List.lookup_cons] at e1' e2'
       cases q1:x'==z with
       | true =>
         rw [q1] at e1'
         cases e1'
         cases q2:y'==z with
         | true=>rw [beq_iff_eq.mp q1,beq_iff_eq.mp q2]
         | false =>
           rw [q2] at e2'
           exact absurd (hb y' _ e2') (Nat.lt_irrefl _)
       | false =>
         rw [q1] at e1'
         cases q2:y'==z with
         | true =>
           rw [q2] at e2'
           cases e2'
           exact absurd (hb x' _ e1') (Nat.lt_irrefl _)
         | false =>
           rw [q2] at e2'
           exact h x' y' c' e1' e2'
   · rename_i hk
     rw [if_neg hk] at e2
     exact UI r n acc hb h x y c e1 e2
theorem KS:∀ (names:List (Str×NameKind)) (n:Nat) (acc:List (Str×Addr)) (x:Str) (c:Addr),(cellsFrom n names acc).lookup x=some c->acc.lookup x=some c\/n<=c
 | [],_,_,_,_,e=>.inl e
 | (z,k)::r,n,acc,x,c,e=>by
   unfold cellsFrom at e
   split at e
   · rcases KS r (n+1) ((z,n)::acc) x c e with q|q
     · rw [List.lookup_cons] at q
       cases hb:x==z with
       | true=>rw [hb] at q;cases q;exact .inr (Nat.le_refl _)
       | false=>rw [hb] at q;exact .inl q
     · exact .inr (by omega)
   · exact KS r n acc x c e
theorem OX:∀ (names:List (Str×NameKind)) (h:Heap) (acc:List (Str×Addr)),(∀ x c,acc.lookup x=some c->∃ v,h.IsCell c v) ->
 ∀ x c,(cellsFrom h.objs.size names acc).lookup x=some c->∃ v,(pushCells h names).IsCell c v
 | [],_,_,hh,x,c,e=>hh x c e
 | (z,k)::r,h,acc,hh,x,c,e=>by
   unfold cellsFrom at e
   unfold pushCells
   split at e
   · rename_i hk
     rw [if_pos hk]
     have e':(cellsFrom (h.push { cls:=.type "cell",data:=.cell none }).objs.size r ((z,h.objs.size)::acc)).lookup x=some c:=by rw [Heap.size_push];exact e
     refine OX r _ _ (fun x' c' q=>?_) x c e'
     rw [List.lookup_cons] at q
     cases hb:x'==z with
     | true =>
       rw [hb] at q
       cases q
       exact ⟨none,_,Heap.get?_push_size _ rfl,rfl⟩
     | false =>
       rw [hb] at q
       obtain ⟨v,w⟩:=hh x' c' q
       exact ⟨v,w.keeps fun b o e=>Heap.get?_push_of_some _ e⟩
   · rename_i hk
     rw [if_neg hk]
     exact OX r h acc hh x c e
theorem OV {env:Env}(f:Str×NameKind->List (Str×Addr)->Sem (ForInStep (List (Str×Addr))))
 (hf:∀ name kind cs,f (name,kind) cs=if kind==.free then (do let a <- cellOf env name;pure (.yield ((name,a)::cs))) else pure (.yield cs)) :
 ∀ (names:List (Str×NameKind)) (acc:List (Str×Addr)),(∀ x,(x,NameKind.free)∈names->∃ c,env.cells.lookup x=some c)->(∀ x c,acc.lookup x=some c->env.cells.lookup x=some c) ->
  ∃ cl,forIn names acc f=pure cl/\(∀ x c,cl.lookup x=some c->env.cells.lookup x=some c)/\∀ x,((acc.lookup x).isSome=true\/(x,NameKind.free)∈names)->(cl.lookup x).isSome=true
 | [],acc,_,ha=>⟨acc,by rw [List.forIn_nil],ha,fun x h=>h.elim id fun z=>by cases z⟩
 | (name,kind)::r,acc,hn,ha=>by
   have hr:∀ x,(x,NameKind.free)∈r->∃ c,env.cells.lookup x=some c:=fun x hx=>hn x (List.mem_cons_of_mem _ hx)
   by_cases hk:(kind==NameKind.free)=true
   · have ek:kind=NameKind.free:=beq_iff_eq.mp hk
     subst ek
     obtain ⟨c,hc⟩:=hn name List.mem_cons_self
     obtain ⟨cl,e1,e2,e3⟩:=OV f hf r ((name,c)::acc) hr (fun x c' e=>by
      rw [List.lookup_cons] at e
      cases hb:x==name with
      | true=>rw [hb] at e;cases e;rw [beq_iff_eq.mp hb];exact hc
      | false=>rw [hb] at e;exact ha x c' e)
     refine ⟨cl,?_,e2,fun x hx=>e3 x ?_⟩
     · rw [List.forIn_cons,hf,if_pos hk]
       unfold cellOf
       rw [hc]
       simpa using e1
     · rcases hx with hx|hx
       · left
         rw [List.lookup_cons]
         cases hb:x==name with
         | true=>rfl
         | false=>exact hx
       · rcases List.mem_cons.mp hx with z|z
         · cases z
           left
           rw [List.lookup_cons,beq_self_eq_true]
           rfl
         · exact .inr z
   · obtain ⟨cl,e1,e2,e3⟩:=OV f hf r acc hr ha
     refine ⟨cl,?_,e2,fun x hx=>e3 x ?_⟩
     · rw [List.forIn_cons,hf,if_neg hk]
       simpa using e1
     · rcases hx with hx|hx
       · exact .inl hx
       · rcases List.mem_cons.mp hx with z|z
         · cases z
           exact absurd rfl hk
         · exact .inr z
theorem LS {scope:Scope}{env:Env}(hn:∀ x,(x,NameKind.free)∈scope.names->∃ c,env.cells.lookup x=some c) :
 ∃ cl,closureFor scope env=pure cl/\(∀ x c,cl.lookup x=some c->env.cells.lookup x=some c)/\∀ x,(x,NameKind.free)∈scope.names->(cl.lookup x).isSome=true:=by
 obtain ⟨cl,e1,e2,e3⟩:=OV (env:=env) (fun x cs=>match x with
  | (name,kind)=>if (kind==NameKind.free)=true then (do let a <- cellOf env name;pure (ForInStep.yield ((name,a)::cs))) else pure (ForInStep.yield cs)) (fun name kind cs=>rfl) scope.names [] hn (fun x c e=>by cases e)
 refine ⟨cl,?_,e2,fun x hx=>e3 x (.inr hx)⟩
 show (forIn scope.names [] _ >>= fun r=>pure r)=_
 refine Eq.trans (congrArg (fun m=>m >>= fun r=>pure r) e1) ?_
 simp
def MB (ifs:List Expr)(env:Env):Sem Bool:=forIn ifs true fun c r=>if r=true then do let ok <- isTrue c env (eval c env);pure (ForInStep.yield ok) else pure (ForInStep.yield r)
theorem OT {prog:Program}{w:World}{A:Around}{R:Result->Shared->Prop}{s:Shared}{elt target iter:Expr}{ifs:List Expr}{scope:Scope}{pos:Pos}{it acc:Value}{env:Env}(J:Nat->Shared->Prop)
 (turn:∀ n s,J n s->wpAny (model prog w) A (pyNext it) (fun r s₁=>match r with
  | none=>R (.ok .next) s₁
  | some v=>wpAny (model prog w) A (letOwnedTupleGo target it v) (fun _ s₁'=>wpAny (model prog w) A (assign target env v) (fun _ s₂=>wpAny (model prog w) A (MB ifs env) (fun ok s₃ =>
   if ok=true then wpAny (model prog w) A (eval elt env) (fun x s₄=>wpAny (model prog w) A (call (.builtin "list.append") [acc,x]) (fun _ s₅=>∃ m,m<n/\J m s₅) (notedBy (model prog w) A env fun e s'=>R (.error e) s') s₄)
    (notedBy (model prog w) A env fun e s'=>R (.error e) s') s₃
   else ∃ m,m<n/\J m s₃) (notedBy (model prog w) A env fun e s'=>R (.error e) s') s₂) (notedBy (model prog w) A env fun e s'=>R (.error e) s') s₁') (notedBy (model prog w) A env fun e s'=>R (.error e) s') s₁)
   (notedBy (model prog w) A env fun e s'=>R (.error e) s') s) (n:Nat) (h:J n s) :
 codeAny (model prog w) A (.compLoop (.ListComp elt [⟨target,iter,ifs,0⟩] scope pos) 0 it acc env) R s:=by
 refine codeAny_loop rfl J (fun n s hJ=>?_) n h
 show wpAny _ _ (Sem.onRaise (compTurn (.ListComp elt [⟨target,iter,ifs,0⟩] scope pos) 0 it acc env) fun x=>do noteFrame x env;theTreesLotGoes x) _ _ _
 refine wpAny_noted ?_
 rw [compTurn_list]
 refine wpAny_bind (wpAny_standAt (wpAny_bind (thn (turn n s hJ) fun r s₁ h₁=>?_)))
 cases r with
 | none=>exact wpAny_pure h₁
 | some v =>
   refine wpAny_bind (thn h₁ fun _ s₁' h₁'=>wpAny_bind (thn h₁' fun _ s₂ h₂=>wpAny_bind (thn h₂ fun ok s₃ h₃=>?_)))
   cases ok with
   | true=>exact wpAny_bind (wpAny_bind (thn h₃ fun x s₄ h₄=>wpAny_bind (thn h₄ fun _ s₅ h₅=>wpAny_pure (wpAny_pure ⟨rfl,h₅⟩))))
   | false=>exact wpAny_pure ⟨rfl,h₃⟩
def SK (X:Cx)(C:Addr)(e:Value)(s':Shared):Prop :=
 ∃ m,s'.heap.Ns C m/\∀ h',Heap.SameBut C s'.heap h'->∀ cenv:Env,cenv.locals=C->wpAny (model X.prog X.w) X.A (passOn "comprehension.variables-let-go" e cenv:Sem Value) (fun _ _=>False) X.xe { s' with heap:=h' }
def J6 (X:Cx)(N:List Str)(scope:Scope)(cells:List (Str×Addr))(C:Addr)(fp:List Addr)(s:Shared)(H:Hp):Cx where
 prog:=X.prog
 w:=X.w
 K:=X.K
 mg:=X.mg
 base:=X.base
 A:=X.A
 N:=N
 s₀:=s
 H₀:=H
 env:=compEnvC scope cells C X.env
 outer:=X.stack
 stack:=X.stack
 ex:=fp
 fn:=fun x=>decide (scope.names.lookup x=some NameKind.cell)
 calm:=X.calm
 pn:=[]
 xe:=notedBy (model X.prog X.w) X.A (compEnvC scope cells C X.env) (SK X C)
def capt (σ:St)(map:List (Option Nat)):St:=map.map fun o=>o.bind fun i=>(σ[i]?).join
def CapOk (X:Cx)(scope:Scope):List (Option Nat)->List Str->Prop
 | [],[]=>True
 | none::m,_::n=>CapOk X scope m n
 | some i::m,x::n=>(X.N[i]?=some x/\scope.names.lookup x=some .free/\(scope.names.all fun p=>!(p.1==x&&p.2==NameKind.cell))=true/\(X.env.kindOf x=some .cell\/X.env.kindOf x=some .free))/\CapOk X scope m n
 | _,_=>False
theorem CapOk.length {X:Cx}{scope:Scope}:∀ {m:List (Option Nat)} {n:List Str},CapOk X scope m n->m.length=n.length
 | [],[],_=>rfl
 | none::m,_::n,h=>by simp [CapOk.length (m:=m) (n:=n) h]
 | some i::m,x::n,h=>by simp [CapOk.length (m:=m) (n:=n) h.2]
 | [],_::_,h=>h.elim
 | some _::_,[],h=>h.elim
 | none::_,[],h=>h.elim
theorem CapOk.get {X:Cx}{scope:Scope}:∀ {m:List (Option Nat)} {n:List Str} {j i:Nat} {x:Str},CapOk X scope m n->m[j]?=some (some i)->n[j]?=some x ->
 X.N[i]?=some x/\scope.names.lookup x=some .free/\¬ (x,NameKind.cell)∈scope.names/\(X.env.kindOf x=some .cell\/X.env.kindOf x=some .free)
 | [],[],_,_,_,_,e,_=>by simp at e
 | none::m,_::n,0,_,_,_,e,_=>by simp at e
 | none::m,_::n,j+1,i,x,h,e,e'=>CapOk.get (m:=m) (n:=n) (j:=j) h (by simpa using e) (by simpa using e')
 | some k::m,y::n,0,i,x,h,e,e'=>by
   have e1:k=i:=by simpa using e
   have e2:y=x:=by simpa using e'
   subst e1 e2
   obtain ⟨⟨h1,h2,h3,h4⟩,_⟩:=h
   refine ⟨h1,h2,fun hm=>?_,h4⟩
   have q:=List.all_eq_true.mp h3 _ hm
   simp at q
 | some k::m,y::n,j+1,i,x,h,e,e'=>CapOk.get (m:=m) (n:=n) (j:=j) h.2 (by simpa using e) (by simpa using e')
 | [],_::_,_,_,_,h,_,_=>h.elim
 | some _::_,[],_,_,_,h,_,_=>h.elim
 | none::_,[],_,_,_,h,_,_=>h.elim
def FJ (g:TG)(map:List (Option Nat)):Prop:=∀ v σ H Q,g v σ H Q->g v σ H fun σ' H'=>(σ'.length=σ.length/\∀ j i:Nat,map[j]?=some (some i)->σ'[j]?=σ[j]?)/\Q σ' H'
def PIf (X:Cx)(ifs:List Expr)(t:TT):Prop :=
 ∀ (pins:List (Addr×Obj)) (s:Shared) (σ:St) (H:Hp) (Q:Bool->Hp->Prop),Inv X pins σ H s->t σ H Q->wpAny (model X.prog X.w) X.A (MB ifs X.env) (TP X pins σ Q) X.xe s
noncomputable def Q2i:TT:=fun _ H Q=>Q true H
theorem J4v {X:Cx}:PIf X [] Q2i:=fun _ _ _ H _ I h=>wpAny_pure ⟨H,I,h⟩
theorem J4u {X:Cx}{c:Expr}{t:TT}(hc:PT X c t):PIf X [c] t:=fun pins s σ H Q I h=>by
 unfold MB
 simp only [List.forIn_cons,List.forIn_nil,if_true]
 exact wpAny_bind (wpAny_bind (thn (hc pins s σ H Q I h) fun b s' hb=>wpAny_pure (wpAny_pure hb)))
theorem BG {env:Env}{x:Str}{k:NameKind}:∀ {names:List (Str×NameKind)},
 (names.map fun (p:Str×NameKind)=>match p with|(n,k)=>if (k==NameKind.free&&env.scope.kind==.function&&env.kindOf n==some .cell) then (n,NameKind.cell) else (n,k)).lookup x=some k ->
 ∃ k',names.lookup x=some k'/\(k'=k\/(k'=.free/\k=.cell))
 | [],h=>by simp at h
 | (n,k')::r,h=>by
   rw [List.map_cons] at h
   by_cases hc:(k'==NameKind.free&&env.scope.kind==.function&&env.kindOf n==some .cell)=true
   · simp only [if_pos hc,List.lookup_cons] at h
     rw [List.lookup_cons]
     cases hx:x==n with
     | true =>
       rw [hx] at h
       cases h
       refine ⟨k',rfl,.inr ⟨?_,rfl⟩⟩
       simp only [Bool.and_eq_true,beq_iff_eq] at hc
       exact hc.1.1
     | false =>
       rw [hx] at h
       exact BG h
   · simp only [if_neg hc,List.lookup_cons] at h
     rw [List.lookup_cons]
     cases hx:x==n with
     | true =>
       rw [hx] at h
       cases h
       exact ⟨_,rfl,.inl rfl⟩
     | false =>
       rw [hx] at h
       exact BG h
theorem ED {env:Env}{x:Str}:∀ {names:List (Str×NameKind)},names.lookup x=some .free ->
 (names.map fun (p:Str×NameKind)=>match p with|(n,k)=>if (k==NameKind.free&&env.scope.kind==.function&&env.kindOf n==some .cell) then (n,NameKind.cell) else (n,k)).lookup x=some .cell \/
 (names.map fun (p:Str×NameKind)=>match p with|(n,k)=>if (k==NameKind.free&&env.scope.kind==.function&&env.kindOf n==some .cell) then (n,NameKind.cell) else (n,k)).lookup x=some .free
 | [],h=>by simp at h
 | (n,k')::r,h=>by
   rw [List.map_cons]
   rw [List.lookup_cons] at h
   by_cases hc:(k'==NameKind.free&&env.scope.kind==.function&&env.kindOf n==some .cell)=true
   · simp only [if_pos hc,List.lookup_cons]
     cases hx:x==n with
     | true=>exact .inl rfl
     | false =>
       rw [hx] at h
       exact ED h
   · simp only [if_neg hc,List.lookup_cons]
     cases hx:x==n with
     | true =>
       rw [hx] at h
       cases h
       exact .inr rfl
     | false =>
       rw [hx] at h
       exact ED h
section
variable {X:Cx}{elt iter tg:Expr}{ifs:List Expr}{scope:Scope}{pos:Pos}{N':List Str}{map:List (Option Nat)}{wi:TI}{g:TG}{tt:TT}{te:TE}
def KZ (J:It)(g:TG)(tt:TT)(te:TE)(σc:St)(Fin:List V->Hp->Prop)(W:Nat->Nat->List V->Hp->Prop):Prop :=
 ∀ i m acc H2,W i m acc H2->(J.stop i H2/\acc.length<=sizeLine/\Fin acc H2) \/
  (J.go i H2/\acc.length<sizeLine/\∃ N:List V->Hp->Prop,(∀ acc' H',N acc' H'->∃ m',m'<m/\W (i+1) m' acc' H')/\∀ x H3,J.yld i H2 x H3->g x σc H3 fun σ4 H4=>tt σ4 H4 fun b H5=>if b=true then te σ4 H5 fun v H6=>N (acc++[v]) H6 else N acc H5)
structure TurnG (R:Cx->Prop)(P:Program)(w:World)(K:Fg)(tg:Expr)(J:It)(fp:List Addr)(it:Addr)(tn:Nat->Heap->Prop):Prop where
 mem:it∈fp
 obj:∀ i h,tn i h->∀ b∈fp,∃ o,h.get? b=some o/\∀ v,o.data≠.cell v
 keep:∀ i h h',tn i h->(∀ b∈fp,∀ o,h.get? b=some o->h'.get? b=some o)->tn i h'
 item:∀ (X:Cx),X.prog=P->X.w=w->X.K=K->R X->∀ (i:Nat) (pins:List (Addr×Obj)) (s:Shared) (σ:St) (H:Hp) (E:Value->Shared->Prop),Inv X pins σ H s->(∀ b∈fp,CU X pins H b)->tn i s.heap->J.go i H->wpAny (model P w) X.A (pyNext (.ref it)) (fun r s1=>∃ u,r=some u /\
  wpAny (model P w) X.A (letOwnedTupleGo tg (.ref it) u) (fun _ s2=>∃ x H',Inv X pins σ H' s2/\RelV x u/\J.yld i H x H'/\tn (i+1) s2.heap/\∀ b∈fp,H' b=none) E s1) E s
 done:∀ (X:Cx),X.prog=P->X.w=w->X.K=K->R X->∀ (i:Nat) (pins:List (Addr×Obj)) (s:Shared) (σ:St) (H:Hp) (E:Value->Shared->Prop),Inv X pins σ H s->(∀ b∈fp,CU X pins H b)->tn i s.heap->J.stop i H->wpAny (model P w) X.A (pyNext (.ref it)) (fun r s1=>r=none/\Inv X pins σ H s1) E s
 self:∀ (A:Around) (i:Nat) (s:Shared) (Q:Value->Shared->Prop) (E:Value->Shared->Prop),tn i s.heap->Q (.ref it) s->wpAny (model P w) A (pyIter (.ref it)) Q E s
theorem Turn.gen {w:World} {tg:Expr}{J:It}{fp:List Addr}{it:Addr}{tn:Nat->Heap->Prop}(T:Turn P w K tg J fp it tn):TurnG (fun X=>X.calm=true) P w K tg J fp it tn:=⟨T.mem,T.obj,T.keep,T.item,T.done,T.self⟩
def LB (X:Cx)(C:Addr)(fp:List Addr)(s:Shared)(H:Hp):Prop:=∃ pins σ,Inv X pins σ H s/\(∀ b∈fp,CU X pins H b)/\s.heap.objs.size<=C
structure BlkM (X:Cx)(N':List Str)(scope:Scope)(map:List (Option Nat))(tg elt:Expr)(ifs:List Expr)(g:TG)(tt:TT)(te:TE):Prop where
 kind:scope.kind=.function
 loc:∀ x∈scope.names,x.2=.local->scope.names.lookup x.1=some .local
 free:(scope.names.all fun p=>!(p.2==NameKind.free)||(X.env.kindOf p.1==some .cell||X.env.kindOf p.1==some .free))=true
 cap:CapOk X scope map N'
 keep:FJ g map
 run:∀ cells C fp s H,LB X C fp s H->PG (J6 X N' scope cells C fp s H) tg g/\PIf (J6 X N' scope cells C fp s H) ifs tt/\PE (J6 X N' scope cells C fp s H) elt te
structure Blk (X:Cx)(N':List Str)(scope:Scope)(map:List (Option Nat))(tg elt:Expr)(ifs:List Expr)(g:TG)(tt:TT)(te:TE):Prop where
 calm:X.calm=true
 kind:scope.kind=.function
 loc:∀ x∈scope.names,x.2=.local->scope.names.lookup x.1=some .local
 free:(scope.names.all fun p=>!(p.2==NameKind.free)||(X.env.kindOf p.1==some .cell||X.env.kindOf p.1==some .free))=true
 cap:CapOk X scope map N'
 keep:FJ g map
 run:∀ cells C fp s H,LB X C fp s H->PG (J6 X N' scope cells C fp s H) tg g/\PIf (J6 X N' scope cells C fp s H) ifs tt/\PE (J6 X N' scope cells C fp s H) elt te
theorem Blk.m (B:Blk X N' scope map tg elt ifs g tt te):BlkM X N' scope map tg elt ifs g tt te:=⟨B.kind,B.loc,B.free,B.cap,B.keep,B.run⟩
theorem IU {pins:List (Addr×Obj)}{σ:St}{H1:Hp}{s2:Shared}{cl:List (Str×Addr)}{fp:List Addr}(I:Inv X pins σ H1 s2)(B:BlkM X N' scope map tg elt ifs g tt te)
 (hsub:∀ x c,cl.lookup x=some c->X.env.cells.lookup x=some c) (hhas:∀ x,(x,NameKind.free)∈scope.names->(cl.lookup x).isSome=true)
 (hf:∀ b∈fp,CU X pins H1 b) (hfo:∀ b∈fp,∃ o,s2.heap.get? b=some o) (C:Addr) (h3:Heap) (hC:s2.heap.objs.size<=C) (k3:∀ b o,s2.heap.get? b=some o->h3.get? b=some o) (hCsz:C<h3.objs.size) (hns:h3.Ns C fun _=>none) (tk:Nat) :
 Inv (J6 X N' scope (cellsFrom h3.objs.size scope.names cl) C fp s2 H1) [] (capt σ map) H1 { s2 with heap:=pushCells h3 scope.names,toks:=tk }:=by
 have kk:∀ b o,s2.heap.get? b=some o->(pushCells h3 scope.names).get? b=some o:=fun b o e=>pushCells_keeps _ _ b o (k3 b o e)
 have fsz:∀ b∈fp,b<s2.heap.objs.size:=fun b hb=>by obtain ⟨o,e⟩:=hfo b hb;exact Heap.lt_size e
 have clz:∀ x c,cl.lookup x=some c->c<s2.heap.objs.size:=fun x c e=>by
  obtain ⟨v,o,ho,_⟩:=I.cell x c (hsub x c e)
  exact Heap.lt_size ho
 have h3sz:s2.heap.objs.size<h3.objs.size:=Nat.lt_of_le_of_lt hC hCsz
 have cof:∀ x c,(cellsFrom h3.objs.size scope.names cl).lookup x=some c->X.env.cells.lookup x=some c\/h3.objs.size<=c:=fun x c e=>(KS _ _ _ x c e).imp (hsub x c) id
 have cnb:∀ x c,(cellsFrom h3.objs.size scope.names cl).lookup x=some c->∀ b∈fp,c≠b:=fun x c e b hb z=>by
  rcases cof x c e with q|q
  · exact (hf b hb).2.2.2.2.1 x c q z
  · have h1:=fsz b hb
    rw [<- z] at h1
    exact absurd (Nat.lt_of_lt_of_le (Nat.lt_trans h1 h3sz) q) (Nat.lt_irrefl _)
 have fnf:∀ b∈fp,b∉frs X.stack:=fun b hb hm=>by
  obtain ⟨_,f1,f2,_⟩:=hf b hb
  rcases List.mem_cons.mp (I.stkSub b hm) with z|z
  · exact f1 z
  · exact f2 z
 have cellI:∀ x c,(cellsFrom h3.objs.size scope.names cl).lookup x=some c->∃ v,(pushCells h3 scope.names).IsCell c v:=fun x c e =>
  OX scope.names h3 cl (fun x' c' q=>by
   obtain ⟨v,w⟩:=I.cell x' c' (hsub x' c' q)
   exact ⟨v,w.keeps k3⟩) x c e
 have hC0:H1 C=none:=I.hok.fresh hC
 have ok:(J6 X N' scope (cellsFrom h3.objs.size scope.names cl) C fp s2 H1).Ok :=
  { mod:=I.ok.mod
    kind:=B.kind
    glob:=I.ok.glob
    blt:=I.ok.blt
    above:=hC
    inj:=UI scope.names h3.objs.size cl (fun x c e=>Nat.lt_trans (clz x c e) h3sz) fun x y c e1 e2=>I.ok.inj x y c (hsub x c e1) (hsub y c e2)
    has:=fun x hx=>by
     have hx:(relabel scope X.env).names.lookup x=some .cell\/(relabel scope X.env).names.lookup x=some .free:=hx
     have goal:(scope.names.lookup x=some .cell\/(cl.lookup x).isSome=true):=by
      rcases hx with q|q
      · obtain ⟨k',e1,e2⟩:=BG q
        rcases e2 with z|⟨z,_⟩
        · exact .inl (by rw [e1,z])
        · exact .inr (hhas x (PySem.mem_of_lookup (by rw [e1,z])))
      · obtain ⟨k',e1,e2⟩:=BG q
        rcases e2 with z|⟨z,z'⟩
        · exact .inr (hhas x (PySem.mem_of_lookup (by rw [e1,z])))
        · cases z'
     exact Option.isSome_iff_exists.mp (PySem.W.cellsFrom_some scope.names h3.objs.size cl goal)
    cab:=fun x c hx e=>Nat.le_of_lt (Nat.lt_of_lt_of_le h3sz (UG scope.names h3.objs.size cl (Nat.le_refl _) (PySem.mem_of_lookup (of_decide_eq_true hx)) c e))
    hd:=I.ok.hd
    frames:=I.ok.frames
    stk:=.inl rfl
    exf:=fun b hb=>⟨fun z=>absurd (fsz b hb) (by rw [z];exact Nat.not_lt.mpr hC),fun x c e=>cnb x c e b hb⟩
    bs:=I.bs
    bsz:=Nat.le_trans I.ok.bsz I.sz
    noex:=fun b o e hb=>by
     rcases (hf b hb).2.2.2.1 with z|z
     · exact I.ok.noex b o e z
     · exact absurd (Heap.lt_size (I.ok.bs b o e).1) (Nat.not_lt.mpr z)
    exfs:=fnf
    funs:=I.stack
    frf:=I.stkFree }
 refine ⟨ok,rfl,I.bare,Un.kept kk,⟨fun _=>none,hns.keeps fun b o e=>pushCells_keeps _ _ b o e,fun j x v e1 e2 e3=>?_⟩,cellI,hC0,fun x c e=>?_,fun p hp=>absurd (show p∈([]:List (Addr×Obj)) from hp) (by simp),I.hok.kept kk,?_⟩
 · have e2':(capt σ map)[j]?=some (some v):=e2
   unfold capt at e2'
   rw [List.getElem?_map] at e2'
   cases hm:map[j]? with
   | none=>rw [hm] at e2';cases e2'
   | some o =>
     rw [hm] at e2'
     cases o with
     | none=>simp at e2'
     | some i =>
       have e2'':(σ[i]?).join=some v:=by simpa using e2'
       have hσ:σ[i]?=some (some v):=by
        cases q:σ[i]? with
        | none=>rw [q] at e2'';cases e2''
        | some o' =>
          rw [q] at e2''
          have:o'=some v:=by simpa using e2''
          rw [this]
       obtain ⟨c1,c2,c3,c4⟩:=B.cap.get hm e1
       obtain ⟨m,hn,hl⟩:=I.loc
       have vis:Vis X.env.scope x:=by
        rcases c4 with z|z
        · exact .inr (.inl z)
        · exact .inr (.inr z)
       obtain ⟨u,r,l⟩:=hl i x v c1 hσ vis
       refine ⟨u,r,?_⟩
       rcases l with ⟨z,_⟩|⟨_,c,ec,hcell⟩
       · rcases c4 with q|q
         · rw [q] at z;cases z
         · rw [q] at z;cases z
       · right
         refine ⟨ED c2,c,?_,hcell.keeps kk⟩
         show (cellsFrom h3.objs.size scope.names cl).lookup x=some c
         rw [UH _ _ _ c3]
         obtain ⟨c',hc'⟩:=Option.isSome_iff_exists.mp (hhas x (PySem.mem_of_lookup c2))
         have:=hsub x c' hc'
         rw [ec] at this
         cases this
         exact hc'
 · rcases cof x c e with q|q
   · exact I.freeC x c q
   · exact I.hok.fresh (Nat.le_trans (Nat.le_of_lt h3sz) q)
 · show (capt σ map).length=N'.length
   unfold capt
   rw [List.length_map]
   exact B.cap.length
theorem WF {pins:List (Addr×Obj)}{σ:St}{H1:Hp}{s2:Shared}{cl:List (Str×Addr)}{fp:List Addr}{it:Addr}{tn:Nat->Heap->Prop}{J:It}{E:Value->Shared->Prop}(I:Inv X pins σ H1 s2)(B:BlkM X N' scope map tg elt ifs g tt te)
 (hsub:∀ x c,cl.lookup x=some c->X.env.cells.lookup x=some c) (hhas:∀ x,(x,NameKind.free)∈scope.names->(cl.lookup x).isSome=true)
 {R:Cx->Prop} (hR:∀ cells C fp s H,R (J6 X N' scope cells C fp s H)) (T:TurnG R X.prog X.w X.K tg J fp it tn) (st:tn 0 s2.heap) (hf:∀ b∈fp,CU X pins H1 b) {Fin:List V->Hp->Prop} {W:Nat->Nat->List V->Hp->Prop} {m0:Nat} (w0:W 0 m0 [] H1) (ht:KZ J g tt te (capt σ map) Fin W)
 {RR:Value->Addr->Result->Shared->Prop}
 (hOk:∀ D C acc H' s' m,Inv X pins σ (upd H' D (.lst acc)) s'->H' D=none->s'.heap.Ns C m->upd H' D (.lst acc) C=none->C≠X.env.locals->X.s₀.heap.objs.size<=C->(∀ x c,X.env.cells.lookup x=some c->c≠C)->(∀ p∈X.pn++pins,p.1≠C)->Fin acc H'->RR (.ref D) C (.ok .next) s')
 (hErr:∀ D C e s',SK X C e s'->RR (.ref D) C (.error e) s') :
 wpAny (model X.prog X.w) X.A (newList []) (fun acc s3=>wpAny (model X.prog X.w) X.A (newFunctionEnv scope X.env.globals cl [] X.env.qual none .none (some X.env)) (fun cenv s4 =>
  codeAny (model X.prog X.w) X.A (.compStart (.ListComp elt [⟨tg,iter,ifs,0⟩] scope pos) 0 (.ref it) acc { cenv with scope:=relabel scope X.env }) (RR acc cenv.locals) s4) E s3) E s2:=by
 have fo:∀ b∈fp,∃ o,s2.heap.get? b=some o:=fun b hb=>by obtain ⟨o,e,_⟩:=T.obj 0 _ st b hb;exact ⟨o,e⟩
 refine wpAny_newObj_type ?_
 generalize hH2:s2.heap.push { cls:=.type "list",dict:=none,data:=.seq ([]:List Value).toArray }=H2
 have szD:H2.objs.size=s2.heap.objs.size+1:=by rw [<- hH2,Heap.size_push]
 have kD:∀ b o,s2.heap.get? b=some o->H2.get? b=some o:=fun b o e=>hH2▸Heap.get?_push_of_some _ e
 simp only [newFunctionEnv,Option.isSome_some,if_true]
 refine wpAny_bind (wpAny_alloc ?_)
 refine wpAny_bind (wpAny_layCells _ (fun name kind cells=>by cases hkc:kind==NameKind.cell<;>simp [hkc]) _ _ _ _ ?_)
 dsimp only
 generalize hH3:H2.push { cls:=.type "dict",dict:=none,data:=.dict #[] }=h3
 have sz3:h3.objs.size=H2.objs.size+1:=by rw [<- hH3,Heap.size_push]
 have kC:∀ b o,H2.get? b=some o->h3.get? b=some o:=fun b o e=>hH3▸Heap.get?_push_of_some _ e
 have nsC:h3.Ns H2.objs.size fun _=>none:=hH3▸Heap.Ns.new H2 (.type "dict")
 refine wpAny_bind (wpAny_pure (wpAny_pure ?_))
 show codeAny _ _ (.compStart (.ListComp elt [⟨tg,iter,ifs,0⟩] scope pos) 0 (.ref it) (.ref s2.heap.objs.size) (compEnvC scope (cellsFrom h3.objs.size scope.names cl) H2.objs.size X.env)) _ _
 generalize hX':J6 X N' scope (cellsFrom h3.objs.size scope.names cl) H2.objs.size fp s2 H1=X'
 have I4:Inv X' [] (capt σ map) H1 { s2 with heap:=pushCells h3 scope.names }:=hX'▸IU I B hsub hhas hf fo H2.objs.size h3 (by rw [szD];exact Nat.le_succ _) (fun b o e=>kC b o (kD b o e)) (by rw [sz3];exact Nat.lt_succ_self _) nsC s2.toks
 obtain ⟨pg,pif,pel⟩:=B.run (cellsFrom h3.objs.size scope.names cl) H2.objs.size fp s2 H1 ⟨pins,σ,I,hf,by rw [szD];exact Nat.le_succ _⟩
 rw [hX'] at pg pif pel
 have eprog:X'.prog=X.prog:=by rw [<- hX'];rfl
 have ew:X'.w=X.w:=by rw [<- hX'];rfl
 have eK:X'.K=X.K:=by rw [<- hX'];rfl
 have eA:X'.A=X.A:=by rw [<- hX'];rfl
 have ecalm:R X':=by rw [<- hX'];exact hR _ _ _ _ _
 have eenv:X'.env=compEnvC scope (cellsFrom h3.objs.size scope.names cl) H2.objs.size X.env:=by rw [<- hX'];rfl
 have exe:X'.xe=notedBy (model X.prog X.w) X.A (compEnvC scope (cellsFrom h3.objs.size scope.names cl) H2.objs.size X.env) (SK X H2.objs.size):=by rw [<- hX'];rfl
 have es0:X'.s₀=s2:=by rw [<- hX'];rfl
 have eH0:X'.H₀=H1:=by rw [<- hX'];rfl
 have eex:X'.ex=fp:=by rw [<- hX'];rfl
 have efs:X'.fs=frs X.stack:=by rw [<- hX'];rfl
 have epn:X'.pn=[]:=by rw [<- hX'];rfl
 have eL:X'.env.locals=H2.objs.size:=by rw [eenv];rfl
 generalize hDd:s2.heap.objs.size=D at *
 have fD:∀ b∈fp,b≠D:=fun b hb=>by obtain ⟨o,e⟩:=fo b hb;exact Nat.ne_of_lt (hDd▸Heap.lt_size e)
 have nfsD:D∉X'.fs:=fun hb=>by
  rw [efs] at hb
  have h1:=I.stkSub D hb
  rcases List.mem_cons.mp h1 with z|z
  · have:=I.lt;rw [hDd,<- z] at this;exact Nat.lt_irrefl _ this
  · exact I.nofs (by rw [hDd];exact Nat.le_refl _) z
 have ncD:∀ x c,X'.env.cells.lookup x=some c->c≠D:=fun x c e z=>by
  rw [eenv] at e
  rcases KS _ _ _ x c e with q|q
  · obtain ⟨v,o,ho,_⟩:=I.cell x c (hsub x c q)
    have:=Heap.lt_size ho
    rw [hDd,z] at this
    exact Nat.lt_irrefl _ this
  · rw [z,sz3,szD] at q
    exact absurd (Nat.lt_of_lt_of_le (Nat.lt_succ_of_lt (Nat.lt_succ_self D)) q) (Nat.lt_irrefl _)
 have f4:∀ {H':Hp} {pl:List (Addr×Obj)},(∀ b∈fp,H' b=none)->(∀ p∈pl,p.1=D)->∀ b∈fp,CU X' pl H' b:=fun {H' pl} hn hpl b hb=>by
  have q:=hf b hb
  refine ⟨hn b hb,?_,?_,.inl (by rw [eex];exact hb),fun x c e=>?_,fun p hp=>?_⟩
  · rw [eL]
    obtain ⟨o,e⟩:=fo b hb
    have:=Heap.lt_size e
    rw [hDd] at this
    intro z
    rw [z,szD] at this
    exact absurd (Nat.lt_of_succ_lt this) (Nat.lt_irrefl _)
  · have:=I4.ok.exfs b (by rw [eex];exact hb)
    exact this
  · exact (I4.ok.exf b (by rw [eex];exact hb)).2 x c e
  · rw [epn] at hp
    have hp:p∈pl:=by simpa using hp
    rw [hpl p hp]
    exact (fD b hb).symm
 have noCell:∀ {its:Array Value} {n:Nat} (v:Option Value),({ cls:=.type "list",data:=.seq its n }:Obj).data≠.cell v:=fun v z=>by cases z
 have hD4:(pushCells h3 scope.names).get? D=some { cls:=.type "list",data:=.seq ([]:List Value).toArray 0 }:=pushCells_keeps _ _ _ _ (kC _ _ (by rw [<- hH2,<- hDd];exact Heap.get?_push_size _ rfl))
 have loop:codeAny (model X.prog X.w) X.A (.compLoop (.ListComp elt [⟨tg,iter,ifs,0⟩] scope pos) 0 (.ref it) (.ref D) (compEnvC scope (cellsFrom h3.objs.size scope.names cl) H2.objs.size X.env)) (RR (.ref D) H2.objs.size) { s2 with heap:=pushCells h3 scope.names }:=by
  refine OT (fun n s'=>∃ i acc H' its k,Inv X' [] (capt σ map) H' s'/\tn i s'.heap/\(∀ b∈fp,H' b=none)/\H' D=none/\s'.heap.get? D=some { cls:=.type "list",data:=.seq (List.toArray its) k }/\Vals acc its/\W i n acc H') ?_ m0
   ⟨0,[],H1,[],0,I4,T.keep _ _ _ st fun b hb o e=>pushCells_keeps _ _ _ _ (kC _ _ (kD _ _ e)),fun b hb=>(hf b hb).1,I.hok.fresh (by rw [hDd];exact Nat.le_refl _),hD4,.nil,w0⟩
  rintro n s5 ⟨i,acc,H5,its,k,I5,st5,fr5,hD5,oD5,rv5,w5⟩
  have pinD:Inv X' [(D,{ cls:=.type "list",data:=.seq (List.toArray its) k })] (capt σ map) H5 s5:=I5.pins_of fun p hp=>by
   have e:p=(D,{ cls:=.type "list",data:=.seq (List.toArray its) k }):=by simpa using hp
   subst e
   refine ⟨oD5,hD5,?_,nfsD,fun v=>noCell v⟩
   rw [eL,szD]
   exact Nat.ne_of_lt (Nat.lt_succ_self _)
  have plD:∀ p∈[(D,({ cls:=.type "list",data:=.seq (List.toArray its) k }:Obj))],p.1=D:=fun p hp=>by
   have e:p=(D,{ cls:=.type "list",data:=.seq (List.toArray its) k }):=by simpa using hp
   rw [e]
  have err:∀ e s',X'.xe e s'->notedBy (model X.prog X.w) X.A (compEnvC scope (cellsFrom h3.objs.size scope.names cl) H2.objs.size X.env) (fun e s'=>RR (.ref D) H2.objs.size (.error e) s') e s':=fun e s' he=>by
   rw [exe] at he
   exact wpAny_mono he (fun _ s'' q=>hErr D _ e s'' q) fun e'' s'' q=>hErr D _ e'' s'' q
  rcases ht i n acc H5 w5 with ⟨stop,hsz,fin⟩|⟨go,hsz,NN,hNN,step⟩
  · have dn:=T.done X' eprog ew eK ecalm i _ s5 (capt σ map) H5 (notedBy (model X.prog X.w) X.A (compEnvC scope (cellsFrom h3.objs.size scope.names cl) H2.objs.size X.env) fun e s'=>RR (.ref D) H2.objs.size (.error e) s') pinD (f4 fr5 plD) st5 stop
    rw [eA] at dn
    refine thn dn fun r s6 ⟨hr,I6⟩=>?_
    subst hr
    obtain ⟨oD6,hD6,_⟩:=I6.pin (D,_) (by rw [epn];exact List.mem_cons_self)
    obtain ⟨m,nsm,_⟩:=I6.loc
    rw [eL] at nsm
    have un:=I6.base
    rw [efs,eex,eH0,es0] at un
    have hok:=I6.hok
    rw [eprog,ew] at hok
    have os6:=I6.os
    rw [es0] at os6
    have fC:H5 H2.objs.size=none:=by rw [<- eL];exact I6.free
    have nDC:H2.objs.size≠D:=by rw [szD];exact Nat.ne_of_gt (Nat.lt_succ_self _)
    refine hOk D H2.objs.size acc H5 s6 m (I.call' (ch:=fp) os6 ?_ ?_ I6.bare fun b hb=>?_) hD5 nsm (by rw [Q3 nDC];exact fC) ?_ ?_ ?_ ?_ fin
    · refine ⟨un.keep,un.slot,fun b o e n hx=>?_,un.there,fun b xs e=>?_,fun b o u e=>?_,fun b ps e=>?_⟩
      · rw [Q3 (Nat.ne_of_lt (hDd▸Heap.lt_size e))]
        exact un.free b o e n hx
      · have:=un.tups b xs e
        rw [Q3 (Q0 this hD5)]
        exact this
      · have:=un.frzs b o u e
        rw [Q3 (Q0 this hD5)]
        exact this
      · obtain ⟨more,this⟩:=un.tbls b ps e
        exact ⟨more,by rw [Q3 (Q0 this hD5)];exact this⟩
    · intro b o e
      by_cases hb:b=D
      · subst hb
        rw [Q6] at e
        cases e
        exact ⟨hsz,its,k,rv5,oD6⟩
      · rw [Q3 hb] at e
        exact (hok b o e).stay (fun _ _ _ q=>q) (fun c q=>by rw [Q3 (Q0 q hD5)];exact q) fun c xs q=>by rw [Q3 (Q0 q hD5)];exact q
    · obtain ⟨f0,f1,f2,f3,f4',f5⟩:=hf b hb
      exact ⟨f3,f1,f4',f5⟩
    · have:=I.lt
      rw [hDd] at this
      intro z
      rw [<- z,szD] at this
      exact absurd (Nat.lt_of_succ_lt this) (Nat.lt_irrefl _)
    · have:=I.sz
      rw [hDd] at this
      omega
    · intro x c e z
      obtain ⟨v,o,ho,_⟩:=I.cell x c e
      have:=Heap.lt_size ho
      rw [hDd,z,szD] at this
      exact absurd (Nat.lt_of_succ_lt this) (Nat.lt_irrefl _)
    · intro p hp z
      have:=Heap.lt_size (I.pin p hp).1
      rw [hDd,z,szD] at this
      exact absurd (Nat.lt_of_succ_lt this) (Nat.lt_irrefl _)
  · have im:=T.item X' eprog ew eK ecalm i _ s5 (capt σ map) H5 (notedBy (model X.prog X.w) X.A (compEnvC scope (cellsFrom h3.objs.size scope.names cl) H2.objs.size X.env) fun e s'=>RR (.ref D) H2.objs.size (.error e) s') pinD (f4 fr5 plD) st5 go
    rw [eA] at im
    refine thn im fun r s6 ⟨u,hr,h6⟩=>?_
    subst hr
    refine thn h6 fun _ s7 ⟨x,H7,I7,r7,y7,st7,fr7⟩=>?_
    have I7':=I7.pinned (f4 fr7 plD) (T.obj _ _ st7)
    have stp:=B.keep _ _ _ _ (step x H7 y7)
    have pgx:=pg _ s7 (capt σ map) H7 x u _ I7' r7 stp
    rw [eprog,ew,eA,eenv] at pgx
    refine wpAny_mono pgx (fun _ s8 ⟨σ8,H8,I8,⟨kl,k8⟩,q8⟩=>?_) err
    have pix:=pif _ s8 σ8 H8 _ I8 q8
    rw [eprog,ew,eA,eenv] at pix
    refine wpAny_mono pix (fun b s9 ⟨H9,I9,q9⟩=>?_) err
    have wk:∀ {σa:St} {Ha:Hp} {sa:Shared},σa=σ8->Inv X' ([(D,({ cls:=.type "list",data:=.seq (List.toArray its) k }:Obj))]++CO fp s7.heap) σa Ha sa ->
     Inv X' [] (capt σ map) Ha sa/\tn (i+1) sa.heap/\(∀ b∈fp,Ha b=none)/\Ha D=none/\sa.heap.get? D=some { cls:=.type "list",data:=.seq (List.toArray its) k }:=fun {σa Ha sa} ea Ia=>by
     subst ea
     refine ⟨(Ia.pins_of (pins':=[]) fun p hp=>absurd hp (by simp)).weak kl.symm fun j v e=>?_,T.keep _ _ _ st7 fun b hb o e=>(Ia.pin (b,o) (List.mem_append_right _ (List.mem_append_right _ (Y3 hb e)))).1,fun b hb=>?_,?_,?_⟩
     · have e':=e
       unfold capt at e'
       rw [List.getElem?_map] at e'
       cases hm:map[j]? with
       | none=>rw [hm] at e';cases e'
       | some o =>
         rw [hm] at e'
         cases o with
         | none=>simp at e'
         | some i'=>rw [k8 j i' hm];exact e
     · obtain ⟨o,e,d⟩:=T.obj _ _ st7 b hb
       exact (Ia.pin (b,o) (List.mem_append_right _ (List.mem_append_right _ (Y3 hb e)))).2.1
     · exact (Ia.pin (D,_) (List.mem_append_right _ (List.mem_append_left _ List.mem_cons_self))).2.1
     · exact (Ia.pin (D,_) (List.mem_append_right _ (List.mem_append_left _ List.mem_cons_self))).1
    cases b with
    | false =>
      rw [if_neg Bool.false_ne_true] at q9 ⊢
      obtain ⟨m',hm',w9⟩:=hNN _ _ q9
      obtain ⟨a1,a2,a3,a4,a5⟩:=wk rfl I9
      exact ⟨m',hm',i+1,acc,H9,its,k,a1,a2,a3,a4,a5,rv5,w9⟩
    | true =>
      rw [if_pos rfl] at q9 ⊢
      have pex:=pel _ s9 σ8 H9 _ I9 q9
      rw [eprog,ew,eA,eenv] at pex
      refine wpAny_mono pex (fun v s10 ⟨y,H10,I10,r10,q10⟩=>?_) err
      obtain ⟨m',hm',w10⟩:=hNN _ _ q10
      obtain ⟨a1,a2,a3,a4,a5⟩:=wk rfl I10
      have hl:=rv5.length
      refine wpAny_list_append_plain (items:=List.toArray its) ⟨k,a5⟩ (fun h11 pl11 sb11=>?_) (by simp only [List.size_toArray];omega)
      obtain ⟨k',e11⟩:=pl11
      refine ⟨m',hm',i+1,acc++[y],H10,its++[v],k',a1.turned (t':=s10.toks) (it:=D) (fun b o hb e=>(sb11.2 b hb).trans e) a4 ?_ (.inr (by rw [es0,hDd];exact Nat.le_refl _)) ncD (fun p hp=>absurd hp (by rw [epn];simp)),T.keep _ _ _ a2 fun b hb o e=>(sb11.2 b (fD b hb)).trans e,a3,a4,?_,rv5.append (.cons r10 .nil),w10⟩
      · rw [eL,szD]
        exact Nat.ne_of_lt (Nat.lt_succ_self _)
      · rw [e11,List.push_toArray]
 exact codeAny_compStart_list loop (T.self _ 0 _ _ _ (T.keep _ _ _ st fun b hb o e=>pushCells_keeps _ _ _ _ (kC _ _ (kD _ _ e))) loop)
theorem Blk.clos {pins:List (Addr×Obj)}{σ:St}{H:Hp}{s:Shared}(B:Blk X N' scope map tg elt ifs g tt te)(I:Inv X pins σ H s) :
 ∃ cl,closureFor scope X.env=pure cl/\(∀ x c,cl.lookup x=some c->X.env.cells.lookup x=some c)/\∀ x,(x,NameKind.free)∈scope.names->(cl.lookup x).isSome=true :=
 LS fun x hx=>I.ok.has x (by
  have q:=List.all_eq_true.mp B.free _ hx
  simpa using q)
noncomputable def Q2r (wi:TI)(map:List (Option Nat))(g:TG)(tt:TT)(te:TE):TE:=fun σ H Q=>wi σ H fun J H1=>∃ W:Nat->Nat->List V->Hp->Prop,(∃ m,W 0 m [] H1) /\
 KZ J g tt te (capt σ map) (fun acc H'=>∀ D,H' D=none->Q (.ref D) (upd H' D (.lst acc))) W
theorem NY (B:Blk X N' scope map tg elt ifs g tt te)(hi:PI X tg iter wi)(hs:∀ x,foldedSetIterable iter X.env x=pure x:=by intro _;rfl):PE X (.ListComp elt [⟨tg,iter,ifs,0⟩] scope pos) (Q2r wi map g tt te):=by
 intro pins s σ H Q I h
 obtain ⟨cl,hcl,hsub,hhas⟩:=B.clos I
 rw [eval_ListComp]
 refine wpAny_comprehension_free (use:=none) rfl hs hcl B.kind B.loc (thn (hi pins s σ H _ I h) fun v s1 h1=>thn h1 fun itv s2 h2=>?_)
 obtain ⟨it,fp,tn,J,H2,e,I2,T,st2,f2,W,⟨m0,w0⟩,turn⟩:=h2
 subst e
 refine WF (RR:=fun acc C=>compPost (model X.prog X.w) X.A X.xe none (EP X pins σ Q) acc C) I2 B.m hsub hhas (R:=fun X=>X.calm=true) (fun _ _ _ _ _=>B.calm) T.gen st2 f2 w0 turn (fun D C acc H' s' m I' hD nsm fC c1 c2 c3 c4 fin=>?_) fun D C e s' z=>z
 refine ⟨m,nsm,fun h' sb=>⟨.ref D,_,?_,rfl,fin D hD⟩⟩
 exact I'.turned (t':=s'.toks) (fun b o hb e=>(sb.2 b hb).trans e) fC c1 (.inr c2) c3 c4
noncomputable def ZE (i:Nat)(wi:TI)(map:List (Option Nat))(g:TG)(tt:TT)(te:TE):TS:=fun D σ H=>wi σ H fun J H1=>∃ W:Nat->Nat->List V->Hp->Prop,(∃ m,W 0 m [] H1) /\
 KZ J g tt te (capt σ map) (fun acc H'=>∀ d,H' d=none->D.nx (σ.set i (some (.ref d))) (upd H' d (.lst acc))) W
theorem SX {i:Nat}{y:Str}{py spos:Pos}(hN:X.N.Nodup)(hiN:X.N[i]?=some y)(hy:Loc X.env.scope y)(B:Blk X N' scope map tg elt ifs g tt te)(hi:PI X tg iter wi)
 (hsw:swapsWith (.ListComp elt [⟨tg,iter,ifs,0⟩] scope pos) (some (.Name y py)) spos.line X.env=pure true:=by rfl) (hfn:X.fn y=true\/X.env.scope.names.lookup y=some .local:=by first|exact .inl rfl|exact .inr rfl)
 (hs:∀ x,foldedSetIterable iter X.env x=pure x:=by intro _;rfl):PS X (.Assign [.Name y py] (.ListComp elt [⟨tg,iter,ifs,0⟩] scope pos) spos) (ZE i wi map g tt te):=by
 intro pins s σ H D I h
 obtain ⟨cl,hcl,hsub,hhas⟩:=B.clos I
 rw [exec_Assign_Name_used _ _ _ _ hsw]
 refine wpAny_bind (wpAny_standAt (wpAny_bind ?_))
 show wpAny _ _ (do let _ <- comprehension (.ListComp elt [⟨tg,iter,ifs,0⟩] scope pos) scope X.env _ (newList []) false (eval iter X.env) (some (assign (.Name y py) X.env))) _ _ _
 refine wpAny_bind (thn (wpAny_comprehension_free (use:=some (assign (.Name y py) X.env)) (Q:=fun _ s'=>SP X pins D .next s') rfl hs hcl B.kind B.loc (thn (hi pins s σ H _ I h) fun v s1 h1=>thn h1 fun itv s2 h2=>?_)) fun _ s' hq=>wpAny_pure (wpAny_pure hq))
 obtain ⟨it,fp,tn,J,H2,e,I2,T,st2,f2,W,⟨m0,w0⟩,turn⟩:=h2
 subst e
 refine WF (RR:=fun acc C=>compPost (model X.prog X.w) X.A X.xe (some (assign (.Name y py) X.env)) (fun _ s'=>SP X pins D .next s') acc C) I2 B.m hsub hhas (R:=fun X=>X.calm=true) (fun _ _ _ _ _=>B.calm) T.gen st2 f2 w0 turn (fun d C acc H' s' m I' hD nsm fC c1 c2 c3 c4 fin=>?_) fun D C e s' z=>z
 refine wpAny_assign_Name (MD I' hN hiN hy (v:=.ref d) rfl (fun s'' I'' ⟨a,sb,ha⟩=>?_) hfn)
 have hCa:C≠a:=by
  rcases ha with z|z
  · rw [z];exact c1
  · exact (c3 y a z).symm
 refine ⟨m,nsm.sameBut sb hCa,fun h' sb'=>⟨_,_,?_,fin d hD⟩⟩
 exact I''.turned (t':=s''.toks) (fun b o hb e=>(sb'.2 b hb).trans e) fC c1 (.inr c2) c3 c4
end
theorem gkeep_name {j:Nat}{map:List (Option Nat)}(h:map[j]?=some none):FJ (RS j) map:=fun v σ H Q q=>by
 refine ⟨⟨by simp,fun j' i hm=>?_⟩,q⟩
 have:j≠j':=fun z=>by rw [z,hm] at h;cases h
 rw [List.getElem?_set_ne this]
def Bd (n:Nat)(i:Int):Prop:=i.natAbs<2 ^ n
theorem Bd.mono {m n:Nat}{i:Int}(h:Bd m i)(k:m<=n):Bd n i:=Nat.lt_of_lt_of_le h (Nat.pow_le_pow_right (by decide) k)
theorem Bd.mul {m n:Nat}{i j:Int}(h:Bd m i)(k:Bd n j):Bd (m+n) (i*j):=by
 unfold Bd at *
 rw [Int.natAbs_mul,Nat.pow_add]
 exact Nat.mul_lt_mul'' h k
theorem Bd.add {m n:Nat}{i j:Int}(h:Bd m i)(k:Bd n j):Bd (max m n+1) (i+j):=by
 have h':Bd (max m n) i:=h.mono (Nat.le_max_left _ _)
 have k':Bd (max m n) j:=k.mono (Nat.le_max_right _ _)
 unfold Bd at *
 rw [Nat.pow_succ]
 have:=Int.natAbs_add_le i j
 omega
theorem Bd.neg {m:Nat}{i:Int}(h:Bd m i):Bd m (-i):=by
 unfold Bd at *
 rw [Int.natAbs_neg]
 exact h
theorem Bd.of {n:Nat}{i:Int}(h1 : -(2 ^ n:Nat)<i)(h2:i<(2 ^ n:Nat)):Bd n i:=by
 unfold Bd
 omega
theorem Bd.lt {n:Nat}{i:Int}(h:Bd n i) : -((2 ^ n:Nat):Int)<i/\i<((2 ^ n:Nat):Int):=by
 unfold Bd at h
 omega
theorem PH {n:Nat}{i:Int}(h:Bd n i):Builtin.Int.intBits i<=n:=by
 unfold Builtin.Int.intBits
 split
 · exact Nat.zero_le _
 · rename_i hz
   have h0:i.natAbs≠0:=fun z=>hz (by have:i=0:=Int.natAbs_eq_zero.mp z;simp [this])
   exact (Nat.log2_lt h0).mpr h
def CMulB (i j:Int):Prop:=(∃ m n,Bd m i/\Bd n j/\m+n<=100000000)\/Bd 64 j
def Q5d (i j:Int):Prop:=0<j/\∃ n,Bd n j/\n<=9000
section
variable {X:Cx}
theorem AG:OpR X (binaryOp .Mult) (rI CMulB fun i j=>.int (i*j)):=opI fun i j _ _ _ _ _ hc q=>mul_int q (by
 rcases hc with ⟨m,n,h1,h2,h3⟩|h1
 case inr=>exact .of_right (PH h1)
 have e1:=PH h1
 have e2:=PH h2
 unfold IntMulOk
 have e3:Builtin.Int.intTooBig (Builtin.Int.intBits i+Builtin.Int.intBits j)=false:=by
  unfold Builtin.Int.intTooBig
  refine decide_eq_false ?_
  have:bitsLine=134217728:=by unfold bitsLine;decide
  rw [this]
  omega
 rw [e3]
 simp)
theorem JM:OpR X (binaryOp .FloorDiv) (rI Q5d fun i j=>.int (i / j)):=opI fun i j _ _ _ _ _ hc q=>by
 obtain ⟨h1,n,h2,h3⟩:=hc
 refine floordiv_int (by omega) (by rw [Int.fdiv_eq_ediv_of_nonneg i (by omega)];exact q) (.inl (PyProof.noPylong_of_log2 ?_))
 have h0:j.natAbs≠0:=by omega
 exact (Nat.log2_lt h0).mpr (h2.mono h3)
theorem J0i:OpR X (binaryOp .FloorDiv) (rI (fun _ j=>j≠0/\∃ n,Bd n j/\n<=9000) fun i j=>.int (i.fdiv j)):=opI fun i j _ _ _ _ _ hc q=>by
 obtain ⟨h1,n,h2,h3⟩:=hc
 refine floordiv_int h1 q (.inl (PyProof.noPylong_of_log2 ?_))
 have h0:j.natAbs≠0:=by omega
 exact (Nat.log2_lt h0).mpr (h2.mono h3)
end
theorem Same.upd {H:Hp}{p:Addr}{o:HO}(h:H p=none):Same H (upd H p o):=fun b u e=>by rw [Q3 (Q0 e h)];exact e
def Keep (p:Addr)(H H':Hp):Prop:=∀ b o,b≠p->H b=some o->H' b=some o
theorem Keep.trans {p:Addr}{H H1 H2:Hp}(a:Keep p H H1)(b:Keep p H1 H2):Keep p H H2:=fun c o n e=>b c o n (a c o n e)
theorem Keep.upd {p:Addr}{H:Hp}{o:HO}:Keep p H (upd H p o):=fun b u n e=>by rw [Q3 n];exact e
theorem Same.keep {p:Addr}{H H':Hp}(h:Same H H'):Keep p H H':=fun b o _ e=>h b o e
theorem Keep.same {p:Addr}{H0 H H':Hp}(a:Same H0 H)(n:H0 p=none)(k:Keep p H H'):Same H0 H':=fun b o e=>k b o (Q0 e n) (a b o e)
structure Callee (P:Program)(w:World)(K:Fg)(mg:Str->Option Value)(base:Heap)(CX:CXT)(x:Str)(k:Nat)(ps:List Str)(sp:Sp):Prop where
 ex:∃ f fd,FnOk P w K mg base CX k f fd ps sp/\mg x=some (.ref f)/\PySem.W.keepIn K (.ref f)=true/\Binds K fd ps []
section
variable {X:Cx}{k:Nat}{ps:List Str}{sp:Sp}{x:Str}{p pos:Pos}{e:Expr}{es:List Expr}{t:TA}
theorem TJ (G:Callee X.prog X.w X.K X.mg X.base CX0 x k ps sp)(hr:Room k X.A)(hg:Gl X x)(ha:PA X (e::es) t)(hdb:(x==("__debug__" : Str))=false:=by decide) (he:starEach (e::es) X.env=(false,eval e X.env)::starEach es X.env:=by rfl) (hpl:(backTo pos (starEach es X.env)).any (·.1)=false:=by rfl) :
 PE X (.Call (.Name x p) (e::es) [] pos) (UU sp [] E0 t):=by
 obtain ⟨f,fd,F,hm,hk,hb⟩:=G.ex
 exact VB F hr hg hm hk hb .nil Q3g ha hdb he hpl
end
theorem Callee.mk' {w:World} {CX:CXT}{x qual:Str}{st:Stmt}{f:Addr} {k:Nat}{ps:List Str}{sp:Sp}(F:Fun K x qual st f fd)(G:FnOk P w K mg base CX k f fd ps sp)(hm:mg x=some (.ref f))(hb:Binds K fd ps []) :
 Callee P w K mg base CX x k ps sp:=⟨f,fd,G,hm,F.kp,hb⟩
theorem J5w {c:Bool}{A B:Prop}(h1:c=true->A)(h2:c=false->B):if c=true then A else B:=by
 cases c with
 | true=>exact Q5u (h1 rfl)
 | false=>exact Q5v (h2 rfl)
theorem Q1r:bootBuiltins "abs" = some (.builtin "abs"):=by decide +kernel
theorem EJ:bootBuiltins "len" = some (.builtin "len"):=by decide +kernel
theorem PD:bootBuiltins "max" = some (.builtin "max"):=by decide +kernel
theorem J2z:bootBuiltins "min" = some (.builtin "min"):=by decide +kernel
theorem J2y:bootBuiltins "sum" = some (.builtin "sum"):=by decide +kernel
theorem HX:bootBuiltins "sorted" = some (.builtin "sorted"):=by decide +kernel
theorem J3a:bootBuiltins "int" = some (.type "int"):=by decide +kernel
theorem DX:bootBuiltins "tuple" = some (.type "tuple"):=by decide +kernel
theorem J6v:bootBuiltins "list" = some (.type "list"):=by decide +kernel
theorem Q1q:bootBuiltins "zip" = some (.type "zip"):=by decide +kernel
theorem Same.get {H H':Hp}{a:Addr}{o:HO}(S:Same H H')(h:H a=some o):H' a=some o:=S a o h
theorem Keep.get {p:Addr}{H H':Hp}{a:Addr}{o:HO}(S:Keep p H H')(n:a≠p)(h:H a=some o):H' a=some o:=S a o n h
theorem Bd.num (i:Int)(h:i.natAbs<18446744073709551616):Bd 64 i:=h
theorem AT:1000<=sizeLine:=by decide
theorem J8c {a b:Int}(h:decide (V.int a=V.int b)=true):a=b:=by injection of_decide_eq_true h
theorem J5h {a b:Int}(h:(!decide (V.int a=V.int b))=true):a≠b:=fun z=>by rw [z] at h;simp at h
theorem J5i {a b:Int}(h:(!decide (V.int a=V.int b))=false):a=b:=by
 have q:decide (V.int a=V.int b)=true:=by cases e:decide (V.int a=V.int b) with|true=>rfl|false=>rw [e] at h;cases h
 exact J8c q
theorem J2i {p:Prop}[Decidable p](h:decide p=true):p:=of_decide_eq_true h
def Bag (H:Hp)(p:Addr):Prop:=∃ f m:Int,H p=some (.lst [.int f,.int m])/\0<=f/\0<=m/\m<2147483647
theorem Bag.same {H H':Hp}{p:Addr}(b:Bag H p)(S:Same H H'):Bag H' p:=by
 obtain ⟨f,m,e,q⟩:=b
 exact ⟨f,m,S _ _ e,q⟩
theorem Bag.ne {H:Hp}{p a:Addr}{xs:List V}(b:Bag H p)(h:H a=some (.tup xs)):a≠p:=by
 obtain ⟨f,m,e,_⟩:=b
 exact J7j h e (by intro z;cases z)
theorem CMulB.right {i j:Int}(h:Bd 64 j):CMulB i j:=.inr h
theorem Keep.tup {p:Addr}{H H':Hp}{a:Addr}{xs:List V}(S:Keep p H H')(b:Bag H p)(h:H a=some (.tup xs)):H' a=some (.tup xs):=S a _ (b.ne h) h
theorem J3f {xs:List V}{i:Int}(h0:0<=i)(h1:i<xs.length):∃ v,atI xs i=some v/\v∈xs:=by
 obtain ⟨j,rfl⟩:∃ j:Nat,i=j:=⟨i.toNat,by omega⟩
 have hj:j<xs.length:=by omega
 exact ⟨xs[j],IV (List.getElem?_eq_getElem hj),List.getElem_mem hj⟩
theorem V9 (l:List Str)(h:l.Nodup):l.Nodup:=h
section
variable {X:Cx}{l:Expr}
theorem VO (K:Fg)(h:X.K=K):IxR X (J4l K):=by subst h;exact J9y
theorem BW (K:Fg)(h:X.K=K):IxR X (J4m K):=by subst h;exact J5u
theorem CI {es:List Expr}{k:Nat}{t:TGs}{n:Nat}{pos:Pos}(K:Fg)(h:X.K=K)(hc:X.calm=true)(hs:PGs X es t)(hn:(assignEach es X.env).length=n:=by rfl)(hst:(assignEach es X.env).findIdx? (·.1)=none:=by rfl):PG X (.Tuple es k pos) (Q0g K n t):=by subst h;exact J9c hc hs hn hst
theorem Y2 (K:Fg)(h:X.K=K):AW X (.builtin "len") (fun xs H Q=>∃ p ys,xs=[.ref p]/\(SqL K H p ys\/SqT K H p ys)/\Q (.int ys.length) H):=by subst h;exact PC
theorem Z6 (K:Fg)(h:X.K=K):AW X (.type "tuple") (fun xs H Q=>∃ p ys,xs=[.ref p]/\((SqL K H p ys/\∀ l,H l=none->Q (.ref l) (upd H l (.tup ys)))\/(SqT K H p ys/\Q (.ref p) H))):=by subst h;exact LU
theorem LV (K:Fg)(h:X.K=K):AW X (.type "list") (fun xs H Q=>∃ p ys,xs=[.ref p]/\(SqL K H p ys\/SqT K H p ys)/\∀ l,H l=none->Q (.ref l) (upd H l (.lst ys))):=by subst h;exact PB
theorem XB {a:Expr}{ta:TE}(K:Fg)(h:X.K=K)(ha:PE X a ta)(he:∀ whole,isTrue a X.env whole=(do let v <- whole;standAt a.pos;holding [v] (truthy v))):PT X a (fun σ H Q=>ta σ H fun x H'=>∃ k,Q1w K x H' k/\Q k H'):=by subst h;exact ZT ha he
end
theorem KH:∀ {ns:List Int} {us:List Value},Vals (ns.map V.int) us->∃ xs:List (Int×Tok),us=xs.map (fun p=>Value.int p.1 p.2)/\xs.map (·.1)=ns
 | [],us,r=>by
   cases r
   exact ⟨[],rfl,rfl⟩
 | n::ns,us,r=>by
   cases r with
   | cons r1 r2 =>
     obtain ⟨t,rfl⟩:=r1
     obtain ⟨xs,e1,e2⟩:=KH r2
     exact ⟨(n,t)::xs,by rw [e1];rfl,by rw [<- e2];rfl⟩
theorem HS (xs:List (Int×Tok)):intItems xs.toArray=(xs.map fun p=>Value.int p.1 p.2).toArray:=by simp [intItems]
section
variable {X:Cx}
theorem NE (K:Fg)(hK:X.K=K)(hc:X.calm=true):AW X (.builtin "sum") (fun xs H Q=>∃ (p:Addr) (ns:List Int),xs=[.ref p]/\SqL K H p (ns.map V.int)/\Q (.int ns.sum) H):=by
 subst hK
 intro pins s σ H xs us Q I r h
 obtain ⟨p,ns,rfl,hq,q⟩:=h
 obtain ⟨u,rfl,rx⟩:=FW r
 cases rx
 obtain ⟨its,rv,pl,hz⟩:=I.list hq
 obtain ⟨ps,e1,e2⟩:=KH rv
 subst e1
 have hl:=pl.isList
 rw [<- HS] at hl
 refine sum_intListG (xs:=ps.toArray) (I.ok.hd hc) hl fun h' tk t' k=>?_
 refine ⟨.int ns.sum,H,I.kept k,⟨t',?_⟩,q⟩
 rw [preSum_eq,List.take_of_length_le (by simp)]
 show Value.int ((ps.map (·.1)).sum) t'=_
 rw [e2]
end
section
variable {prog:Program}{w:World}{A:Around}{E:Value->Shared->Prop}{s:Shared}
theorem TR {u t:Addr}{j:Nat}{its}{v:Value}{Q:Value->Shared->Prop}(a1:s.heap.IsTupleIter u t j)(a2:s.heap.IsTuple t its)(a3:its[j]?=some v)
 (q:∀ h',h'.IsTupleIter u t (j+1)->Heap.SameBut u s.heap h'->Q v { s with heap:=h' }):wpAny (model prog w) A (Builtin.SmallTypes.nextOf (.ref u)) Q E s:=by
 obtain ⟨oi,b1,b2,b3⟩:=id a1
 obtain ⟨ot,c1,_,nt,c2⟩:=a2
 unfold Builtin.SmallTypes.nextOf
 refine wpAny_bind (wpAny_callSpecial?_slot (name:=Str.ofString "__next__") a1.typeIs F.slot_tuple_iterator_next (wpAny_call_entry F.slot_tuple_iterator_next a1.typeIs F.entry_tuple_iterator_next ?_ (F.args_tuple_iterator_next_1 _)))
 show wpAny _ _ (field (.ref u) 0 >>= _) _ _ s
 refine wpAny_bind (wpAny_field b1 b3 (x:=.ref t) rfl ?_)
 show wpAny _ _ (if (Value.ref t==Value.none)=true then _ else _) _ _ s;rw [if_neg (show ¬ ((Value.ref t==Value.none)=true) from Bool.false_ne_true)]
 show wpAny _ _ (field (.ref u) 1 >>= _) _ _ s
 refine wpAny_bind (wpAny_field b1 b3 (x:=.int j 0) rfl ?_)
 show wpAny _ _ (seqItems? (.ref t) >>= _) _ _ s;refine wpAny_bind (wpAny_seqItems c1 c2 ?_)
 simp only [Int.toNat_natCast,a3]
 refine wpAny_bind (wpAny_setField b1 b3 (by simp) (wpAny_pure ⟨v,rfl,wpAny_pure (q _ ⟨_,Heap.get?_update_self _ b1 (Obj.isFreed_of_fields (Obj.data_mapFields b3 _)),(Obj.cls_mapFields ..).trans b2,by rw [Obj.data_mapFields b3];simp [rawInt]⟩ (Heap.SameBut.update ..))⟩))
theorem XN {u t:Addr}{j:Nat}{its}{Q:Value->Shared->Prop}(a0:A.handled=none)(a1:s.heap.IsTupleIter u t j)(a2:s.heap.IsTuple t its)(a3:its[j]?=none)
 (q:∀ h' e,Heap.ExtBut u s.heap h'->(∃ o,h'.get? e=some o/\o.cls=.type "StopIteration")->E (.ref e) { s with heap:=h' }):wpAny (model prog w) A (Builtin.SmallTypes.nextOf (.ref u)) Q E s:=by
 obtain ⟨oi,b1,b2,b3⟩:=id a1
 obtain ⟨ot,c1,_,nt,c2⟩:=a2
 unfold Builtin.SmallTypes.nextOf
 refine wpAny_bind (wpAny_callSpecial?_slot (name:=Str.ofString "__next__") a1.typeIs F.slot_tuple_iterator_next (wpAny_call_entry F.slot_tuple_iterator_next a1.typeIs F.entry_tuple_iterator_next ?_ (F.args_tuple_iterator_next_1 _)))
 show wpAny _ _ (field (.ref u) 0 >>= _) _ _ s
 refine wpAny_bind (wpAny_field b1 b3 (x:=.ref t) rfl ?_)
 show wpAny _ _ (if (Value.ref t==Value.none)=true then _ else _) _ _ s;rw [if_neg (show ¬ ((Value.ref t==Value.none)=true) from Bool.false_ne_true)]
 show wpAny _ _ (field (.ref u) 1 >>= _) _ _ s
 refine wpAny_bind (wpAny_field b1 b3 (x:=.int j 0) rfl ?_)
 show wpAny _ _ (seqItems? (.ref t) >>= _) _ _ s;refine wpAny_bind (wpAny_seqItems c1 c2 ?_)
 simp only [Int.toNat_natCast,a3]
 refine wpAny_bind (wpAny_rule (wpAny_bind (wpAny_setField b1 b3 (by simp) ?_)))
 show wpAny _ _ (newExc (.type "StopIteration") [] >>= _) _ _ _;refine wpAny_bind ?_;simp only [newExc,newTuple]
 refine wpAny_bind (wpAny_newObj_type ?_ (by size_fits));refine wpAny_bind (m:=firstArgMember _ _) (wpAny_of_eq (a:=Value.none) (by first|rfl|(simp only [firstArgMember];rfl)) ?_)
 refine wpAny_newObj_type ?_ (by size_fits);simp only [raiseNew];refine wpAny_bind (wpAny_handled ?_)
 first|rw [show A.in1.handled=none from a0]|rw [a0]
 refine wpAny_bind (wpAny_pure (wpAny_throw (q _ _ (((Heap.SameBut.update ..).extBut.push _).push _) ⟨_,Heap.get?_push_size _ rfl,rfl⟩)))
def ItAt (b:Bool)(h:Heap)(u l:Addr)(j:Nat):Prop:=match b with|false=>h.IsListIter u l j|true=>h.IsTupleIter u l j
def SeqAt (b:Bool)(h:Heap)(l:Addr)(xs:Array Value):Prop:=match b with|false=>h.IsList l xs|true=>h.IsTuple l xs
theorem ItAt.at {b:Bool}{h h':Heap}{u l:Addr}{j:Nat}(x:ItAt b h u l j)(k:∀ o,h.get? u=some o->h'.get? u=some o):ItAt b h' u l j:=by
 cases b with
 | false=>exact Heap.IsListIter.at x k
 | true=>exact Heap.IsTupleIter.at x k
theorem SeqAt.at {b:Bool}{h h':Heap}{l:Addr}{xs:Array Value}(x:SeqAt b h l xs)(k:∀ o,h.get? l=some o->h'.get? l=some o):SeqAt b h' l xs:=by
 cases b with
 | false=>obtain ⟨o,e,r⟩:=x;exact ⟨o,k o e,r⟩
 | true=>obtain ⟨o,e,r⟩:=x;exact ⟨o,k o e,r⟩
theorem ItAt.obj {b:Bool}{h:Heap}{u l:Addr}{j:Nat}(x:ItAt b h u l j):∃ o,h.get? u=some o/\∀ v,o.data≠.cell v:=by
 cases b with
 | false=>obtain ⟨o,e,c,d⟩:=x;exact ⟨o,e,fun v z=>by rw [d] at z;cases z⟩
 | true=>obtain ⟨o,e,c,d⟩:=x;exact ⟨o,e,fun v z=>by rw [d] at z;cases z⟩
theorem QD {b:Bool}{u l:Addr}{j:Nat}{xs:Array Value}{v:Value}{Q:Value->Shared->Prop}(a1:ItAt b s.heap u l j)(a2:SeqAt b s.heap l xs)(a3:xs[j]?=some v)
 (q:∀ h',ItAt b h' u l (j+1)->Heap.SameBut u s.heap h'->Q v { s with heap:=h' }):wpAny (model prog w) A (Builtin.SmallTypes.nextOf (.ref u)) Q E s:=by
 cases b with
 | false=>exact wpAny_nextOf_list_item a1 a2 a3 q
 | true=>exact TR a1 a2 a3 q
theorem J4d {b:Bool}{u l:Addr}{j:Nat}{xs:Array Value}{Q:Value->Shared->Prop}(a0:A.handled=none)(a1:ItAt b s.heap u l j)(a2:SeqAt b s.heap l xs)(a3:xs[j]?=none)
 (q:∀ h' e,Heap.ExtBut u s.heap h'->(∃ o,h'.get? e=some o/\o.cls=.type "StopIteration")->E (.ref e) { s with heap:=h' }):wpAny (model prog w) A (Builtin.SmallTypes.nextOf (.ref u)) Q E s:=by
 cases b with
 | false=>exact wpAny_nextOf_list_end a0 a1 a2 a3 q
 | true=>exact XN a0 a1 a2 a3 q
abbrev BI (h:Heap)(T:Addr)(vs:Array Value):Prop:=h.get? T=some { cls:=.type "tuple",data:=.seq vs }
theorem LZ {T:Addr}{vs:Array Value}{v:Value}{k:Nat}{Q:Unit->Shared->Prop}(hv:vs.size<=1000)(hT:BI s.heap T vs)
 (q:∀ h',BI h' T (vs.setIfInBounds k v)->Heap.SameBut T s.heap h'->Q () { s with heap:=h' }):wpAny (model prog w) A (updateSeq T (·.setIfInBounds k v)) Q E s:=by
 have z1:vs.size<=sizeLine:=Nat.le_trans hv AT
 refine wpAny_updateSeq hT rfl (q _ ?_ (Heap.SameBut.update ..)) (hz:=z1) (_hz':=by simp;omega)
 show Heap.get? _ T=_
 rw [Heap.get?_update_self _ hT rfl];simp [Obj.mapSeq]
end
section
variable {X:Cx}{pins:List (Addr×Obj)}{σ:St}{H:Hp}{s:Shared}{h':Heap}
theorem Inv.zipped {fp:List Addr}{T:Addr}{o:HO}{t':Nat}(I:Inv X pins σ H s)(hf:∀ b∈fp,CU X pins H b)(k:∀ b o,b∉fp->s.heap.get? b=some o->h'.get? b=some o)(hT:s.heap.objs.size<=T)
 (new:ObjOk X.prog X.w (upd H T o) h' T o):Inv X pins σ (upd H T o) { s with heap:=h',toks:=t' }:=by
 have hn:H T=none:=I.hok.fresh hT
 have ne:∀ b u,s.heap.get? b=some u->b≠T:=fun b u e z=>absurd (Heap.lt_size e) (by rw [z];exact Nat.not_lt.mpr hT)
 have nfp:∀ b u,H b=some u->b∉fp:=fun b u e hb=>by rw [(hf b hb).1] at e;cases e
 refine I.step (g':=s.gens) (d':=s.drawn) (ch:=fp) (fun b hb=>?_) (fun b o _ _ hc e _=>k b o hc e) (fun b o _ _ hc e _=>⟨o.slots,k b o hc e⟩) (fun b u _ e n=>by rw [Q3 (ne b u e)];exact n)
  (fun b o hc e=>⟨o,k b o hc e⟩) (fun b xs e=>by rw [Q3 (Q0 e hn)];exact e) (fun b o u e=>by rw [Q3 (Q0 e hn)];exact e) (fun b ps e=>⟨#[],by rw [Q3 (Q0 e hn),e];simp⟩) (fun m hm=>?_) (fun b u e=>?_) I.bare
 · obtain ⟨_,f1,_,f3,f4,f5⟩:=hf b hb
   exact ⟨f3,f1,f4,f5⟩
 · obtain ⟨o,es,ep,ho,r⟩:=hm
   exact ⟨o,es,ep,k _ o (fun hb=>(hf _ hb).2.1 rfl) ho,r⟩
 · by_cases hb:b=T
   · subst hb
     rw [Q6] at e
     cases e
     exact new
   · rw [Q3 hb] at e
     refine (I.hok b u e).stay (fun c v hc q=>k c v ?_ q) (fun c q=>by rw [Q3 (Q0 q hn)];exact q) fun c xs q=>by rw [Q3 (Q0 q hn)];exact q
     rcases hc with z|z
     · rw [z];exact nfp b u e
     · exact nfp c _ z
theorem Inv.turnedL {fp:List Addr}{t':Nat}(I:Inv X pins σ H s)(hf:∀ b∈fp,CU X pins H b)(k:∀ b o,b∉fp->s.heap.get? b=some o->h'.get? b=some o):Inv X pins σ H { s with heap:=h',toks:=t' }:=by
 have nfp:∀ b u,H b=some u->b∉fp:=fun b u e hb=>by rw [(hf b hb).1] at e;cases e
 refine I.step (g':=s.gens) (d':=s.drawn) (ch:=fp) (fun b hb=>?_) (fun b o _ _ hc e _=>k b o hc e) (fun b o _ _ hc e _=>⟨o.slots,k b o hc e⟩) (fun b u _ e n=>n)
  (fun b o hc e=>⟨o,k b o hc e⟩) (fun b xs e=>e) (fun b o u e=>e) (fun b ps e=>⟨#[],by rw [e];simp⟩) (fun m hm=>?_) (fun b u e=>?_) I.bare
 · obtain ⟨_,f1,_,f3,f4,f5⟩:=hf b hb
   exact ⟨f3,f1,f4,f5⟩
 · obtain ⟨o,es,ep,ho,r⟩:=hm
   exact ⟨o,es,ep,k _ o (fun hb=>(hf _ hb).2.1 rfl) ho,r⟩
 · refine (I.hok b u e).stay (fun c v hc q=>k c v ?_ q) (fun c q=>q) fun c xs q=>q
   rcases hc with z|z
   · rw [z];exact nfp b u e
   · exact nfp c _ z
def SqX (K:Fg)(b:Bool)(H:Hp)(a:Addr)(xs:List V):Prop:=match b with|false=>SqL K H a xs|true=>SqT K H a xs
theorem Inv.seqX {b:Bool}{a:Addr}{xs:List V}(I:Inv X pins σ H s)(h:SqX X.K b H a xs):∃ its:List Value,Vals xs its/\SeqAt b s.heap a its.toArray/\xs.length<=sizeLine:=by
 cases b with
 | false=>obtain ⟨its,r,p,z⟩:=I.list h;exact ⟨its,r,p.isList,z⟩
 | true=>obtain ⟨its,r,p,z⟩:=I.tuple h;exact ⟨its,r,p,z⟩
theorem Inv.seqX_inj {b:Bool}{a:Addr}{xs ys:List V}(I:Inv X pins σ H s)(h:SqX X.K b H a xs)(h':SqX X.K b H a ys):xs=ys:=by
 cases b with
 | false=>exact I.list_inj h h'
 | true=>exact I.tuple_inj h h'
theorem Inv.seqX_ne {b:Bool}{a:Addr}{xs:List V}{c:Addr}(I:Inv X pins σ H s)(h:SqX X.K b H a xs)(f:CU X pins H c):a≠c:=by
 intro e
 subst e
 have base:∀ {o:Obj},X.base.get? a=some o->False:=fun {o} q=>by
  rcases f.2.2.2.1 with z|z
  · exact I.ok.noex a o q z
  · exact absurd (Heap.lt_size (I.ok.bs a o q).1) (Nat.not_lt.mpr z)
 cases b with
 | false =>
   rcases h with (h|⟨o,h⟩)|⟨o,_,_,h,_⟩
   · rw [f.1] at h;cases h
   · rw [f.1] at h;cases h
   · exact base (I.ok.mod.kin _ _ h)
 | true =>
   rcases h with (h|⟨o,h⟩)|⟨o,_,_,h,_⟩
   · rw [f.1] at h;cases h
   · rw [f.1] at h;cases h
   · exact base (I.ok.mod.kin _ _ h)
end
section
variable {prog:Program}{w:World}{A:Around}{E:Value->Shared->Prop}{s:Shared}
structure ZAp2 (z TI TO i1 i2 l1 l2:Addr):Prop where
 z_TI:z≠TI
 z_TO:z≠TO
 z_i1:z≠i1
 z_i2:z≠i2
 TI_z:TI≠z
 TI_TO:TI≠TO
 TI_i1:TI≠i1
 TI_i2:TI≠i2
 TO_z:TO≠z
 TO_TI:TO≠TI
 TO_i1:TO≠i1
 TO_i2:TO≠i2
 i1_z:i1≠z
 i1_TI:i1≠TI
 i1_TO:i1≠TO
 i1_i2:i1≠i2
 i2_z:i2≠z
 i2_TI:i2≠TI
 i2_TO:i2≠TO
 i2_i1:i2≠i1
 l1_z:l1≠z
 l1_TI:l1≠TI
 l1_TO:l1≠TO
 l1_i1:l1≠i1
 l1_i2:l1≠i2
 l2_z:l2≠z
 l2_TI:l2≠TI
 l2_TO:l2≠TO
 l2_i1:l2≠i1
 l2_i2:l2≠i2
theorem WN {b1 b2:Bool}{z TI TO i1 i2 l1 l2:Addr}{k:Nat}{xs1 xs2:Array Value}{x1 x2 a1 a2:Value}{Q:Value->Shared->Prop}(D:ZAp2 z TI TO i1 i2 l1 l2)(hz:IsZip s.heap z TI TO .none)(hI:BI s.heap TI #[.ref i1,.ref i2])(hO:BI s.heap TO #[a1,a2])(d1:ItAt b1 s.heap i1 l1 k)(g1:SeqAt b1 s.heap l1 xs1)(d2:ItAt b2 s.heap i2 l2 k)(g2:SeqAt b2 s.heap l2 xs2)
 (e1:xs1[k]?=some x1) (e2:xs2[k]?=some x2)
 (q:∀ h',IsZip h' z TI TO (rawInt s.heap.objs.size)->BI h' TO #[x1,x2]->ItAt b1 h' i1 l1 (k+1)->ItAt b2 h' i2 l2 (k+1)->BI h' s.heap.objs.size #[x1,x2]->(∀ c o,c≠z->c≠TO->c≠i1->c≠i2->s.heap.get? c=some o->h'.get? c=some o)->Q (.ref s.heap.objs.size) { s with heap:=h' }) :
 wpAny (model prog w) A (Builtin.«zip.__next__» ⟨[.ref z],[]⟩) (fun fin s'=>∃ v,fin=.done (.ret v)/\Q v s') E s:=by
 show wpAny _ _ (field (.ref z) 2 >>= _) _ _ _;refine wpAny_bind (wpAny_field hz rfl (x:=.bool false) rfl ?_)
 show wpAny _ _ (field (.ref z) 3 >>= _) _ _ _;refine wpAny_bind (wpAny_field hz rfl (x:=.ref TI) rfl ?_)
 refine wpAny_bind (wpAny_seqItems hI rfl ?_)
 show wpAny _ _ (Builtin.SmallTypes.ownedTupleIsFree (.ref z) >>= _) _ _ _;refine wpAny_bind ?_;unfold Builtin.SmallTypes.ownedTupleIsFree
 refine wpAny_bind (wpAny_field hz rfl (x:=.none) rfl (wpAny_pure ?_));simp only [if_true];refine wpAny_bind (wpAny_rule ?_)
 refine wpAny_bind (wpAny_field hz rfl (x:=.ref TO) rfl ?_);refine wpAny_bind (wpAny_setField_rec hz (by simp) fun p0 z0 m0=>?_)
 replace z0:IsZip p0 z TI TO .ellipsis:=z0
 have y0:BI p0 TO #[a1,a2]:=m0.extBut _ _ D.TO_z hO
 have w0:∀ c o,c≠z->c≠TO->c≠i1->c≠i2->s.heap.get? c=some o->p0.get? c=some o:=fun c o c1 _ _ _ e=>m0.extBut _ _ c1 e
 have r0:p0.objs.size=s.heap.objs.size:=m0.1
 have d1_0:ItAt b1 p0 i1 l1 k:=d1.at fun o e=>m0.extBut _ _ D.i1_z e
 have g1_0:SeqAt b1 p0 l1 xs1:=g1.at fun o e=>m0.extBut _ _ D.l1_z e
 have d2_0:ItAt b2 p0 i2 l2 k:=d2.at fun o e=>m0.extBut _ _ D.i2_z e
 have g2_0:SeqAt b2 p0 l2 xs2:=g2.at fun o e=>m0.extBut _ _ D.l2_z e
 refine wpAny_bind ?_;simp only [List.zipIdx_cons,List.zipIdx_nil,List.forIn_cons,List.forIn_nil]
 refine wpAny_bind (wpAny_bind (wpAny_onRaise ?_));show wpAny _ _ (Builtin.SmallTypes.nextOf (.ref i1) >>= _) _ _ _
 refine wpAny_bind (QD d1_0 g1_0 e1 fun u1 t1 n1=>wpAny_pure ?_)
 have v1:BI u1 TO #[a1,a2]:=n1.extBut _ _ D.TO_i1 y0
 refine wpAny_bind (wpAny_seqItems v1 rfl ?_);refine wpAny_bind (LZ (Nat.le_of_ble_eq_true rfl) v1 fun p1 y1 m1=>?_)
 replace y1:BI p1 TO #[x1,a2]:=y1
 have z1:IsZip p1 z TI TO .ellipsis:=m1.extBut _ _ D.z_TO (n1.extBut _ _ D.z_i1 z0)
 have w1:∀ c o,c≠z->c≠TO->c≠i1->c≠i2->s.heap.get? c=some o->p1.get? c=some o:=fun c o c1 c2 c3 c4 e=>m1.extBut _ _ c2 (n1.extBut _ _ c3 (w0 c o c1 c2 c3 c4 e))
 have r1:p1.objs.size=s.heap.objs.size:=by rw [m1.1,n1.1];exact r0
 have d1_1:ItAt b1 p1 i1 l1 (k+1):=t1.at fun o e=>m1.extBut _ _ D.i1_TO e
 have d2_1:ItAt b2 p1 i2 l2 k:=(d2_0.at fun o e=>n1.extBut _ _ D.i2_i1 e).at fun o e=>m1.extBut _ _ D.i2_TO e
 have g2_1:SeqAt b2 p1 l2 xs2:=(g2_0.at fun o e=>n1.extBut _ _ D.l2_i1 e).at fun o e=>m1.extBut _ _ D.l2_TO e
 refine wpAny_bind (wpAny_letGo (wpAny_pure ?_))
 refine wpAny_bind (wpAny_bind (wpAny_onRaise ?_));show wpAny _ _ (Builtin.SmallTypes.nextOf (.ref i2) >>= _) _ _ _
 refine wpAny_bind (QD d2_1 g2_1 e2 fun u2 t2 n2=>wpAny_pure ?_)
 have v2:BI u2 TO #[x1,a2]:=n2.extBut _ _ D.TO_i2 y1
 refine wpAny_bind (wpAny_seqItems v2 rfl ?_);refine wpAny_bind (LZ (Nat.le_of_ble_eq_true rfl) v2 fun p2 y2 m2=>?_)
 replace y2:BI p2 TO #[x1,x2]:=y2
 have z2:IsZip p2 z TI TO .ellipsis:=m2.extBut _ _ D.z_TO (n2.extBut _ _ D.z_i2 z1)
 have w2:∀ c o,c≠z->c≠TO->c≠i1->c≠i2->s.heap.get? c=some o->p2.get? c=some o:=fun c o c1 c2 c3 c4 e=>m2.extBut _ _ c2 (n2.extBut _ _ c4 (w1 c o c1 c2 c3 c4 e))
 have r2:p2.objs.size=s.heap.objs.size:=by rw [m2.1,n2.1];exact r1
 have d1_2:ItAt b1 p2 i1 l1 (k+1):=(d1_1.at fun o e=>n2.extBut _ _ D.i1_i2 e).at fun o e=>m2.extBut _ _ D.i1_TO e
 have d2_2:ItAt b2 p2 i2 l2 (k+1):=t2.at fun o e=>m2.extBut _ _ D.i2_TO e
 refine wpAny_bind (wpAny_letGo (wpAny_pure (wpAny_pure ?_)))
 refine wpAny_bind (wpAny_seqItems y2 rfl ?_);refine wpAny_bind (wpAny_newTuple ?_)
 have zl:z<p2.objs.size:=Heap.lt_size z2
 show wpAny _ _ (Builtin.SmallTypes.ownedTupleHandOut (.ref z) (.ref p2.objs.size) >>= _) _ _ _;refine wpAny_bind ?_;unfold Builtin.SmallTypes.ownedTupleHandOut
 have za:IsZip (p2.push { cls:=.type "tuple",data:=.seq #[x1,x2] }) z TI TO .ellipsis:=Heap.get?_push_of_some _ z2
 refine wpAny_bind (wpAny_setField_rec za (by simp) fun pa zb ma=>?_)
 replace zb:IsZip pa z TI TO (rawInt p2.objs.size):=zb
 refine wpAny_setField_rec zb (by simp) fun pb zc mb=>?_
 replace zc:IsZip pb z TI TO (rawInt p2.objs.size):=zc
 have up:∀ c o,c≠z->p2.get? c=some o->pb.get? c=some o:=fun c o c1 e=>mb.extBut _ _ c1 (ma.extBut _ _ c1 (Heap.get?_push_of_some _ e))
 have tt:BI pb p2.objs.size #[x1,x2]:=mb.extBut _ _ (Nat.ne_of_gt zl) (ma.extBut _ _ (Nat.ne_of_gt zl) (Heap.get?_push_size _ rfl))
 rw [r2] at zc tt
 refine wpAny_pure ⟨_,rfl,?_⟩
 show Q (.ref p2.objs.size) _
 rw [r2]
 exact q pb zc (up _ _ D.TO_z y2) (d1_2.at fun o e=>up _ o D.i1_z e) (d2_2.at fun o e=>up _ o D.i2_z e) tt fun c o c1 c2 c3 c4 e=>up c o c1 (w2 c o c1 c2 c3 c4 e)
theorem YS {b1 b2:Bool}{z TI TO i1 i2 l1 l2:Addr}{k:Nat}{xs1 xs2:Array Value}{a1 a2:Value}{Q:Fin->Shared->Prop}(hh:A.handled=none)(D:ZAp2 z TI TO i1 i2 l1 l2)(hz:IsZip s.heap z TI TO .none)(hI:BI s.heap TI #[.ref i1,.ref i2])(hO:BI s.heap TO #[a1,a2])(d1:ItAt b1 s.heap i1 l1 k)(g1:SeqAt b1 s.heap l1 xs1)(d2:ItAt b2 s.heap i2 l2 k)(g2:SeqAt b2 s.heap l2 xs2)
 (e1:xs1[k]?=none) (q:∀ h' e,(∀ c o,c≠z->c≠TO->c≠i1->c≠i2->s.heap.get? c=some o->h'.get? c=some o)->(∃ o,h'.get? e=some o/\o.cls=.type "StopIteration")->E (.ref e) { s with heap:=h' }) :
 wpAny (model prog w) A (Builtin.«zip.__next__» ⟨[.ref z],[]⟩) Q E s:=by
 show wpAny _ _ (field (.ref z) 2 >>= _) _ _ _;refine wpAny_bind (wpAny_field hz rfl (x:=.bool false) rfl ?_)
 show wpAny _ _ (field (.ref z) 3 >>= _) _ _ _;refine wpAny_bind (wpAny_field hz rfl (x:=.ref TI) rfl ?_)
 refine wpAny_bind (wpAny_seqItems hI rfl ?_)
 show wpAny _ _ (Builtin.SmallTypes.ownedTupleIsFree (.ref z) >>= _) _ _ _;refine wpAny_bind ?_;unfold Builtin.SmallTypes.ownedTupleIsFree
 refine wpAny_bind (wpAny_field hz rfl (x:=.none) rfl (wpAny_pure ?_));simp only [if_true];refine wpAny_bind (wpAny_rule ?_)
 refine wpAny_bind (wpAny_field hz rfl (x:=.ref TO) rfl ?_);refine wpAny_bind (wpAny_setField_rec hz (by simp) fun p0 z0 m0=>?_)
 replace z0:IsZip p0 z TI TO .ellipsis:=z0
 have y0:BI p0 TO #[a1,a2]:=m0.extBut _ _ D.TO_z hO
 have w0:∀ c o,c≠z->c≠TO->c≠i1->c≠i2->s.heap.get? c=some o->p0.get? c=some o:=fun c o c1 _ _ _ e=>m0.extBut _ _ c1 e
 have r0:p0.objs.size=s.heap.objs.size:=m0.1
 have d1_0:ItAt b1 p0 i1 l1 k:=d1.at fun o e=>m0.extBut _ _ D.i1_z e
 have g1_0:SeqAt b1 p0 l1 xs1:=g1.at fun o e=>m0.extBut _ _ D.l1_z e
 have d2_0:ItAt b2 p0 i2 l2 k:=d2.at fun o e=>m0.extBut _ _ D.i2_z e
 have g2_0:SeqAt b2 p0 l2 xs2:=g2.at fun o e=>m0.extBut _ _ D.l2_z e
 refine wpAny_bind ?_;simp only [List.zipIdx_cons,List.zipIdx_nil,List.forIn_cons,List.forIn_nil]
 refine wpAny_bind (wpAny_bind (wpAny_onRaise ?_));show wpAny _ _ (Builtin.SmallTypes.nextOf (.ref i1) >>= _) _ _ _
 refine wpAny_bind (J4d hh d1_0 g1_0 e1 fun u1 e n1 he=>?_)
 obtain ⟨oe,f1,f2⟩:=he
 have z1:IsZip u1 z TI TO .ellipsis:=n1 _ _ D.z_i1 z0
 have ez:e≠z:=fun x=>by subst x;rw [z1] at f1;cases f1;simp at f2
 refine wpAny_setField_rec z1 (by simp) fun p1 _ m1=>q p1 e (fun c o c1 c2 c3 c4 x=>m1.extBut _ _ c1 (n1 _ _ c3 (w0 c o c1 c2 c3 c4 x))) ⟨oe,m1.extBut _ _ ez f1,f2⟩
end
section
variable {prog:Program}{w:World}{A:Around}{E:Value->Shared->Prop}{s:Shared}
def BB (b:Bool)(l:Addr):Obj:=match b with
 | false=>{ cls:=.type "list_iterator",data:=.fields #[.ref l,.int 0 0] }
 | true=>{ cls:=.type "tuple_iterator",data:=.fields #[.ref l,.int 0 0] }
theorem RP {b:Bool}{h:Heap}{u l:Addr}(e:h.get? u=some (BB b l)):ItAt b h u l 0:=by
 cases b with
 | false=>exact ⟨_,e,rfl,rfl⟩
 | true=>exact ⟨_,e,rfl,rfl⟩
theorem KF (b:Bool)(l:Addr):(BB b l).isFreed=false:=by cases b<;>rfl
theorem QC {b:Bool}{l:Addr}{xs:Array Value}{Q:Value->Shared->Prop}(a:SeqAt b s.heap l xs)(q:Q (.ref s.heap.objs.size) { s with heap:=s.heap.push (BB b l) }):wpAny (model prog w) A (pyIter (.ref l)) Q E s:=by
 cases b with
 | false=>exact wpAny_pyIter_list a q
 | true=>exact wpAny_pyIter_tuple a q
end
section
variable {prog:Program}{w:World}{A:Around}{E:Value->Shared->Prop}{s:Shared}
abbrev zH2 (b1 b2:Bool)(l1 l2:Addr)(s:Shared):Heap:=(((((s.heap.push (BB b1 l1)).push (BB b2 l2)).push { cls:=.type "tuple",data:=.seq #[.ref s.heap.objs.size,.ref (s.heap.objs.size+1)] }).push { cls:=.type "tuple",data:=.seq #[.none,.none] }).push { cls:=.type "zip",data:=.fields #[.none,.bool false,.bool false,.ref (s.heap.objs.size+2),.ref (s.heap.objs.size+3)] })
theorem TU (b1 b2:Bool)(l1 l2:Addr)(xs1 xs2:Array Value) :
 Meets (Builtin.«zip.__new__» ⟨[.type "zip",.ref l1,.ref l2],[]⟩) (fun _ R s=>SeqAt b1 s.heap l1 xs1/\SeqAt b2 s.heap l2 xs2/\R (.ok (.ret (.ref (s.heap.objs.size+4)))) { s with heap:=zH2 b1 b2 l1 l2 s }) :=
 .of_wp fun prog w A R s h=>by
  obtain ⟨hp,g,d,tk,os⟩:=s;obtain ⟨k1,k2,h⟩:=h
  have hs:=sub_zip
  have K1:SeqAt b1 (Shared.heap ⟨hp,g,d,tk,os⟩) l1 xs1:=k1.at fun o e=>e
  have K2:SeqAt b2 (Shared.heap ⟨(hp.push (BB b1 l1)),g,d,tk,os⟩) l2 xs2:=k2.at fun o e=>Heap.get?_push_of_some _ (e)
  wp_walk using QC K1,QC K2
  simp only [Heap.size_push] at *
  exact ⟨_,rfl,h⟩
theorem YM {b1 b2:Bool}{l1 l2:Addr}{xs1 xs2:Array Value}{Q:Value->Shared->Prop}(k1:SeqAt b1 s.heap l1 xs1)(k2:SeqAt b2 s.heap l2 xs2)
 (q:∀ h',IsZip h' (s.heap.objs.size+4) (s.heap.objs.size+2) (s.heap.objs.size+3) .none->BI h' (s.heap.objs.size+2) #[.ref s.heap.objs.size,.ref (s.heap.objs.size+1)]->BI h' (s.heap.objs.size+3) #[.none,.none]->ItAt b1 h' (s.heap.objs.size) l1 0->ItAt b2 h' (s.heap.objs.size+1) l2 0->(∀ c o,s.heap.get? c=some o->h'.get? c=some o)->Q (.ref (s.heap.objs.size+4)) { s with heap:=h' }) :
 wpAny (model prog w) A (call (.type "zip") [.ref l1,.ref l2]) Q E s:=by
 refine callType_new F.called_zip (by decide) (F.typeCall_zip_2 _ _) (F.newCall_zip_2 _ _) (fun obj=>F.args_object_init_3 obj _ _) F.entry_zip_new (TU b1 b2 l1 l2 xs1 xs2) ⟨k1,k2,?_⟩
 have z1:(s.heap.push (BB b1 l1)).objs.size=s.heap.objs.size+1:=by exact Heap.size_push ..
 have z2:((s.heap.push (BB b1 l1)).push (BB b2 l2)).objs.size=s.heap.objs.size+2:=by rw [Heap.size_push,z1]
 have z3:(((s.heap.push (BB b1 l1)).push (BB b2 l2)).push { cls:=.type "tuple",data:=.seq #[.ref s.heap.objs.size,.ref (s.heap.objs.size+1)] }).objs.size=s.heap.objs.size+3:=by rw [Heap.size_push,z2]
 have z4:((((s.heap.push (BB b1 l1)).push (BB b2 l2)).push { cls:=.type "tuple",data:=.seq #[.ref s.heap.objs.size,.ref (s.heap.objs.size+1)] }).push { cls:=.type "tuple",data:=.seq #[.none,.none] }).objs.size=s.heap.objs.size+4:=by rw [Heap.size_push,z3]
 have g0:(zH2 b1 b2 l1 l2 s).get? s.heap.objs.size=some _:=Heap.get?_push_of_some _ (Heap.get?_push_of_some _ (Heap.get?_push_of_some _ (Heap.get?_push_of_some _ (Heap.get?_push_size _ (KF _ _)))))
 have g1:(zH2 b1 b2 l1 l2 s).get? (s.heap.push (BB b1 l1)).objs.size=some _:=Heap.get?_push_of_some _ (Heap.get?_push_of_some _ (Heap.get?_push_of_some _ (Heap.get?_push_size _ (KF _ _))))
 rw [z1] at g1
 have g2:(zH2 b1 b2 l1 l2 s).get? ((s.heap.push (BB b1 l1)).push (BB b2 l2)).objs.size=some _:=Heap.get?_push_of_some _ (Heap.get?_push_of_some _ (Heap.get?_push_size _ rfl))
 rw [z2] at g2
 have g3:(zH2 b1 b2 l1 l2 s).get? (((s.heap.push (BB b1 l1)).push (BB b2 l2)).push { cls:=.type "tuple",data:=.seq #[.ref s.heap.objs.size,.ref (s.heap.objs.size+1)] }).objs.size=some _:=Heap.get?_push_of_some _ (Heap.get?_push_size _ rfl)
 rw [z3] at g3
 have g4:(zH2 b1 b2 l1 l2 s).get? ((((s.heap.push (BB b1 l1)).push (BB b2 l2)).push { cls:=.type "tuple",data:=.seq #[.ref s.heap.objs.size,.ref (s.heap.objs.size+1)] }).push { cls:=.type "tuple",data:=.seq #[.none,.none] }).objs.size=some _:=Heap.get?_push_size _ rfl
 rw [z4] at g4
 exact ⟨⟨_,g4,rfl⟩,q _ g4 g2 g3 (RP g0) (RP g1) fun c o x=>Heap.get?_push_of_some _ (Heap.get?_push_of_some _ (Heap.get?_push_of_some _ (Heap.get?_push_of_some _ (Heap.get?_push_of_some _ x))))⟩
end
def Q2d (K:Fg)(b1 b2:Bool)(l1 l2:Addr):It :=
 ⟨fun i H=>∃ ys1 ys2 y1 y2,SqX K b1 H l1 ys1/\ys1[i]?=some y1/\SqX K b2 H l2 ys2/\ys2[i]?=some y2,
  fun i H v H'=>∃ t y1 y2,v=.ref t/\H t=none/\H'=upd H t (.tup [y1,y2])/\(∀ ys,SqX K b1 H l1 ys->ys[i]?=some y1)/\(∀ ys,SqX K b2 H l2 ys->ys[i]?=some y2),
  fun i H=>(∃ ys,SqX K b1 H l1 ys/\ys.length<=i)/\(∃ ys,SqX K b2 H l2 ys)⟩
structure ZFp2 (z TI TO i1 i2:Addr):Prop where
 z_TI:z≠TI
 z_TO:z≠TO
 z_i1:z≠i1
 z_i2:z≠i2
 TI_z:TI≠z
 TI_TO:TI≠TO
 TI_i1:TI≠i1
 TI_i2:TI≠i2
 TO_z:TO≠z
 TO_TI:TO≠TI
 TO_i1:TO≠i1
 TO_i2:TO≠i2
 i1_z:i1≠z
 i1_TI:i1≠TI
 i1_TO:i1≠TO
 i1_i2:i1≠i2
 i2_z:i2≠z
 i2_TI:i2≠TI
 i2_TO:i2≠TO
 i2_i1:i2≠i1
def Q6a (b1 b2:Bool)(z TI TO i1 i2 l1 l2:Addr)(i:Nat)(h:Heap):Prop:=IsZip h z TI TO .none/\BI h TI #[.ref i1,.ref i2]/\(∃ a1 a2,BI h TO #[a1,a2])/\ItAt b1 h i1 l1 i/\ItAt b2 h i2 l2 i
theorem WP {w:World} {elts:List Expr}{c1}{tpos:Pos}{b1 b2:Bool}{z TI TO i1 i2 l1 l2:Addr}(Z:ZFp2 z TI TO i1 i2):Turn P w K (.Tuple elts c1 tpos) (Q2d K b1 b2 l1 l2) [z,TI,TO,i1,i2] z (Q6a b1 b2 z TI TO i1 i2 l1 l2) where
 mem:=by simp
 obj:=fun i h st b hb=>by
  obtain ⟨s1,s2,⟨a1,a2,s3⟩,d1,d2⟩:=st
  simp only [List.mem_cons,List.not_mem_nil,or_false] at hb
  rcases hb with rfl|rfl|rfl|rfl|rfl
  · exact ⟨_,s1,fun v q=>by cases q⟩
  · exact ⟨_,s2,fun v q=>by cases q⟩
  · exact ⟨_,s3,fun v q=>by cases q⟩
  · exact d1.obj
  · exact d2.obj
 keep:=fun i h h' st k=>by
  obtain ⟨s1,s2,⟨a1,a2,s3⟩,d1,d2⟩:=st
  exact ⟨k z (by simp) _ s1,k TI (by simp) _ s2,⟨a1,a2,k TO (by simp) _ s3⟩,d1.at fun o e=>k i1 (by simp) o e,d2.at fun o e=>k i2 (by simp) o e⟩
 item:=by
  intro X hP hw hK hc i pins s σ H E I hf st hg
  subst hP hw hK
  obtain ⟨ys1,ys2,y1,y2,h1,q1,h2,q2⟩:=hg
  obtain ⟨s1,s2,⟨a1,a2,s3⟩,d1,d2⟩:=st
  obtain ⟨v1,r1,p1,_⟩:=I.seqX h1
  obtain ⟨u1,m1,t1⟩:=r1.get q1
  obtain ⟨v2,r2,p2,_⟩:=I.seqX h2
  obtain ⟨u2,m2,t2⟩:=r2.get q2
  have D:ZAp2 z TI TO i1 i2 l1 l2:={ z_TI:=Z.z_TI,z_TO:=Z.z_TO,z_i1:=Z.z_i1,z_i2:=Z.z_i2,TI_z:=Z.TI_z,TI_TO:=Z.TI_TO,TI_i1:=Z.TI_i1,TI_i2:=Z.TI_i2,TO_z:=Z.TO_z,TO_TI:=Z.TO_TI,TO_i1:=Z.TO_i1,TO_i2:=Z.TO_i2,i1_z:=Z.i1_z,i1_TI:=Z.i1_TI,i1_TO:=Z.i1_TO,i1_i2:=Z.i1_i2,i2_z:=Z.i2_z,i2_TI:=Z.i2_TI,i2_TO:=Z.i2_TO,i2_i1:=Z.i2_i1,l1_z:=I.seqX_ne h1 (hf z (by simp)),l1_TI:=I.seqX_ne h1 (hf TI (by simp)),l1_TO:=I.seqX_ne h1 (hf TO (by simp)),l1_i1:=I.seqX_ne h1 (hf i1 (by simp)),l1_i2:=I.seqX_ne h1 (hf i2 (by simp)),l2_z:=I.seqX_ne h2 (hf z (by simp)),l2_TI:=I.seqX_ne h2 (hf TI (by simp)),l2_TO:=I.seqX_ne h2 (hf TO (by simp)),l2_i1:=I.seqX_ne h2 (hf i1 (by simp)),l2_i2:=I.seqX_ne h2 (hf i2 (by simp)) }
  have hT:s.TypeIs (.ref z) "zip":=⟨_,s1,rfl⟩
  have szn:∀ b∈[z,TI,TO,i1,i2],b≠s.heap.objs.size:=fun b hb e=>by
   simp only [List.mem_cons,List.not_mem_nil,or_false] at hb
   rcases hb with rfl|rfl|rfl|rfl|rfl
   · exact Nat.lt_irrefl _ (e▸Heap.lt_size s1)
   · exact Nat.lt_irrefl _ (e▸Heap.lt_size s2)
   · exact Nat.lt_irrefl _ (e▸Heap.lt_size s3)
   · obtain ⟨_,w1,_⟩:=d1.obj;exact Nat.lt_irrefl _ (e▸Heap.lt_size w1)
   · obtain ⟨_,w1,_⟩:=d2.obj;exact Nat.lt_irrefl _ (e▸Heap.lt_size w1)
  unfold pyNext
  refine wpAny_bind (wpAny_attempt (wpAny_callSpecial?_slot (name:=Str.ofString "__next__") hT F.slot_zip_next (wpAny_call_entry F.slot_zip_next hT F.entry_zip_next (WN D s1 s2 s3 d1 p1 d2 p2 (x1:=u1) (by simpa using m1) (x2:=u2) (by simpa using m2) fun h' e1 e2 f1 f2 e3 kp=>wpAny_pure ?_) (F.args_zip_next_1 _))))
  refine ⟨_,rfl,wpAny_letOwnedTupleGo_zip (s:={ s with heap:=h' }) e1 fun hq e4 sb=>?_⟩
  have up:∀ b o,b≠z->h'.get? b=some o->hq.get? b=some o:=fun b o hb e=>sb.extBut _ _ hb e
  have I2:Inv X pins σ (upd H s.heap.objs.size (.tup [y1,y2])) { s with heap:=hq }:=I.zipped (t':=s.toks) (fp:=[z,TI,TO,i1,i2]) hf (fun b o hb e=>up b o (fun x=>hb (by simp [x])) (kp b o (fun x=>hb (by simp [x])) (fun x=>hb (by simp [x])) (fun x=>hb (by simp [x])) (fun x=>hb (by simp [x])) e)) (Nat.le_refl _)
   ⟨Nat.le_trans (Nat.le_of_ble_eq_true rfl) AT,[u1,u2],.cons t1 (.cons t2 (.nil)),⟨_,up _ _ (Ne.symm (szn z (by simp))) e3,rfl,_,rfl⟩⟩
  refine ⟨.ref s.heap.objs.size,_,I2,rfl,⟨_,y1,y2,rfl,I.hok.fresh (Nat.le_refl _),rfl,fun ys hy=>by rw [I.seqX_inj hy h1];exact q1,fun ys hy=>by rw [I.seqX_inj hy h2];exact q2⟩,⟨e4,up _ _ D.TI_z (kp _ _ D.TI_z D.TI_TO D.TI_i1 D.TI_i2 s2),⟨_,_,up _ _ D.TO_z e2⟩,f1.at fun o e=>up _ o D.i1_z e,f2.at fun o e=>up _ o D.i2_z e⟩,fun b hb=>?_⟩
  rw [Q3 (szn b hb)]
  exact (hf b hb).1
 done:=by
  intro X hP hw hK hc i pins s σ H E I hf st hg
  subst hP hw hK
  obtain ⟨⟨ys1,h1,q1⟩,⟨ys2,h2⟩⟩:=hg
  obtain ⟨s1,s2,⟨a1,a2,s3⟩,d1,d2⟩:=st
  obtain ⟨v1,r1,p1,_⟩:=I.seqX h1
  obtain ⟨v2,r2,p2,_⟩:=I.seqX h2
  have D:ZAp2 z TI TO i1 i2 l1 l2:={ z_TI:=Z.z_TI,z_TO:=Z.z_TO,z_i1:=Z.z_i1,z_i2:=Z.z_i2,TI_z:=Z.TI_z,TI_TO:=Z.TI_TO,TI_i1:=Z.TI_i1,TI_i2:=Z.TI_i2,TO_z:=Z.TO_z,TO_TI:=Z.TO_TI,TO_i1:=Z.TO_i1,TO_i2:=Z.TO_i2,i1_z:=Z.i1_z,i1_TI:=Z.i1_TI,i1_TO:=Z.i1_TO,i1_i2:=Z.i1_i2,i2_z:=Z.i2_z,i2_TI:=Z.i2_TI,i2_TO:=Z.i2_TO,i2_i1:=Z.i2_i1,l1_z:=I.seqX_ne h1 (hf z (by simp)),l1_TI:=I.seqX_ne h1 (hf TI (by simp)),l1_TO:=I.seqX_ne h1 (hf TO (by simp)),l1_i1:=I.seqX_ne h1 (hf i1 (by simp)),l1_i2:=I.seqX_ne h1 (hf i2 (by simp)),l2_z:=I.seqX_ne h2 (hf z (by simp)),l2_TI:=I.seqX_ne h2 (hf TI (by simp)),l2_TO:=I.seqX_ne h2 (hf TO (by simp)),l2_i1:=I.seqX_ne h2 (hf i1 (by simp)),l2_i2:=I.seqX_ne h2 (hf i2 (by simp)) }
  have hT:s.TypeIs (.ref z) "zip":=⟨_,s1,rfl⟩
  have hl:=r1.length
  unfold pyNext
  refine wpAny_bind (wpAny_attempt (wpAny_callSpecial?_slot (name:=Str.ofString "__next__") hT F.slot_zip_next (wpAny_call_entry F.slot_zip_next hT F.entry_zip_next (YS (I.ok.hd hc) D s1 s2 s3 d1 p1 d2 p2 (by simp;omega) fun h' e kp he=>?_) (F.args_zip_next_1 _))))
  obtain ⟨oe,f1,f2⟩:=he
  refine wpAny_bind (wpAny_isInstance (T:="StopIteration") (b:=true) ⟨oe,f1,f2⟩ isSubtype_stop (wpAny_pure ⟨rfl,?_⟩))
  exact I.turnedL (t':=s.toks) (fp:=[z,TI,TO,i1,i2]) hf fun b o hb e=>kp b o (fun x=>hb (by simp [x])) (fun x=>hb (by simp [x])) (fun x=>hb (by simp [x])) (fun x=>hb (by simp [x])) e
 self:=fun _ _ _ _ _ st h=>wpAny_pyIter_zip st.1 h
noncomputable def J1v (K:Fg)(b1 b2:Bool)(ta:TA):TI:=fun σ H R=>ta σ H fun vs H1=>∃ l1 l2,vs=[.ref l1,.ref l2]/\(∃ ys,SqX K b1 H1 l1 ys)/\(∃ ys,SqX K b2 H1 l2 ys)/\R (Q2d K b1 b2 l1 l2) H1
theorem VA {X:Cx}{elts:List Expr}{c1}{tpos:Pos}(K:Fg)(hK:X.K=K)(b1 b2:Bool){e1 e2:Expr}{ta:TA}{p pos:Pos}(hg:Gl X "zip") (hm:X.mg "zip" = none) (ha:PA X [e1,e2] ta)
 (hs:starEach [e1,e2] X.env=[(false,eval e1 X.env),(false,eval e2 X.env)]:=by rfl) (hs2:starEach [e2] X.env=[(false,eval e2 X.env)]:=by rfl) :
 PI X (.Tuple elts c1 tpos) (.Call (.Name "zip" p) [e1,e2] [] pos) (J1v K b1 b2 ta):=by
 subst hK
 intro pins s σ H R I h
 refine Call_ (OI I hg hm Q1q (PyProof.Rows.callWith_type1 (thn (ha pos pins s σ H _ I h) fun us s1 ⟨vs,H1,I1,r1,q1⟩=>?_) (by rw [hs,hs2]) (by rw [hs2];rfl)))
 obtain ⟨l1,l2,e,⟨ys1,h1⟩,⟨ys2,h2⟩,q⟩:=q1
 subst e
 obtain ⟨u1,u2,rfl,t1,t2⟩:=YY r1
 cases t1
 cases t2
 obtain ⟨v1,r1,p1,_⟩:=I1.seqX h1
 obtain ⟨v2,r2,p2,_⟩:=I1.seqX h2
 refine YM p1 p2 fun h' f1 f2 f3 g1 g2 kp=>?_
 refine wpAny_pyIter_zip (s:={ s1 with heap:=h' }) f1 ?_
 refine ⟨s1.heap.objs.size+4,[s1.heap.objs.size+4,s1.heap.objs.size+2,s1.heap.objs.size+3,s1.heap.objs.size,s1.heap.objs.size+1],_,_,H1,rfl,I1.kept (t':=s1.toks) kp,WP (b1:=b1) (TI:=s1.heap.objs.size+2) (TO:=s1.heap.objs.size+3) (i1:=s1.heap.objs.size) (i2:=s1.heap.objs.size+1) (l1:=l1) (l2:=l2) ⟨by show (_:Nat)≠_;omega,by show (_:Nat)≠_;omega,by show (_:Nat)≠_;omega,by show (_:Nat)≠_;omega,by show (_:Nat)≠_;omega,by show (_:Nat)≠_;omega,by show (_:Nat)≠_;omega,by show (_:Nat)≠_;omega,by show (_:Nat)≠_;omega,by show (_:Nat)≠_;omega,by show (_:Nat)≠_;omega,by show (_:Nat)≠_;omega,by show (_:Nat)≠_;omega,by show (_:Nat)≠_;omega,by show (_:Nat)≠_;omega,by show (_:Nat)≠_;omega,by show (_:Nat)≠_;omega,by show (_:Nat)≠_;omega,by show (_:Nat)≠_;omega,by show (_:Nat)≠_;omega⟩,⟨f1,f2,⟨_,_,f3⟩,g1,g2⟩,fun b hb=>?_,q⟩
 have hge:s1.heap.objs.size<=b:=by
  simp only [List.mem_cons,List.not_mem_nil,or_false] at hb
  rcases hb with rfl|rfl|rfl|rfl|rfl<;>first|exact Nat.le_refl _|exact Nat.le_add_right _ _
 exact I1.fpOk hge (I1.hok.fresh hge)
section
variable {X:Cx}
theorem VD:∀ cs:List (Int×Nat×Pos),PA X (cs.map fun c=>.Constant (.int c.1) c.2.1 c.2.2) (fun σ H Q=>Q (cs.map fun c=>V.int c.1) H)
 | []=>DI
 | c::cs=>by
   intro pos pins s σ H Q I h
   exact AF (e:=.Constant (.int c.1) c.2.1 c.2.2) Y5 (VD cs) (by rfl) pos pins s σ H Q I h
theorem TF {es:List Expr}{x1}{pos:Pos}(cs:List (Int×Nat×Pos))(h:es=cs.map fun c=>.Constant (.int c.1) c.2.1 c.2.2):PE X (.Tuple es x1 pos) (Q2h fun σ H Q=>Q (cs.map fun c=>V.int c.1) H):=by
 subst h
 exact TH (VD cs)
theorem ZU {sts0:List Stmt}{t:TS}(h:PSs X sts0 t):∀ {sts:List Stmt},PSs X sts (fun D σ H=>sts=sts0/\t D σ H):=by
 intro sts pins s σ H D I q
 obtain ⟨e,q⟩:=q
 subst e
 exact h pins s σ H D I q
end
theorem WR {X:Cx}(K:Fg)(h:X.K=K):SlR X (ZQ K):=by subst h;exact J4f
section
variable {X:Cx}{x:Str}{C:Addr}{bm bmN:List Value}{newId Bn inN B nid initId:String}{e0:Expr}{rest:List Expr}{t:TA}{np cpos pos:Pos}
theorem ZW (O:OwnCls x C bm newId X.mg X.base)(Fn:ExcBaseFacts Bn newId inN bmN)(hBn:bm.contains (.type Bn)=true)(FB:ExcBaseFacts B nid initId bm)(hc:X.calm=true)(hg:Gl X x)(E:XK)
 (hx:∀ (pins:List (Addr×Obj)) (σ:St) (H:Hp) (s:Shared) (h':Heap) (e:Addr) (us:List Value),Inv X pins σ H s->Heap.MadeExcOf s.heap h' e (.ref C) us->E (.ref C) none H->X.xe (.ref e) { s with heap:=h' })
 (ha:PA X (e0::rest) t) (hz:∀ σ H Q,t σ H Q->t σ H fun vs H1=>vs.length<=sizeLine/\Q vs H1)
 (he:starEach (e0::rest) X.env=(false,eval e0 X.env)::starEach rest X.env:=by rfl) (hpl:(backTo cpos (starEach rest X.env)).any (·.1)=false:=by rfl) (hd:(x==("__debug__" : Str))=false:=by decide) :
 PS X (.Raise (some (.Call (.Name x np) (e0::rest) [] cpos)) none pos) (fun _ σ H=>t σ H fun _ H1=>E (.ref C) none H1):=by
 intro pins s σ H D I q
 obtain ⟨tl,N,nm,qn,bs,hdct,sn,sub,ab,col,dd,k0,k1,k2,k3,k5,mN,hC,hN,hni,T⟩:=O.obj
 refine wpAny_Raise_call_subU (C:=C) (nm:=nm) (q:=qn) (N:=N) (bs:=bs) (bm:=tl) (hdct:=hdct) (sn:=sn) (sub:=sub) (ab:=ab) (col:=col) (dd:=dd) (k0:=k0) (k1:=k1) (k2:=k2) (k3:=k3) (k5:=k5)
  Fn hBn FB (mN:=mN) (T.hasType FB.hasBase) (I.ok.hd hc) (by rw [he];show (false||(backTo cpos (starEach rest X.env)).any (·.1))=false;rw [hpl];rfl) hni (VJ I hg O.bound ⟨rfl,?_⟩ hd)
 have h1:=ha cpos pins s σ H _ I (hz _ _ _ q)
 rw [he] at h1 ⊢
 refine Calls.evalArgs_plain (wpAny_mono h1 (fun us s2 ⟨vs,H1,I1,r,z,w⟩=>⟨rfl,by rw [<- r.length];exact z,I1.bk _ _ hC,hN.keeps I1.bk,T.keeps I1.bk,fun h' e hm=>hx pins σ H1 s2 h' e us I1 hm w⟩) fun _ _ y=>y)
end
section
variable {M:Model}{A:Around}{E:Value->Shared->Prop}{s:Shared}
structure Gone (fs:List Addr)(x:Addr)(ox:Obj)(old:List Addr)(h h':Heap)(T:Addr):Prop where
 keep:∀ b o,b∉fs->b≠x->b∉old->h.get? b=some o->h'.get? b=some o
 slot:∀ b o,b∈fs->h.get? b=some o->∃ sl,h'.get? b=some { o with slots:=sl }
 new:h.objs.size<=T
 exc:h'.get? x=some (ox.mapFields (·.setIfInBounds 1 (.ref T)))
 tr:∃ oT ts,h'.get? T=some oT/\oT.data=.fields ts/\ts[3]?=some .none
theorem UD {env:Env}{outer:List Env}{L x:Addr}{ox:Obj}{vs:Array Value}{hd:Value}{nx:Bool}{Q:Unit->Shared->Prop}(f1:A.frames=some (env::outer))(f2:s.heap.FunFrames base (env::outer))(f3:env.frame=some L)
 (x1:s.heap.get? x=some ox) (x2:ox.data=.fields vs) (x3:1<vs.size) (q:∀ h' T,Gone ((env::outer).filterMap (·.frame)) x ox [] s.heap h' T->Q () { s with heap:=h' }) :
 wpAny M A (do let a <- frameOf env;let pl <- entryPlaceOf L nx;let b <- EntryCells.newEntry hd a .none (rawInt L) .none pl;setField (.ref x) 1 b) (fun _ s'=>wpAny M A (setFlight (.ref x) none) Q E s') E s:=by
 have xf:x∉(env::outer).filterMap (·.frame):=fun hm=>by
  obtain ⟨_,o,e1,e2⟩:=f2.mem hm
  rw [x1] at e1
  cases e1
  exact e2 vs x2
 refine wpAny_bind (wpAny_frameOf_fun f1 f2 f3 fun g1 m1=>wpAny_bind (wpAny_entryPlaceOf fun pl hpl=>?_))
 unfold EntryCells.newEntry newFields
 refine wpAny_bind (wpAny_newObj_type ?_ (hpl.sizeOk5 _ _ _ _ _))
 generalize hob:({ cls:=.type "traceback",dict:=none,data:=.fields ([hd,.ref L,.none,rawInt L,.none]++(if pl.isEmpty then List.replicate 6 Value.none else pl)).toArray }:Obj)=ob
 have dob:ob.data=.fields ([hd,.ref L,.none,rawInt L,.none]++(if pl.isEmpty then List.replicate 6 Value.none else pl)).toArray:=by rw [<- hob]
 have lob:ob.isFreed=false:=Obj.isFreed_of_fields dob
 have xg1:g1.get? x=some ox:=(m1.2.1 x xf).trans x1
 have xg2:=Heap.get?_push_of_some (h:=g1) ob xg1
 refine wpAny_setField xg2 x2 x3 ?_
 have nTx:g1.objs.size≠x:=Nat.ne_of_gt (Heap.lt_size xg1)
 have dx:=Obj.data_mapFields x2 (·.setIfInBounds 1 (Value.ref g1.objs.size))
 have xg3:=Heap.get?_update_self (Obj.mapFields (·.setIfInBounds 1 (Value.ref g1.objs.size))) xg2 (Obj.isFreed_of_fields dx)
 have tg3:=(Heap.get?_update_other (g1.push ob) (Obj.mapFields (·.setIfInBounds 1 (Value.ref g1.objs.size))) (Ne.symm nTx)).trans (Heap.get?_push_size g1 lob)
 unfold setFlight
 refine wpAny_bind (wpAny_field xg3 dx (x:=.ref g1.objs.size) (by simp [x3]) ?_)
 rw [if_pos (show (Value.ref g1.objs.size != Value.none)=true from by simp)]
 refine wpAny_setField tg3 dob (by simp only [List.size_toArray,List.length_append,List.length_cons,List.length_nil]<;>omega) (q _ g1.objs.size ⟨?_,?_,?_,?_,?_⟩)
 · intro b o nf nx' _ e
   have e1:g1.get? b=some o:=(m1.2.1 b nf).trans e
   rw [Heap.get?_update_other _ _ (Nat.ne_of_gt (Heap.lt_size e1)),Heap.get?_update_other _ _ (Ne.symm nx')]
   exact Heap.get?_push_of_some _ e1
 · intro b o hb e
   obtain ⟨sl,e1⟩:=m1.2.2 b o e
   refine ⟨sl,?_⟩
   have nbx:b≠x:=fun z=>xf (z▸hb)
   rw [Heap.get?_update_other _ _ (Nat.ne_of_gt (Heap.lt_size e1)),Heap.get?_update_other _ _ (Ne.symm nbx)]
   exact Heap.get?_push_of_some _ e1
 · rw [m1.1]
   exact Nat.le_refl _
 · rw [Heap.get?_update_other _ _ nTx]
   exact xg3
 · refine ⟨_,_,Heap.get?_update_self _ tg3 (Obj.isFreed_of_fields (Obj.data_mapFields dob _)),Obj.data_mapFields dob _,?_⟩
   first|(simp;done)|(rcases hpl with rfl|⟨_,_,_,_,_,_,_,rfl⟩<;>simp)
theorem RI {env:Env}{outer:List Env}{L x:Addr}{ox:Obj}{vs:Array Value}{Q:Unit->Shared->Prop}(f1:A.frames=some (env::outer))(f2:s.heap.FunFrames base (env::outer))(f3:env.frame=some L)
 (x1:s.heap.get? x=some ox) (x2:ox.data=.fields vs) (x3:vs[1]?=some .none) (q:∀ h' T,Gone ((env::outer).filterMap (·.frame)) x ox [] s.heap h' T->Q () { s with heap:=h' }):wpAny M A (leaving env (.ref x)) Q E s:=by
 unfold leaving noteFrame;simp only [f3]
 refine wpAny_bind (wpAny_bind (wpAny_field x1 x2 x3 ?_));rw [if_neg (by decide)]
 exact UD f1 f2 f3 x1 x2 (Array.getElem?_eq_some_iff.mp x3).1 q
end
theorem ObjOk.ex {w:World}{H:Hp}{h:Heap}{a:Addr}{o:HO}(x:ObjOk P w H h a o):∃ ob,h.get? a=some ob:=by
 cases o with
 | lst xs=>obtain ⟨_,_,_,_,e⟩:=x;exact ⟨_,e⟩
 | tup xs=>obtain ⟨_,_,_,ob,e,_⟩:=x;exact ⟨_,e⟩
 | dK kvs=>obtain ⟨_,_,_,_,o,_,_,e,_⟩:=x;exact ⟨_,e⟩
 | dT kvs=>obtain ⟨_,_,_,_,o,_,_,e,_⟩:=x;exact ⟨_,e⟩
 | set S n=>obtain ⟨o,_,_,_,e,_⟩:=x;exact ⟨_,e⟩
 | ins C dx fs=>obtain ⟨_,_,_,e,_⟩:=x;exact ⟨_,e⟩
 | own y=>exact x
 | xd fs=>obtain ⟨_,⟨_,_,_,e,_⟩,_⟩:=x;exact ⟨_,e⟩
 | rng lo hi=>obtain ⟨_,_,_,e⟩:=x;exact ⟨_,e⟩
 | frz ob u=>obtain ⟨e,_⟩:=x;exact ⟨_,e⟩
 | tbl ps=>exact ⟨_,(show h.get? a=some _ from x)⟩
 | met f y=>exact ⟨_,(show h.get? a=some _ from x)⟩
 | ext φ=>obtain ⟨_,e,_⟩:=x;exact e
theorem YE (o:Obj)(f:Array Value->Array Value):(o.mapFields f).dict=o.dict:=by unfold Obj.mapFields;split<;>rfl
def Exd (H:Hp)(base g h:Heap)(x C:Addr):Prop:=H x=none/\base.get? x=none/\g.get? x=none/\∃ ox vs T oT ts,h.get? x=some ox/\ox.cls=.ref C/\ox.dict=none/\ox.data=.fields vs/\vs[1]?=some (.ref T)/\vs[2]?=some .none /\
 T≠x/\H T=none/\base.get? T=none/\g.get? T=none/\h.get? T=some oT/\oT.data=.fields ts/\ts[3]?=some .none
def CX1 (P:Program)(w:World)(base:Heap):CXT:=fun outer H s E e s'=>∃ (x C:Addr) (H':Hp),e=.ref x/\s'.os=s.os/\AllBare s'.gens/\Un (frs outer) [] H H' s.heap s'.heap/\HOk P w H' s'.heap/\Exd H' base s.heap s'.heap x C/\E (.ref C) none H'
theorem YT {P:Program}{w:World}{K:Fg}{mg:Str->Option Value}{base:Heap}{N:List Str}{qual:Str}{scope:Scope}{f:Addr}{cd:Value}{A:Around}{outer:List Env}{s:Shared}{H:Hp}{E:XK}{C:Addr}
 (pins:List (Addr×Obj)) (σ:St) (H1:Hp) (s1:Shared) (h':Heap) (e:Addr) (us:List Value) (I:Inv (Z8 (CX1 P w base) P w K mg base N qual scope f cd A outer s H E) pins σ H1 s1) (hm:Heap.MadeExcOf s1.heap h' e (.ref C) us) (q:E (.ref C) none H1) :
 (Z8 (CX1 P w base) P w K mg base N qual scope f cd A outer s H E).xe (.ref e) { s1 with heap:=h' }:=by
 obtain ⟨t,e1,e2,e3⟩:=hm.there
 have nH:∀ b,s1.heap.get? b=none->H1 b=none:=fun b hb=>by
  cases z:H1 b with
  | none=>rfl
  | some o =>
    obtain ⟨ob,eo⟩:∃ ob,s1.heap.get? b=some ob:=(I.hok b o z).ex
    rw [hb] at eo
    cases eo
 have hst:s1.heap.FunFrames base (envOfC qual scope s.heap.objs.size f cd::outer):=I.stack
 have hfree:∀ b∈frs (envOfC qual scope s.heap.objs.size f cd::outer),H1 b=none:=I.stkFree
 show wpAny (model P w) (A.deeper (envOfC qual scope s.heap.objs.size f cd)) (leaving (envOfC qual scope s.heap.objs.size f cd) (.ref e)) _ _ { s1 with heap:=h' }
 refine RI (s:={ s1 with heap:=h' }) (base:=base) I.ok.frames (hst.of_keeps fun b o eb _=>⟨o,hm.keeps b o eb,rfl⟩) rfl e1 rfl rfl fun h2 T g=>?_
 have lt1:∀ b o,s1.heap.get? b=some o->b<h'.objs.size:=fun b o eb=>Heap.lt_size (hm.keeps b o eb)
 have neE:∀ b o,s1.heap.get? b=some o->b≠e:=fun b o eb z=>by rw [z,hm.new] at eb;cases eb
 have kp:∀ b o,b∉frs (envOfC qual scope s.heap.objs.size f cd::outer)->s1.heap.get? b=some o->h2.get? b=some o:=fun b o nf eb=>g.keep b o nf (neE b o eb) (by simp) (hm.keeps b o eb)
 have sl:∀ b o,b∈frs (envOfC qual scope s.heap.objs.size f cd::outer)->s1.heap.get? b=some o->∃ z,h2.get? b=some { o with slots:=z }:=fun b o hb eb=>g.slot b o hb (hm.keeps b o eb)
 have nTo:∀ b o,s1.heap.get? b=some o->b≠T:=fun b o eb z=>by
  have h1:=lt1 b o eb
  rw [z] at h1
  exact absurd (Nat.lt_of_lt_of_le h1 g.new) (Nat.lt_irrefl _)
 have baseK:∀ b o,base.get? b=some o->s1.heap.get? b=some o:=I.bk
 have nf:∀ b o,s.heap.get? b=some o->b∉frs outer->b∉frs (envOfC qual scope s.heap.objs.size f cd::outer):=fun b o eb nb hb=>by
  rcases List.mem_cons.mp (show b∈s.heap.objs.size::frs outer from hb) with z|z
  · exact absurd (Heap.lt_size eb) (by rw [z];exact Nat.lt_irrefl _)
  · exact nb z
 have tH:H1 T=none:=by
  cases z:H1 T with
  | none=>rfl
  | some o =>
    obtain ⟨ob,eo⟩:=(I.hok T o z).ex
    exact absurd rfl (nTo T ob eo)
 have U:Un (frs outer) [] H H1 s.heap s1.heap:=I.base
 refine ⟨e,C,H1,rfl,I.os,I.bare,⟨fun b o eb n hb hx=>kp b o (nf b o eb hb) (U.keep b o eb n hb hx),fun b o eb n hb hx=>?_,U.free,fun b o eb hx=>?_,U.tups,U.frzs,U.tbls⟩,fun b o eb=>?_,⟨nH e hm.new,?_,?_,?_⟩,q⟩
 · obtain ⟨z,e4⟩:=U.slot b o eb n hb hx
   obtain ⟨z',e5⟩:=sl b _ (List.mem_cons_of_mem _ hb) e4
   exact ⟨z',e5⟩
 · obtain ⟨o',e4⟩:=U.there b o eb hx
   by_cases hb:b∈frs (envOfC qual scope s.heap.objs.size f cd::outer)
   · obtain ⟨z,e5⟩:=sl b o' hb e4
     exact ⟨_,e5⟩
   · exact ⟨o',kp b o' hb e4⟩
 · refine (I.hok b o eb).stay (fun c v hc ev=>kp c v (fun hb=>?_) ev) (fun _ z=>z) fun _ _ z=>z
   have:=hfree c hb
   rcases hc with z|z
   · rw [z,eb] at this
     cases this
   · rw [z] at this
     cases this
 · cases z:base.get? e with
   | none=>rfl
   | some o=>exact absurd rfl (neE e o (baseK e o z))
 · cases z:s.heap.get? e with
   | none=>rfl
   | some o =>
     obtain ⟨o',e4⟩:=U.there e o z (by simp)
     exact absurd rfl (neE e o' e4)
 · obtain ⟨oT,ts,g1,g2,g3⟩:=g.tr
   refine ⟨_,_,T,oT,ts,g.exc,rfl,rfl,rfl,rfl,rfl,?_,tH,?_,?_,g1,g2,g3⟩
   · intro z
     have:=Heap.lt_size e1
     rw [<- z] at this
     exact absurd (Nat.lt_of_lt_of_le this g.new) (Nat.lt_irrefl _)
   · cases z:base.get? T with
     | none=>rfl
     | some o=>exact absurd rfl (nTo T o (baseK T o z))
   · cases z:s.heap.get? T with
     | none=>rfl
     | some o =>
       obtain ⟨o',e4⟩:=U.there T o z (by simp)
       exact absurd rfl (nTo T o' e4)
theorem Inv.raised {X:Cx}{pins:List (Addr×Obj)}{σ:St}{H H2:Hp}{s s':Shared}(I:Inv X pins σ H s)(os:s'.os=s.os)(bare:AllBare s'.gens)(un:Un (frs X.stack) [] H H2 s.heap s'.heap)(hok:HOk X.prog X.w H2 s'.heap):Inv X pins σ H2 s':=by
 obtain ⟨hh,g,d,t,os'⟩:=s'
 obtain rfl:os'=s.os:=os
 exact I.call (h':=hh) (g':=g) (d':=d) (t':=t) (ch:=[]) un hok bare (fun b z=>absurd z (by simp))
theorem Fun.okX {P:Program}{w:World} {mg:Str->Option Value}{base:Heap}{CX:CXT}{x qual:Str}{st:Stmt}{f:Addr} {N ps:List Str}{k:Nat}{sp:Sp}(F:Fun K x qual st f fd)(S:FnScope N ps (J4 st))(len:∀ vs H Q E,sp vs H Q E->vs.length=ps.length)
 (hbody:∀ (cdv:Value) (A:Around) (outer:List Env) (s:Shared) (H:Hp) (vs:List V) (Q:VK) (E:XK),Room k (A.deeper (envOfC qual (J4 st) s.heap.objs.size f cdv))->sp vs H Q E ->
  ∃ t,PSs (Z8 CX P w K mg base N qual (J4 st) f cdv A outer s H E) (AH st) t/\t { nx:=fun _ H'=>Q .non H',rt:=Q } (CV N vs) H):FnOk P w K mg base CX (k+1) f fd ps sp:=by
 obtain ⟨oc,od,kV,doc,pm,an,cdv,ct,osl,rfl,lk,hcd⟩:=F.ex
 exact J7o lk hcd S len fun A outer s H vs Q E hr hsp=>hbody cdv A outer s H vs Q E hr hsp
theorem NX {X:Cx}{CX:CXT}{k:Nat}{ps:List Str}{sp:Sp}{E:XK}{x:Str}{p pos:Pos}{e:Expr}{es:List Expr}{t:TA}(hp:DL CX X E)(G:Callee X.prog X.w X.K X.mg X.base CX x k ps sp)(hr:Room k X.A)(hg:Gl X x)(ha:PA X (e::es) t)
 (hdb:(x==("__debug__" : Str))=false:=by decide) (he:starEach (e::es) X.env=(false,eval e X.env)::starEach es X.env:=by rfl) (hpl:(backTo pos (starEach es X.env)).any (·.1)=false:=by rfl):PE X (.Call (.Name x p) (e::es) [] pos) (UU sp [] E t):=by
 obtain ⟨f,fd,F,hm,hk,hb⟩:=G.ex
 exact VB F hr hg hm hk hb .nil hp ha hdb he hpl
def ExcO (x C:Addr):HO:=.ext fun h=>∃ (ox:Obj) (vs:Array Value),h.get? x=some ox/\ox.cls=.ref C/\ox.dict=none/\ox.data=.fields vs/\vs[2]?=some .none
theorem ExcO.ok {w:World}{H:Hp}{h:Heap}{x C:Addr}{ox:Obj}{vs:Array Value}(e:h.get? x=some ox)(c:ox.cls=.ref C)(d:ox.dict=none)(f:ox.data=.fields vs)(v:vs[2]?=some .none):ObjOk P w H h x (ExcO x C) :=
 ⟨⟨ox,vs,e,c,d,f,v⟩,⟨ox,e⟩,fun h1 h2 ⟨ox',vs',e',c',d',f',v'⟩ k=>⟨ox',vs',k _ e',c',d',f',v'⟩⟩
structure RoomM (k:Nat)(A:Around):Prop where
 dp:A.depth+3*k+5<recursionLimit
 un:A.units+16*k+200<cLine
theorem RoomM.mono {j k:Nat}{A:Around}(r:RoomM k A)(h:j<=k):RoomM j A:=⟨by have:=r.dp;omega,by have:=r.un;omega⟩
theorem RoomM.depth {k:Nat}{A:Around}(r:RoomM k A):A.depth<recursionLimit:=by have:=r.dp;omega
theorem RoomM.units {k:Nat}{A:Around}(r:RoomM k A):A.units+64<cLine:=by have:=r.un;omega
structure XCls (K:Fg)(D:Addr):Prop where
 get:PySem.W.findIn K (.ref D) "__getattribute__" = some (some (.builtin "BaseException.__getattribute__"))
 hook:PySem.W.findIn K (.ref D) "__getattr__" = some none
 fnd:PySem.W.findObj K D none "__class__" = some (.bind (.builtin "getset_descriptor.__get__") (.builtin "object.__class__"))
 mro:PySem.W.mroIn K D (.type "object")=some true
 cls:(PySem.W.clsIn K D).isSome=true
 exc:PySem.W.subIn K (.ref D) (.type "BaseException")=some true
structure XBase (K:Fg)(B:Addr):Prop where
 cls:(PySem.W.clsIn K B).isSome=true
 typ:PySem.W.typeIn K (.ref B)=some (.type "type")
 exc:PySem.W.subIn K (.ref B) (.type "BaseException")=some true
abbrev bmV:List Value:=[.type "ValueError",.type "Exception",.type "BaseException",.type "object"]
theorem Q3h {x:Str}{C:Addr}{bmB:List Value}{newId:String}(X:K.In base)(G:base.Ns mainGlobals mg)(e:PySem.W.nsIn K mainGlobals x=some (some (.ref C)))(q:PySem.W.excIn K C bmB newId=true):OwnCls x C bmB newId mg base:=by
 refine ⟨PySem.W.mg_of X G e,?_⟩
 unfold PySem.W.excIn at q
 split at q
 · rename_i dd cd sl ho
   split at q
   · rename_i C' bm k0 k1 k2 k3 n k5 hm hs
     simp only [Bool.and_eq_true,beq_iff_eq,Bool.not_eq_true'] at q;obtain ⟨⟨⟨⟨⟨rfl,rfl⟩,hdel⟩,ht⟩,hok⟩,hni⟩:=q
     obtain ⟨nm,bs,mro,ns,qn,hd,sn,sub,ab,col,del⟩:=cd
     dsimp only at hm hdel hok hni;subst hm hdel
     have hsl:sl=#[k0,k1,k2,k3,some (.builtin n),k5]:=by
      obtain ⟨l⟩:=sl
      simp only at hs;rw [hs]
     subst hsl
     refine ⟨bm,ns,nm,qn,bs,hd,sn,sub,ab,col,dd,k0,k1,k2,k3,k5,_,X _ _ ho,.of_isNs (PySem.W.isNs_of_in X hok),PySem.W.nsMap_none_of_in X hok hni,PySem.W.tail_of_in X ht⟩
   · cases q
 · cases q
theorem NZ {w:World} {X:Cx}:DL (CX1 P w base) X E0:=fun _ _ _ _ _ _ _ h=>by
 obtain ⟨_,_,_,_,_,_,_,_,_,q⟩:=h
 exact q.elim
theorem XC {P:Program}{w:World}{K:Fg} {N:List Str}{qual:Str}{scope:Scope}{f:Addr}{cd:Value}{A:Around}{outer:List Env}{s:Shared}{H:Hp}{E:XK}{x m:Str}{C:Addr}{j}{mp np cpos pos:Pos}(O:OwnCls x C bmV "ValueError.__new__" mg base)
 (hg:Gl (Z8 (CX1 P w base) P w K mg base N qual scope f cd A outer s H E) x) (hd:(x==("__debug__" : Str))=false:=by decide) :
 PS (Z8 (CX1 P w base) P w K mg base N qual scope f cd A outer s H E) (.Raise (some (.Call (.Name x np) [.Constant (.str m) j mp] [] cpos)) none pos) (fun _ _ H1=>E (.ref C) none H1) :=
 ZW (X:=Z8 (CX1 P w base) P w K mg base N qual scope f cd A outer s H E) O PySem.F.excBase_ValueError (by decide) PySem.F.excBase_ValueError rfl hg E (fun pins σ H1 s1 h' e us I hm q=>YT pins σ H1 s1 h' e us I hm q) (AF J9d DI) (fun σ H Q q=>⟨Nat.le_trans (Nat.le_of_ble_eq_true rfl) AT,q⟩) rfl rfl hd
theorem VT {h h' base:Heap}:∀ {l:List Env},(∀ b∈l.filterMap (·.frame),∀ o,h.get? b=some o->∃ o',h'.get? b=some o'/\o'.data=o.data)->h.FunFrames base l->h'.FunFrames base l
 | [],_,_=>trivial
 | env::rest,k,hl=>by
   obtain ⟨kd,⟨L,ob,eL,nb,eo,nd⟩,more⟩:=hl
   obtain ⟨o',e',d'⟩:=k L (by simp [List.filterMap_cons,eL]) ob eo
   exact ⟨kd,⟨L,o',eL,nb,e',fun vs=>d'▸nd vs⟩,VT (fun b hb=>k b (by
    rw [List.filterMap_cons,eL];exact List.mem_cons_of_mem _ hb)) more⟩
structure Trc (h:Heap)(x T:Addr)(c:Value):Prop where
 ex:∃ ox vs,h.get? x=some ox/\ox.cls=c/\ox.dict=none/\ox.data=.fields vs/\vs[1]?=some (.ref T)/\vs[2]?=some .none
 tr:∃ oT ts v,h.get? T=some oT/\oT.data=.fields ts/\ts[3]?=some v
 ne:T≠x
structure Kpt (fs:List Addr)(x T0:Addr)(h h':Heap)(T:Addr):Prop where
 keep:∀ b o,b∉fs->b≠x->b≠T0->h.get? b=some o->h'.get? b=some o
 slot:∀ b o,b∈fs->h.get? b=some o->∃ sl,h'.get? b=some { o with slots:=sl }
 new:T=T0\/h.objs.size<=T
 sz:h.objs.size<=h'.objs.size
section
variable {M:Model}{A:Around}{E:Value->Shared->Prop}{s:Shared}
theorem KN {x T:Addr}{c:Value}{fr:Option Addr}{Q:Unit->Shared->Prop}(t:Trc s.heap x T c)
 (q:∀ h',h'.objs.size=s.heap.objs.size->(∀ b,b≠T->h'.get? b=s.heap.get? b)->Trc h' x T c->(∃ oT ts,h'.get? T=some oT/\oT.data=.fields ts/\ts[3]?=some (fr.elim .none fun f=>rawInt f))->Q () { s with heap:=h' }):wpAny M A (setFlight (.ref x) fr) Q E s:=by
 obtain ⟨⟨ox,vs,x1,xc,xn,x2,x3,x4⟩,⟨oT,ts,v,t1,t2,t3⟩,tx⟩:=t
 unfold setFlight
 refine wpAny_bind (wpAny_field x1 x2 x3 ?_)
 rw [if_pos (show (Value.ref T != Value.none)=true from by simp)]
 have h3:3<ts.size:=(Array.getElem?_eq_some_iff.mp t3).1
 refine wpAny_setField t1 t2 h3 ?_
 generalize hv:(fr.elim Value.none fun f=>rawInt f)=v'
 have oth:∀ b,b≠T->(s.heap.update T (Obj.mapFields (·.setIfInBounds 3 v'))).get? b=s.heap.get? b:=fun b hb=>Heap.get?_update_other _ _ (Ne.symm hb)
 have td:=Obj.data_mapFields t2 (·.setIfInBounds 3 v')
 have tg:=Heap.get?_update_self (Obj.mapFields (·.setIfInBounds 3 v')) t1 (Obj.isFreed_of_fields td)
 have t4:(ts.setIfInBounds 3 v')[3]?=some v':=by simp [h3]
 exact q _ (Heap.size_update ..) oth ⟨⟨ox,vs,(oth x (Ne.symm tx)).trans x1,xc,xn,x2,x3,x4⟩,⟨_,_,_,tg,td,t4⟩,tx⟩ ⟨_,_,tg,td,by rw [hv];exact t4⟩
theorem RB {env:Env}{outer:List Env}{L x T0:Addr}{c:Value}{Q:Unit->Shared->Prop}(f1:A.frames=some (env::outer))(f2:s.heap.FunFrames base (env::outer))(f3:env.frame=some L)(t:Trc s.heap x T0 c)
 (q:∀ h' T,Kpt ((env::outer).filterMap (·.frame)) x T0 s.heap h' T->Trc h' x T c->Q () { s with heap:=h' }):wpAny M A (noteFrame (.ref x) env) Q E s:=by
 have tt:=t
 obtain ⟨⟨ox,vs,x1,xc,xn,x2,x3,x4⟩,⟨oT,ts,v,t1,t2,t3⟩,tx⟩:=t
 unfold noteFrame;simp only [f3]
 refine wpAny_bind (wpAny_field x1 x2 x3 ?_);rw [if_pos (show (Value.ref T0 != Value.none)=true from by simp)]
 refine wpAny_bind (wpAny_field t1 t2 t3 ?_)
 by_cases hv:(v==rawInt L)=true
 · rw [if_pos hv]
   exact wpAny_pure (q s.heap T0 ⟨fun _ _ _ _ _ e=>e,fun b o _ e=>⟨o.slots,e⟩,.inl rfl,Nat.le_refl _⟩ tt)
 · rw [if_neg hv]
   refine wpAny_bind (wpAny_setField t1 t2 (Array.getElem?_eq_some_iff.mp t3).1 ?_)
   have oth:∀ b,b≠T0->(s.heap.update T0 (Obj.mapFields (·.setIfInBounds 3 Value.none))).get? b=s.heap.get? b:=fun b hb=>Heap.get?_update_other _ _ (Ne.symm hb)
   have nrec:∀ b o,s.heap.get? b=some o->(∀ vs,o.data≠.fields vs)->b≠T0:=fun b o e n z=>by
    rw [z,t1] at e
    cases e
    exact n ts t2
   have f2':=f2.of_keeps fun b o e n=>⟨o,(oth b (nrec b o e n)).trans e,rfl⟩
   have fT:∀ b∈(env::outer).filterMap (·.frame),b≠T0:=fun b hb=>by
    obtain ⟨_,o,e1,e2⟩:=f2.mem hb
    exact nrec b o e1 e2
   have xf:x∉(env::outer).filterMap (·.frame):=fun hm=>by
    obtain ⟨_,o,e1,e2⟩:=f2.mem hm
    rw [x1] at e1
    cases e1
    exact e2 vs x2
   generalize hg0:s.heap.update T0 (Obj.mapFields (·.setIfInBounds 3 Value.none))=g0 at *
   have sz0:g0.objs.size=s.heap.objs.size:=by rw [<- hg0];exact Heap.size_update ..
   have x0:g0.get? x=some ox:=(oth x (Ne.symm tx)).trans x1
   refine wpAny_bind (wpAny_frameOf_fun (s:={ s with heap:=g0 }) f1 f2' f3 fun g1 m1=>wpAny_bind (wpAny_entryPlaceOf fun pl hpl=>?_))
   unfold EntryCells.newEntry newFields
   refine wpAny_bind (wpAny_newObj_type ?_ (hpl.sizeOk5 _ _ _ _ _))
   generalize hob:({ cls:=.type "traceback",dict:=none,data:=.fields ([.ref T0,.ref L,.none,rawInt L,.none]++(if pl.isEmpty then List.replicate 6 Value.none else pl)).toArray }:Obj)=ob
   have dob:ob.data=.fields ([.ref T0,.ref L,.none,rawInt L,.none]++(if pl.isEmpty then List.replicate 6 Value.none else pl)).toArray:=by rw [<- hob]
   have lob:ob.isFreed=false:=Obj.isFreed_of_fields dob
   have xg1:g1.get? x=some ox:=(m1.2.1 x xf).trans x0
   have xg2:=Heap.get?_push_of_some (h:=g1) ob xg1
   have h1:1<vs.size:=(Array.getElem?_eq_some_iff.mp x3).1
   refine wpAny_setField xg2 x2 h1 ?_
   have nTx:g1.objs.size≠x:=Nat.ne_of_gt (Heap.lt_size xg1)
   have dx:=Obj.data_mapFields x2 (·.setIfInBounds 1 (Value.ref g1.objs.size))
   have xg3:=Heap.get?_update_self (Obj.mapFields (·.setIfInBounds 1 (Value.ref g1.objs.size))) xg2 (Obj.isFreed_of_fields dx)
   have tg3:=(Heap.get?_update_other (g1.push ob) (Obj.mapFields (·.setIfInBounds 1 (Value.ref g1.objs.size))) (Ne.symm nTx)).trans (Heap.get?_push_size g1 lob)
   refine q _ g1.objs.size ⟨?_,?_,?_,?_⟩ ⟨⟨_,_,xg3,(Obj.cls_mapFields ..).trans xc,(YE ..).trans xn,dx,by simp [h1],?_⟩,⟨ob,_,rawInt L,tg3,dob,?_⟩,nTx⟩
   · intro b o nf nx nt e
     have e0:g0.get? b=some o:=(oth b nt).trans e
     have e1:g1.get? b=some o:=(m1.2.1 b nf).trans e0
     rw [Heap.get?_update_other _ _ (Ne.symm nx)]
     exact Heap.get?_push_of_some _ e1
   · intro b o hb e
     have e0:g0.get? b=some o:=(oth b (fT b hb)).trans e
     obtain ⟨sl,e1⟩:=m1.2.2 b o e0
     have nbx:b≠x:=fun z=>xf (z▸hb)
     refine ⟨sl,?_⟩
     rw [Heap.get?_update_other _ _ (Ne.symm nbx)]
     exact Heap.get?_push_of_some _ e1
   · right
     rw [m1.1,sz0]
     exact Nat.le_refl _
   · rw [Heap.size_update,Heap.size_push,m1.1,sz0]
     exact Nat.le_succ _
   · rw [Array.getElem?_setIfInBounds_ne (by decide)]
     exact x4
   · first|(simp;done)|(rcases hpl with rfl|⟨_,_,_,_,_,_,_,rfl⟩<;>simp)
end
section
variable {P:Program}{w:World}{K:Fg}{mg:Str->Option Value}{base:Heap}{N:List Str}{qual:Str}{scope:Scope}{f:Addr}{cd:Value}{A:Around}{outer:List Env}{s:Shared}{H:Hp}{E:XK}
theorem J8a {pins:List (Addr×Obj)}{σ:St}{H2:Hp}{s':Shared}{h2:Heap}{x C:Addr}{bad:List Addr}(I2:Inv (Z8 (CX1 P w base) P w K mg base N qual scope f cd A outer s H E) pins σ H2 s')
 (hbad:∀ c∈bad,H2 c=none/\s.heap.get? c=none) (keep:∀ b o,b∉frs (envOfC qual scope s.heap.objs.size f cd::outer)->b∉bad->s'.heap.get? b=some o->h2.get? b=some o)
 (slot:∀ b o,b∈frs (envOfC qual scope s.heap.objs.size f cd::outer)->s'.heap.get? b=some o->∃ sl,h2.get? b=some { o with slots:=sl }) (ex:Exd H2 base s.heap h2 x C) (q:E (.ref C) none H2) :
 CX1 P w base outer H s E (.ref x) { s' with heap:=h2 }:=by
 have hst:s'.heap.FunFrames base (envOfC qual scope s.heap.objs.size f cd::outer):=I2.stack
 have hfree:∀ b∈frs (envOfC qual scope s.heap.objs.size f cd::outer),H2 b=none:=I2.stkFree
 have U:Un (frs outer) [] H H2 s.heap s'.heap:=I2.base
 have hok2:HOk P w H2 s'.heap:=I2.hok
 have ne1:∀ b o,s.heap.get? b=some o->b∉bad:=fun b o eb z=>by
  have:=(hbad b z).2
  rw [eb] at this;cases this
 have nf:∀ b o,s.heap.get? b=some o->b∉frs outer->b∉frs (envOfC qual scope s.heap.objs.size f cd::outer):=fun b o eb nb hb=>by
  rcases List.mem_cons.mp (show b∈s.heap.objs.size::frs outer from hb) with z|z
  · exact absurd (Heap.lt_size eb) (by rw [z];exact Nat.lt_irrefl _)
  · exact nb z
 refine ⟨x,C,H2,rfl,I2.os,I2.bare,⟨fun b o eb n hb hx=>keep b o (nf b o eb hb) (ne1 b o eb) (U.keep b o eb n hb hx),fun b o eb n hb hx=>?_,U.free,fun b o eb hx=>?_,U.tups,U.frzs,U.tbls⟩,fun b o eb=>?_,ex,q⟩
 · obtain ⟨z,e4⟩:=U.slot b o eb n hb hx
   obtain ⟨z',e5⟩:=slot b _ (List.mem_cons_of_mem _ hb) e4
   exact ⟨z',e5⟩
 · obtain ⟨o',e4⟩:=U.there b o eb hx
   by_cases hb:b∈frs (envOfC qual scope s.heap.objs.size f cd::outer)
   · obtain ⟨z,e5⟩:=slot b o' hb e4
     exact ⟨_,e5⟩
   · exact ⟨o',keep b o' hb (ne1 b o eb) e4⟩
 · refine (hok2 b o eb).stay (fun c v hc ev=>keep c v (fun hb=>?_) (fun z=>?_) ev) (fun _ z=>z) fun _ _ z=>z
   · have:=hfree c hb
     rcases hc with y|y
     · rw [y,eb] at this;cases this
     · rw [y] at this;cases this
   · have:=(hbad c z).1
     rcases hc with y|y
     · rw [y,eb] at this;cases this
     · rw [y] at this;cases this
theorem YJ {N':List Str}{sc:Scope}{cells:List (Str×Addr)}{C0:Addr}{fp:List Addr}{s2:Shared}{H0:Hp}(hI:LB (Z8 (CX1 P w base) P w K mg base N qual scope f cd A outer s H E) C0 fp s2 H0) :
 DL (CX1 P w base) (J6 (Z8 (CX1 P w base) P w K mg base N qual scope f cd A outer s H E) N' sc cells C0 fp s2 H0) E:=by
 intro pins σ H1 s1 e s' I h
 obtain ⟨pins0,σ0,I0,hf,hC⟩:=hI
 obtain ⟨x,C,H2,rfl,os,bare,U2,hok2,⟨hx0,hb0,hg0,ox,vs,T0,oT,ts,x1,xc,xn,xd,v1,v2,tx,hT0,bT0,gT0,t1,t2,t3⟩,q⟩:=h
 have I2:Inv (J6 (Z8 (CX1 P w base) P w K mg base N qual scope f cd A outer s H E) N' sc cells C0 fp s2 H0) pins σ H2 s':=I.raised os bare U2 hok2
 have I3:Inv (Z8 (CX1 P w base) P w K mg base N qual scope f cd A outer s H E) pins0 σ0 H2 s':=I0.call' (ch:=fp) I2.os I2.base I2.hok I2.bare fun b hb=>by
  obtain ⟨f0,f1,f2,f3,f4,f5⟩:=hf b hb
  exact ⟨f3,f1,f4,f5⟩
 have hst:s'.heap.FunFrames base (envOfC qual scope s.heap.objs.size f cd::outer):=I3.stack
 have fr:∀ b∈frs (envOfC qual scope s.heap.objs.size f cd::outer),b≠C0:=fun b hb z=>by
  obtain ⟨_,o,e1,_⟩:=(show s2.heap.FunFrames base (envOfC qual scope s.heap.objs.size f cd::outer) from I0.stack).mem hb
  have:=Heap.lt_size e1
  rw [z] at this
  exact absurd (Nat.lt_of_lt_of_le this hC) (Nat.lt_irrefl _)
 obtain ⟨m,nsm,_⟩:=I2.loc
 have nsm:s'.heap.Ns C0 m:=nsm
 have fC:H2 C0=none:=I2.free
 have sC:s.heap.get? C0=none:=by
  cases z:s.heap.get? C0 with
  | none=>rfl
  | some o =>
    have h1:=Heap.lt_size z
    have h2:s.heap.objs.size<=s2.heap.objs.size:=I0.sz
    exact absurd (Nat.lt_of_lt_of_le h1 (Nat.le_trans h2 hC)) (Nat.lt_irrefl _)
 have sx:s.heap.get? x=none/\s.heap.get? T0=none:=by
  have I1:Inv (Z8 (CX1 P w base) P w K mg base N qual scope f cd A outer s H E) pins0 σ0 H1 s1:=I0.call' (ch:=fp) I.os I.base I.hok I.bare fun b hb=>by
   obtain ⟨f0,f1,f2,f3,f4,f5⟩:=hf b hb
   exact ⟨f3,f1,f4,f5⟩
  have U1:Un (frs outer) [] H H1 s.heap s1.heap:=I1.base
  constructor
  · cases z:s.heap.get? x with
    | none=>rfl
    | some o =>
      obtain ⟨o',e4⟩:=U1.there x o z (by simp)
      rw [hg0] at e4;cases e4
  · cases z:s.heap.get? T0 with
    | none=>rfl
    | some o =>
      obtain ⟨o',e4⟩:=U1.there T0 o z (by simp)
      rw [gT0] at e4;cases e4
 have Cx:C0≠x:=fun z=>by
  obtain ⟨o,es,ep,ho,hd,_⟩:=nsm
  rw [z,x1] at ho;cases ho
  rw [xd] at hd;cases hd
 have CT:C0≠T0:=fun z=>by
  obtain ⟨o,es,ep,ho,hd,_⟩:=nsm
  rw [z,t1] at ho;cases ho
  rw [t2] at hd;cases hd
 have tr0:Trc s'.heap x T0 (.ref C):=⟨⟨ox,vs,x1,xc,xn,xd,v1,v2⟩,⟨oT,ts,_,t1,t2,t3⟩,tx⟩
 show wpAny (model P w) (A.deeper (envOfC qual scope s.heap.objs.size f cd)) (noteFrame (.ref x) (envOfC qual scope s.heap.objs.size f cd)) (fun _ s''=>SK _ C0 (.ref x) s'') _ s'
 have fresh:∀ a,s'.heap.objs.size<=a->H2 a=none/\base.get? a=none/\s.heap.get? a=none:=fun a ha=>by
  refine ⟨I3.hok.fresh ha,?_,?_⟩
  · cases z:base.get? a with
    | none=>rfl
    | some o=>exact absurd (Nat.lt_of_lt_of_le (Heap.lt_size (I3.bk a o z)) ha) (Nat.lt_irrefl _)
  · cases z:s.heap.get? a with
    | none=>rfl
    | some o =>
      obtain ⟨o',e4⟩:=(show Un (frs outer) [] H H2 s.heap s'.heap from I3.base).there a o z (by simp)
      exact absurd (Nat.lt_of_lt_of_le (Heap.lt_size e4) ha) (Nat.lt_irrefl _)
 have fT0:∀ b∈frs (envOfC qual scope s.heap.objs.size f cd::outer),b≠T0:=fun b hb z=>by
  obtain ⟨_,o,e1,e2⟩:=hst.mem hb
  rw [z,t1] at e1;cases e1
  exact e2 ts t2
 have C0lt:C0<s'.heap.objs.size:=nsm.lt
 refine RB (base:=base) I3.ok.frames hst rfl tr0 fun h1 T k1 tr1=>?_
 have TC:T≠C0:=by
  rcases k1.new with z|z
  · rw [z];exact Ne.symm CT
  · exact Nat.ne_of_gt (Nat.lt_of_lt_of_le C0lt z)
 have oldT:∀ b o,s'.heap.get? b=some o->b≠T0->b≠T:=fun b o e n=>by
  rcases k1.new with z|z
  · rw [z];exact n
  · exact Nat.ne_of_lt (Nat.lt_of_lt_of_le (Heap.lt_size e) z)
 refine ⟨m,?_,fun h' sb cenv hl=>?_⟩
 · obtain ⟨o,es,ep,ho,r⟩:=nsm
   exact ⟨o,es,ep,k1.keep C0 o (fun hb=>fr C0 hb rfl) Cx CT ho,r⟩
 have sb2:∀ b,b≠C0->h'.get? b=h1.get? b:=sb.2
 have tr2:Trc h' x T (.ref C):=by
  obtain ⟨⟨ox',vs',a1,a2⟩,⟨oT',ts',v',b1,b2⟩,ne⟩:=tr1
  exact ⟨⟨ox',vs',(sb2 x (Ne.symm Cx)).trans a1,a2⟩,⟨oT',ts',v',(sb2 T TC).trans b1,b2⟩,ne⟩
 unfold PySem.passOn
 obtain ⟨oy,ys,y1,y2,y3,y4,y5,y6⟩:=tr2.ex
 refine wpAny_bind (wpAny_field (s:={ s' with heap:=h' }) y1 y4 y5 ?_)
 rw [if_neg (by simp)]
 refine wpAny_bind (KN (s:={ s' with heap:=h' }) tr2 fun h3 sz3 oth3 tr3 _=>?_)
 refine wpAny_throw ?_
 show wpAny (model P w) (A.deeper (envOfC qual scope s.heap.objs.size f cd)) (leaving (envOfC qual scope s.heap.objs.size f cd) (.ref x)) _ _ { s' with heap:=h3 }
 have k3:∀ b o,b∉frs (envOfC qual scope s.heap.objs.size f cd::outer)->b≠x->b≠T0->b≠C0->s'.heap.get? b=some o->h3.get? b=some o:=fun b o n1 n2 n3 n4 e=>by
  rw [oth3 b (oldT b o e n3)]
  exact (sb2 b n4).trans (k1.keep b o n1 n2 n3 e)
 have s3:∀ b o,b∈frs (envOfC qual scope s.heap.objs.size f cd::outer)->s'.heap.get? b=some o->∃ sl,h3.get? b=some { o with slots:=sl }:=fun b o hb e=>by
  obtain ⟨sl,e1⟩:=k1.slot b o hb e
  refine ⟨sl,?_⟩
  rw [oth3 b (oldT b o e (fT0 b hb))]
  exact (sb2 b (fr b hb)).trans e1
 have st3:h3.FunFrames base (envOfC qual scope s.heap.objs.size f cd::outer):=VT (fun b hb o e=>by
  obtain ⟨sl,e1⟩:=s3 b o hb e
  exact ⟨_,e1,rfl⟩) hst
 have le3:s'.heap.objs.size<=h3.objs.size:=by
  rw [sz3]
  have:h'.objs.size=h1.objs.size:=sb.1
  show s'.heap.objs.size<=h'.objs.size
  rw [this];exact k1.sz
 unfold leaving
 refine wpAny_bind (RB (s:={ s' with heap:=h3 }) (base:=base) I3.ok.frames st3 rfl tr3 fun h4 T4 k4 tr4=>?_)
 refine KN (s:={ s' with heap:=h4 }) tr4 fun h5 sz5 oth5 tr5 fl=>?_
 have old4:∀ b o,s'.heap.get? b=some o->b≠T0->b≠T4:=fun b o e n=>by
  rcases k4.new with z|z
  · rw [z];exact oldT b o e n
  · exact Nat.ne_of_lt (Nat.lt_of_lt_of_le (Nat.lt_of_lt_of_le (Heap.lt_size e) le3) z)
 have new4:H2 T4=none/\base.get? T4=none/\s.heap.get? T4=none:=by
  rcases k4.new with z|z
  · rw [z]
    rcases k1.new with y|y
    · rw [y];exact ⟨hT0,bT0,sx.2⟩
    · exact fresh T y
  · exact fresh T4 (Nat.le_trans le3 z)
 refine J8a (s':=s') (h2:=h5) (bad:=[x,T0,C0]) I3 (fun c hc=>?_) (fun b o n1 n2 e=>?_) (fun b o hb e=>?_) ⟨hx0,hb0,sx.1,?_⟩ q
 · simp only [List.mem_cons,List.not_mem_nil,or_false] at hc
   rcases hc with rfl|rfl|rfl
   · exact ⟨hx0,sx.1⟩
   · exact ⟨hT0,sx.2⟩
   · exact ⟨fC,sC⟩
 · simp only [List.mem_cons,List.not_mem_nil,or_false,not_or] at n2
   obtain ⟨a1,a2,a3⟩:=n2
   rw [oth5 b (old4 b o e a2)]
   exact k4.keep b o n1 a1 (oldT b o e a2) (k3 b o n1 a1 a2 a3 e)
 · obtain ⟨sl,e1⟩:=s3 b o hb e
   obtain ⟨sl',e2⟩:=k4.slot b _ hb e1
   refine ⟨sl',?_⟩
   rw [oth5 b (old4 b o e (fT0 b hb))]
   exact e2
 · obtain ⟨oz,zs,z1,z2,z3,z4,z5,z6⟩:=tr5.ex
   obtain ⟨oT',ts',u1,u2,u3⟩:=fl
   exact ⟨oz,zs,T4,oT',ts',z1,z2,z3,z4,z5,z6,tr5.ne,new4.1,new4.2.1,new4.2.2,u1,u2,u3⟩
end
abbrev J0t (led:Bool):Obj:={ cls:=.type "set",dict:=none,data:=.set #[] 0 (.fresh 0 0 led) }
abbrev met (ns:List Int)(k:Nat):List Int:=firstMet (fun i=>ns.getD i 0) k
def Asc (xs:Array Nat):Prop:=xs.toList.Pairwise (· < ·)
theorem Asc.lt {xs:Array Nat}(h:Asc xs){i j:Nat}(hij:i<j)(hj:j<xs.size):xs[i]'(by omega)<xs[j]:=by
 have:=List.pairwise_iff_getElem.mp h i j (by simp;omega) (by simpa using hj) hij
 simpa using this
theorem EK {xs:Array Nat}(h:Asc xs)(j:Nat):SetTable.below xs j<=xs.size/\(∀ i (hi:i<xs.size),i<SetTable.below xs j->xs[i]<j)/\∀ i (hi:i<xs.size),SetTable.below xs j<=i->j<=xs[i]:=by
 have go:∀ fuel lo hi,lo<=hi->hi<=xs.size->hi - lo<=fuel->(∀ i (q:i<xs.size),i<lo->xs[i]<j)->(∀ i (q:i<xs.size),hi<=i->j<=xs[i]) ->
  SetTable.below.go xs j fuel lo hi<=xs.size/\(∀ i (q:i<xs.size),i<SetTable.below.go xs j fuel lo hi->xs[i]<j)/\∀ i (q:i<xs.size),SetTable.below.go xs j fuel lo hi<=i->j<=xs[i]:=by
  intro fuel
  induction fuel with
  | zero =>
    intro lo hi h1 h2 h3 h4 h5
    have:lo=hi:=by omega
    subst this
    exact ⟨h2,h4,h5⟩
  | succ fuel ih =>
    intro lo hi h1 h2 h3 h4 h5
    unfold SetTable.below.go
    by_cases hl:lo<hi
    · rw [if_pos hl]
      have hm:(lo+hi) / 2<xs.size:=by omega
      have hg:xs.getD ((lo+hi) / 2) j=xs[(lo+hi) / 2]:=by simp [Array.getD,hm]
      dsimp only
      rw [hg]
      by_cases hx:xs[(lo+hi) / 2]<j
      · rw [if_pos hx]
        refine ih _ _ (by omega) h2 (by omega) (fun i q hi'=>?_) h5
        by_cases e:i=(lo+hi) / 2
        · subst e;exact hx
        · exact Nat.lt_trans (h.lt (show i<(lo+hi) / 2 by omega) hm) hx
      · rw [if_neg hx]
        refine ih _ _ (by omega) (by omega) (by omega) h4 fun i q hi'=>?_
        by_cases e:i=(lo+hi) / 2
        · subst e;omega
        · have:=h.lt (show (lo+hi) / 2<i by omega) q
          omega
    · rw [if_neg hl]
      have:lo=hi:=by omega
      subst this
      exact ⟨h2,h4,h5⟩
 unfold SetTable.below
 exact go xs.size 0 xs.size (Nat.zero_le _) (Nat.le_refl _) (by omega) (fun i _ z=>absurd z (Nat.not_lt_zero i)) fun i q z=>absurd q (by omega)
theorem UL {xs:Array Nat}(h:Asc xs){i:Nat}(hi:i<xs.size):SetTable.below xs (xs[i]+1)=i+1:=by
 obtain ⟨b1,b2,b3⟩:=EK h (xs[i]+1)
 generalize SetTable.below xs (xs[i]+1)=k at *
 rcases Nat.lt_trichotomy k (i+1) with z|z|z
 · have:=b3 i hi (by omega);omega
 · exact z
 · have a:=b2 (i+1) (by omega) (by omega)
   have b:=h.lt (show i<i+1 by omega) (show i+1<xs.size by omega)
   omega
theorem UK {xs:Array Nat}(h:Asc xs):SetTable.below xs 0=0:=by
 obtain ⟨b1,b2,b3⟩:=EK h 0
 generalize SetTable.below xs 0=k at *
 rcases Nat.eq_zero_or_pos k with z|z
 · exact z
 · have:=b2 0 (by omega) z;omega
theorem WH {t:SetTable}{j:Nat}(h:Asc t.place)(hn:t.place[SetTable.below t.place j]?≠some j):Asc (t.put j).1.place:=by
 obtain ⟨b1,b2,b3⟩:=EK h j
 show Asc (SetTable.insertAt t.place (SetTable.below t.place j) j)
 generalize t.place=xs at *
 generalize SetTable.below xs j=k at *
 unfold Asc
 rw [SetTable.toList_insertAt]
 have e1:∀ x∈xs.toList.take k,x<j:=fun x hx=>by
  obtain ⟨i,hi,rfl⟩:=List.mem_iff_getElem.mp hx
  rw [List.length_take] at hi
  have hs:i<xs.size:=by have:xs.toList.length=xs.size:=Array.length_toList;omega
  have:=b2 i hs (by omega)
  simpa using this
 have e2:∀ x∈xs.toList.drop k,j<x:=fun x hx=>by
  obtain ⟨i,hi,rfl⟩:=List.mem_iff_getElem.mp hx
  rw [List.length_drop] at hi
  have hs:k+i<xs.size:=by have:xs.toList.length=xs.size:=Array.length_toList;omega
  have a:=b3 (k+i) hs (by omega)
  have b:xs[k+i]≠j:=by
   intro z
   by_cases i0:i=0
   · subst i0
     refine hn ?_
     have hk:k<xs.size:=by omega
     rw [Array.getElem?_eq_getElem hk]
     simpa using z
   · have hk:k<xs.size:=by omega
     have c:=h.lt (show k<k+i by omega) hs
     have d:=b3 k hk (Nat.le_refl _)
     omega
  simp only [List.getElem_drop,Array.getElem_toList]
  omega
 have hp:xs.toList.Pairwise (· < ·):=h
 rw [<- List.take_append_drop k xs.toList] at hp
 obtain ⟨p1,p2,p3⟩:=List.pairwise_append.mp hp
 refine List.pairwise_append.mpr ⟨p1,List.pairwise_cons.mpr ⟨e2,p2⟩,fun a ha b hb=>?_⟩
 rcases List.mem_cons.mp hb with z|z
 · rw [z];exact e1 a ha
 · exact Nat.lt_trans (e1 a ha) (e2 b z)
theorem FA (g:Nat->Option Nat):∀ l:List Nat,((l.filterMap fun j=>(g j).map (j,·)).map (·.1))=l.filter fun j=>(g j).isSome
 | []=>rfl
 | a::l=>by
   have:=FA g l
   rw [List.filterMap_cons,List.filter_cons]
   cases g a with
   | none=>simpa using this
   | some b=>simpa using this
structure Tb (w:World)(t:SetTable):Prop where
 dum:t.dummies=#[]
 led:w.params.followText "set-order" = false->t.led=true
 asc:t.plain=true->Asc t.place
theorem Tb.standIn {w:World}{t:SetTable}(h:Tb w t)(n:Nat):Tb w (t.standIn n):=⟨rfl,h.led,fun z=>by cases z⟩
theorem Tb.fresh (w:World):Tb w (.fresh 0 0 (!w.params.followText "set-order")):=⟨rfl,fun z=>by simp [SetTable.fresh,z],fun _=>by simp [SetTable.fresh,Asc]⟩
theorem WZ {w:World}{t t':SetTable}{hs:Array Int}{n:Nat}{o:Array Nat}(h:Tb w t)(e:t.relaid hs n=some (t',o)):Tb w t':=by
 unfold SetTable.relaid SetTable.laid at e
 cases q:SetTable.layClean (SetTable.sizeAbove n - 1) hs with
 | none=>rw [q] at e;cases e
 | some owner =>
   rw [q] at e
   simp only [Option.bind_eq_bind,Option.bind_some] at e
   cases e
   refine ⟨rfl,h.led,fun _=>?_⟩
   unfold Asc
   simp only [List.toList_toArray]
   rw [FA]
   exact List.Pairwise.filter _ List.pairwise_lt_range
theorem QR {w:World}{t:SetTable}{es:Array (Int×Value)}{n:Nat}(h:Tb w t):Tb w (relayAll t es n).2.1:=by
 unfold relayAll
 cases q:t.relaid (es.map (·.1)) n with
 | none=>exact h.standIn _
 | some r =>
   obtain ⟨t',o⟩:=r
   dsimp only
   split
   · exact WZ h q
   · exact h.standIn _
theorem QV {t:SetTable}{hashAt:Nat->Int}{h:Int}(hd:t.dummies=#[]):∀ (fuel:Nat) (p:SetTable.Probe) (j:Nat) (d:Option Nat),p.dummy=none->SetTable.probe.go t hashAt h fuel p=some (.empty j d)->d=none/\t.slot j=.empty
 | 0,p,j,d,_,e=>by cases e
 | fuel+1,p,j,d,hp,e=>by
   unfold SetTable.probe.go at e
   cases q:t.slot p.j with
   | empty =>
     rw [q] at e
     simp only [Option.some.injEq,SetTable.Met.empty.injEq] at e
     obtain ⟨rfl,rfl⟩:=e
     exact ⟨hp,q⟩
   | dummy =>
     exfalso
     unfold SetTable.slot at q
     dsimp only at q
     split at q
     · cases q
     · rw [hd] at q
       simp [SetTable.has] at q
   | live i =>
     rw [q] at e
     dsimp only at e
     split at e
     · cases e
     · refine QV hd fuel _ j d ?_ e
       unfold SetTable.advance
       split
       · exact hp
       · exact hp
theorem XR {w:World}{t:SetTable}{es:Array (Int×Value)}{h:Int}{x:Value}(H:Tb w t):Tb w (layNew t es h x).2.1:=by
 unfold layNew
 cases q:t.freeSlot h with
 | none=>exact H.standIn _
 | some r =>
   obtain ⟨slot,wd⟩:=r
   dsimp only
   have hs:t.place[SetTable.below t.place slot]?≠some slot:=by
    unfold SetTable.freeSlot SetTable.probe at q
    split at q
    · rename_i j d e
      obtain ⟨rfl,z⟩:=QV H.dum _ _ _ _ rfl e
      simp only [Option.getD_none,Option.isSome_none,Option.some.injEq,Prod.mk.injEq] at q
      rw [<- q.1]
      intro k
      unfold SetTable.slot at z
      dsimp only at z
      rw [k] at z
      simp at z
    · cases q
   have tp:Tb w (t.put slot).1:=by
    refine ⟨?_,H.led,fun z=>WH (H.asc z) hs⟩
    show (if SetTable.has t.dummies slot then _ else t.dummies)=_
    rw [H.dum]
    simp [SetTable.has]
   unfold SetTable.orStandIn
   split
   · exact tp
   · exact tp.standIn _
def iv:Value->Int
 | .int n _=>n
 | _=>0
theorem J1o {k:Int}{v:Value}(h:Value.isInt k v=true):iv v=k/\∃ t,v=.int k t:=by
 obtain ⟨t,rfl⟩:=Value.isInt_shape h
 exact ⟨rfl,t,rfl⟩
abbrev RA (es:Array (Int×Value)):List Int:=es.toList.map fun e=>iv e.2
structure ISo (prog:Program)(w:World)(ns:List Int)(o:Obj)(es:Array (Int×Value))(ep:Nat)(t:SetTable):Prop where
 ex:o.ExactSet
 da:o.data=.set es ep t
 el:ElemsOf (intKind prog w) es.toList
 nd:(RA es).Nodup
 me:∀ z,z∈RA es↔z∈ns
 sz:es.size<=ns.length
 ft:t.fits es.size=true
 tb:Tb w t
structure WSo (w:World)(o:Obj)(es:Array (Int×Value))(ep:Nat)(t:SetTable):Prop where
 ex:o.ExactSet
 da:o.data=.set es ep t
 ft:t.fits es.size=true
 tb:Tb w t
theorem ISo.w {prog:Program}{w:World}{ns:List Int}{o:Obj}{es:Array (Int×Value)}{ep:Nat}{t:SetTable}(I:ISo prog w ns o es ep t):WSo w o es ep t:=⟨I.ex,I.da,I.ft,I.tb⟩
def ISet (prog:Program)(w:World)(ns:List Int)(a:Addr)(h:Heap):Prop:=∃ o es ep t,h.get? a=some o/\ISo prog w ns o es ep t
section
variable {prog:Program}{w:World}{A:Around}{E:Value->Shared->Prop}{s:Shared}{ns:List Int}{a:Addr}
theorem ISet.typeIs (h:ISet prog w ns a s.heap):s.TypeIs (.ref a) "set":=by
 obtain ⟨o,es,ep,t,g,I⟩:=h
 exact ⟨o,g,I.ex.1⟩
theorem IQ {h:Heap}{o:Obj}{es es':Array (Int×Value)}{ep:Nat}{t t':SetTable}(g:h.get? a=some o)(d:o.data=.set es ep t):(h.update a (Obj.putSet es' t')).get? a=some { o with data:=.set es' (ep+1) t' }:=by
 have q:=Heap.get?_update_self (Obj.putSet es' t') g (by rw [putSet_of es' t' d];rfl)
 rwa [putSet_of es' t' d] at q
theorem J1s {n:Int}{k:Tok}{Q:Value->Shared->Prop}(hS:ISet prog w ns a s.heap)(hl:ns.length<=2000)
 (fin:∀ h',Heap.SameBut a s.heap h'->ISet prog w (ns++[n]) a h'->Q .none { s with heap:=h',toks:=s.toks+1 }):wpAny (model prog w) A (call (.builtin "set.add") [.ref a,.int n k]) Q E s:=by
 refine wpAny_call_entry F.slot_set_add hS.typeIs F.entry_set_add ?_ (F.args_set_add_2 _ _)
 obtain ⟨o,es,ep,t,g,I⟩:=hS
 have key:(intKind prog w).is n (.int n k)=true:=by simp [intKind,Value.isInt]
 have sc:(Value.int n k).scannable=true:=rfl
 have sb:es.size<scanBound:=by have:=I.sz;show es.size<4096;omega
 unfold Builtin.«set.add» Builtin.Frozenset.oneOther
 simp only [List.isEmpty_nil,bind_assoc]
 unfold Builtin.Frozenset.addrOf setAdd
 refine wpAny_bind (wpAny_pure (wpAny_bind (wpAny_pure (wpAny_bind (wpAny_holding (wpAny_bind ((intKind prog w).pyHash key ?_)))))))
 generalize hs1:({ s with toks:=s.toks+1 }:Shared)=s1
 have g1:s1.heap.get? a=some o:=by rw [<- hs1];exact g
 have fin':∀ h',Heap.SameBut a s1.heap h'->ISet prog w (ns++[n]) a h'->wpAny (model prog w) A.in1 (ret Value.none) (fun r s2=>∃ v,r=.done (.ret v)/\Q v s2) E { s1 with heap:=h' }:=fun h' x y=>by
  subst hs1
  exact wpAny_pure ⟨_,rfl,fin h' x y⟩
 unfold setAddHashed setAddHashedIn
 refine wpAny_holding (wpAny_bind (wpAny_setState_of g1 I.da I.ft ?_))
 dsimp only
 rw [byScan_of sc sb I.el,if_pos rfl]
 unfold setAddByScan
 refine wpAny_bind (wpAny_bind (wpAny_rule (wpAny_bind (wpAny_setScan_of key g1 I.da I.ft I.el ?_))))
 cases hr:List.findIdx? (fun e=>(intKind prog w).is n e.2) es.toList with
 | some j =>
   obtain ⟨hj,hp,_⟩:=List.findIdx?_eq_some_iff_getElem.mp hr
   have mem:n∈RA es:=List.mem_map.mpr ⟨_,List.getElem_mem hj,(J1o hp).1⟩
   dsimp only
   refine wpAny_pure (wpAny_pure ?_)
   have e1:s1={ s1 with heap:=s1.heap }:=by cases s1;rfl
   rw [e1]
   refine fin' s1.heap (Heap.SameBut.refl a s1.heap) ⟨o,es,ep,t,g1,I.ex,I.da,I.el,I.nd,fun z=>?_,by have:=I.sz;rw [List.length_append];omega,I.ft,I.tb⟩
   rw [I.me z,List.mem_append,List.mem_singleton]
   exact ⟨.inl,fun q=>q.elim id fun e=>by rw [e];exact (I.me n).mp mem⟩
 | none =>
   have nm:n∉RA es:=fun z=>by
    obtain ⟨e,he,q⟩:=List.mem_map.mp z
    obtain ⟨⟨m,hm,_⟩,_⟩:=I.el e he
    have hm:Value.isInt m e.2=true:=hm
    have:=(J1o hm).1
    rw [this] at q
    subst q
    have:=List.findIdx?_eq_none_iff.mp hr e he
    rw [show (intKind prog w).is m e.2=true from hm] at this
    cases this
   dsimp only
   have gw:∀ (b:Bool) {s₁:Shared} {Q':Unit->Shared->Prop},Q' () s₁->wpAny (model prog w) A.in1 (match b with|true=>rule "set.scan.the-table-gave-way" | false=>pure ()) Q' E s₁:=fun b s₁ Q' q=>by
    cases b
    · exact wpAny_pure q
    · exact wpAny_rule q
   have pm:=layNew_perm t es ((intKind prog w).hash n) (.int n k)
   have lf:=layNew_fits t es ((intKind prog w).hash n) (.int n k)
   have lt:=XR (es:=es) (h:=(intKind prog w).hash n) (x:=.int n k) I.tb
   generalize layNew t es ((intKind prog w).hash n) (.int n k)=L at pm lf lt ⊢
   obtain ⟨es1,t1,wd,gv⟩:=L
   dsimp only at pm lf lt ⊢
   have J:∀ {es2:Array (Int×Value)} {ep2:Nat} {t2:SetTable},es2.toList.Perm es1.toList->t2.fits es2.size=true->Tb w t2->ISo prog w (ns++[n]) { o with data:=.set es2 ep2 t2 } es2 ep2 t2:=fun {es2 ep2 t2} p f b=>by
    have p2:es2.toList.Perm (es.toList++[((intKind prog w).hash n,.int n k)]):=by rw [<- Array.toList_push];exact p.trans pm
    have pn:(RA es2).Perm (RA es++[n]):=by
     have:=p2.map fun e=>iv e.2
     rwa [List.map_append] at this
    refine ⟨I.ex,rfl,(I.el.push key sc).perm p2,pn.nodup_iff.mpr ?_,fun z=>?_,?_,f,b⟩
    · rw [List.nodup_append]
      refine ⟨I.nd,by simp,fun x hx y hy e=>?_⟩
      rw [List.mem_singleton] at hy
      subst hy;subst e
      exact nm hx
    · rw [pn.mem_iff,List.mem_append,List.mem_append,I.me z]
    · have:=p2.length_eq
      rw [Array.length_toList,List.length_append,Array.length_toList] at this
      have h2:=I.sz
      rw [List.length_append]
      simp only [List.length_cons,List.length_nil] at this ⊢
      omega
   have z1:es1.size<=4000:=by
    have:=(J (ep2:=0) (List.Perm.refl _) lf lt).sz
    rw [List.length_append] at this
    simp only [List.length_cons,List.length_nil] at this
    omega
   refine wpAny_bind (gw _ ?_)
   have tail:wpAny (model prog w) A.in1 (do
    storeSet a es1 t1
    if (!wd&&t1.tooFull)=true then do
     (match (relayAll t1 es1 (SetTable.grown es1.size)).2.2 with|true=>rule "set.scan.the-table-gave-way" | false=>pure ())
     storeSet a (relayAll t1 es1 (SetTable.grown es1.size)).1 (relayAll t1 es1 (SetTable.grown es1.size)).2.1
     pure (some true)
    else pure (some true)) (fun r s'=>r=some true/\∃ h',s'={ s1 with heap:=h' }/\Heap.SameBut a s1.heap h'/\ISet prog w (ns++[n]) a h') E s1:=by
    refine wpAny_bind (wpAny_storeSet_of g1 I.da ?_ (by rw [sizeLine_eq];omega))
    have g2:=IQ (es':=es1) (t':=t1) g1 I.da
    have sb2:=Heap.SameBut.update s1.heap a (Obj.putSet es1 t1)
    split
    · have rp:=relayAll_perm t1 es1 (SetTable.grown es1.size)
      have rf:=relayAll_fits t1 es1 (SetTable.grown es1.size)
      have rt:=QR (es:=es1) (n:=SetTable.grown es1.size) lt
      generalize relayAll t1 es1 (SetTable.grown es1.size)=R at rp rf rt ⊢
      obtain ⟨es2,t2,gv2⟩:=R
      dsimp only at rp rf rt ⊢
      have z2:es2.size=es1.size:=by rw [<- Array.length_toList,rp.length_eq,Array.length_toList]
      refine wpAny_bind (gw _ (wpAny_bind (wpAny_storeSet_of g2 rfl ?_ (by rw [sizeLine_eq];omega))))
      exact wpAny_pure ⟨rfl,_,rfl,sb2.trans (Heap.SameBut.update _ a _),_,_,_,_,IQ g2 rfl,J rp rf rt⟩
    · exact wpAny_pure ⟨rfl,_,rfl,sb2,_,_,_,_,g2,J (List.Perm.refl _) lf lt⟩
   have tl2:wpAny (model prog w) A.in1 (do
    storeSet a es1 t1
    if (!wd&&t1.tooFull)=true then do
     (match (relayAll t1 es1 (SetTable.grown es1.size)).2.2 with|true=>rule "set.scan.the-table-gave-way" | false=>pure ())
     storeSet a (relayAll t1 es1 (SetTable.grown es1.size)).1 (relayAll t1 es1 (SetTable.grown es1.size)).2.1
     pure (some true)
    else pure (some true)) (fun r s'=>wpAny (model prog w) A.in1 (match r with|some added=>pure added|none=>setAddHashedIn a (.int n k) ((intKind prog w).hash n) 99999) (fun _ s2=>wpAny (model prog w) A.in1 (ret Value.none) (fun fin s3=>∃ v,fin=.done (.ret v)/\Q v s3) E s2) E s') E s1:=wpAny_mono tail (fun r s' ⟨e,h',e2,x,y⟩=>by subst e;subst e2;exact wpAny_pure (fin' h' x y)) fun _ _ z=>z
   split
   · refine wpAny_bind ?_
     rw [hashByValue_scannable 8 sc]
     refine wpAny_pure ?_
     exact tl2
   · refine wpAny_bind (wpAny_pure ?_)
     exact tl2
end
theorem DM:Slot "set_iterator" "__next__" "set_iterator.__next__" :=
 .of (owner:="set_iterator") (n:="__next__") (by rw [typeLookup_type,builtinLookup_eq_fast];kernel_rfl) (by decide +kernel) (by decide +kernel) (by decide +kernel) (by first|exact .inl (by decide +kernel)|exact .inr (by decide +kernel)) (by rw [isSubtype_type];kernel_rfl)
theorem QI:Slot "set_iterator" "__iter__" "set_iterator.__iter__" :=
 .of (owner:="set_iterator") (n:="__iter__") (by rw [typeLookup_type,builtinLookup_eq_fast];kernel_rfl) (by decide +kernel) (by decide +kernel) (by decide +kernel) (by first|exact .inl (by decide +kernel)|exact .inr (by decide +kernel)) (by rw [isSubtype_type];kernel_rfl)
theorem ME:entryFor table "set_iterator.__next__" = some Builtin.«set_iterator.__next__»:=entryFor_of_fast (by kernel_rfl)
theorem QJ (a:Value):argsOk "set_iterator.__next__" ⟨[a],[]⟩:=by unfold argsOk;kernel_rfl
theorem WT:entryFor table "set.__iter__" = some Builtin.«frozenset.__iter__»:=entryFor_alias (id':="frozenset.__iter__") (by kernel_rfl) rfl (by decide +kernel) (by kernel_rfl)
theorem GM {α:Type}:∀ (l:List α) (i:Nat) (hi:i<l.length),(l[i]::l.eraseIdx i).Perm l
 | [],i,hi=>absurd hi (Nat.not_lt_zero i)
 | x::xs,0,hi=>List.Perm.refl _
 | x::xs,i+1,hi=>(List.Perm.swap ..).trans (List.Perm.cons _ (GM xs i (Nat.lt_of_succ_lt_succ hi)))
section
variable {prog:Program}{w:World}{A:Around}{E:Value->Shared->Prop}{s:Shared}
theorem NO {src:Source}{n:Nat}{Q:Nat->Shared->Prop}(hn:n≠0)(h:∀ i d,i<n->Q i { s with drawn:=d }):wpAny (model prog w) A (choose src n) Q E s:=fun Γ p _=>by
 show n≠0/\_
 exact ⟨hn,h _ _ (Nat.mod_lt _ (Nat.pos_of_ne_zero hn))⟩
theorem EL {α:Type}:∀ (n:Nat) (xs:List α) (s:Shared) {Q:List α->Shared->Prop},xs.length=n->(∀ l d,l.Perm xs->Q l { s with drawn:=d })->wpAny (model prog w) A (drawOrder n xs) Q E s
 | 0,xs,s,Q,hl,h=>by
   have:xs=[]:=List.length_eq_zero_iff.mp hl
   subst this
   exact wpAny_pure (h [] s.drawn (List.Perm.refl _))
 | n+1,[],s,Q,hl,h=>by cases hl
 | n+1,x::xs,s,Q,hl,h=>by
   refine wpAny_bind (NO (by simp) fun i d hi=>?_)
   have e:(x::xs)[i]?=some ((x::xs)[i]'hi):=List.getElem?_eq_getElem hi
   rw [e]
   dsimp only
   refine wpAny_bind (EL n _ _ (by rw [List.length_eraseIdx_of_lt hi];omega) fun l d' p=>wpAny_pure ?_)
   exact h _ d' (List.Perm.trans (List.Perm.cons _ p) (GM _ _ hi))
end
theorem MI {α:Type}(next:Nat->Nat):∀ (f k:Nat) (l:List α) (o:Array α),l.length<=f->(pickOrder.go next f k l o).toList.Perm (o.toList++l)
 | 0,k,l,o,h=>by
   have:l=[]:=List.length_eq_zero_iff.mp (by omega)
   subst this
   simp [pickOrder.go]
 | f+1,k,l,o,h=>by
   unfold pickOrder.go
   by_cases hl:l.length=0
   · have:l=[]:=List.length_eq_zero_iff.mp hl
     subst this
     simp
   · have hi:next k % l.length<l.length:=Nat.mod_lt _ (by omega)
     rw [List.getElem?_eq_getElem hi]
     dsimp only
     refine (MI next f (k+1) _ _ (by rw [List.length_eraseIdx_of_lt hi];omega)).trans ?_
     rw [Array.toList_push,List.append_assoc]
     exact List.Perm.append_left _ (GM _ _ hi)
abbrev byT (w:World):Bool:=w.params.followText "set-order"
abbrev ZH (first:Value)(i:Nat)(a:Addr)(n ep:Nat):Obj:={ cls:=.type "set_iterator",data:=.fields #[first,.int i 0,.ref a,.int n 0,.int ep 0] }
inductive Way (w:World)(a:Addr)(es:Array (Int×Value))(ep:Nat)(t:SetTable)(ord:List (Int×Value))(fx:List Addr)(h:Heap)(i:Nat)(first:Value):Prop
 | text (k:Nat) (b:byT w=true) (f:first=.int k 0) (o:ord=(pickOrder (w.params.setOrder a ep) es).toList)
 | place (k:Nat) (b:byT w=false) (d:(!t.plain&&decide (es.size>1))=false) (c:Asc t.place) (f:first=.int k 0) (e:SetTable.below t.place k=i) (o:ord=es.toList)
 | drawn (p:Addr) (ps:List Nat) (b:byT w=false) (d:(!t.plain&&decide (es.size>1))=true) (f:first=.ref p) (m:p∈fx) (q:h.get? p=some { cls:=.type "tuple",data:=.seq (ps.map fun x:Nat=>Value.int (x:Int) 0).toArray 0 }) (o:ps.map (fun x=>es[x]?)=ord.map some)
section
variable {prog:Program}{w:World}{A:Around}{E:Value->Shared->Prop}{s:Shared}{a it:Addr}{o:Obj}{es:Array (Int×Value)}{ep:Nat}{t:SetTable}{ord:List (Int×Value)}{fx:List Addr}{i:Nat}{first:Value}
theorem LW (b:byT w=true)(g:s.heap.get? a=some o)(d:o.data=.set es ep t)(f:t.fits es.size=true){Q:Array (Int×Value)->Shared->Prop}(h:Q (pickOrder (w.params.setOrder a ep) es) s):wpAny (model prog w) A (setWalk a) Q E s:=by
 unfold setWalk setsByText
 refine wpAny_bind (wpAny_setState_of g d f ?_)
 dsimp only
 refine wpAny_bind (wpAny_bind (wpAny_askSetting (wpAny_pure ?_)))
 rw [show (model prog w).w.params.followText "set-order" = true from b,if_pos rfl]
 exact wpAny_bind (wpAny_askSetting (wpAny_pure h))
theorem AO {f0 f1:Value}{k:Nat}{v:Value}{fs:Array Value}{Q:Unit->Shared->Prop}(gi:s.heap.get? it=some { cls:=.type "set_iterator",data:=.fields fs }) (hk:k<fs.size)
 (h:∀ h',Heap.SameBut it s.heap h'->h'.get? it=some { cls:=.type "set_iterator",data:=.fields (fs.setIfInBounds k v) }->Q () { s with heap:=h' }):wpAny (model prog w) A (setField (.ref it) k v) Q E s:=by
 refine wpAny_setField gi rfl hk (h _ (Heap.SameBut.update ..) ?_)
 have q:=Heap.get?_update_self (Obj.mapFields (·.setIfInBounds k v)) gi (Obj.isFreed_of_fields (Obj.data_mapFields rfl _))
 exact q
theorem J0q {e:Int×Value}{Q:Option Value->Shared->Prop}(g:s.heap.get? a=some o)(I:WSo w o es ep t)(gi:s.heap.get? it=some (ZH first i a es.size ep))(W:Way w a es ep t ord fx s.heap i first)(ne:it≠a)(hx:ord[i]?=some e)
 (hQ:∀ f' h',Heap.SameBut it s.heap h'->h'.get? it=some (ZH f' (i+1) a es.size ep)->Way w a es ep t ord fx h' (i+1) f'->Q (some e.2) { s with heap:=h' }):wpAny (model prog w) A (pyNext (.ref it)) Q E s:=by
 have ty:s.TypeIs (.ref it) "set_iterator":=⟨_,gi,rfl⟩
 unfold pyNext
 refine wpAny_bind (wpAny_attempt (wpAny_callSpecial?_slot (name:=Str.ofString "__next__") ty DM (wpAny_call_entry DM ty ME ?_ (QJ _))))
 unfold Builtin.«set_iterator.__next__»
 refine wpAny_bind (wpAny_pure (wpAny_bind (wpAny_fieldsOf gi rfl ?_)))
 dsimp only
 refine wpAny_bind ?_
 unfold setEntries
 refine wpAny_bind (wpAny_setState_of g I.da I.ft (wpAny_pure ?_))
 rw [if_neg (show ¬ ((((es.size:Int)!=(es.size:Int)))=true) by simp)]
 cases W with
 | text k b f od =>
   subst f
   dsimp only
   refine wpAny_bind ?_
   have tn:(fun fin s'=>∃ v,fin=Fin.done (Flow.ret v)/\wpAny (model prog w) A (pure (some v)) Q E s')=(fun fin s'=>∃ v,fin=Fin.done (Flow.ret v)/\wpAny (model prog w) A (pure (some v)) Q E s'):=rfl
   unfold setNext setsByText
   refine wpAny_bind (wpAny_setState_of g I.da I.ft ?_)
   dsimp only
   refine wpAny_bind (wpAny_bind (wpAny_askSetting (wpAny_pure ?_)))
   rw [show (model prog w).w.params.followText "set-order" = true from b,if_pos rfl]
   rw [if_neg (show ¬ ((ep != (ep:Int).toNat)=true) by simp)]
   refine wpAny_bind (LW b g I.da I.ft ?_)
   rw [od,Array.getElem?_toList] at hx
   simp only [Int.toNat_natCast]
   rw [hx]
   refine wpAny_pure ?_
   dsimp only [Option.map]
   refine wpAny_bind (AO (f0:=.none) (f1:=.none) gi (by simp) fun h1 b1 g1=>?_)
   refine wpAny_bind (AO (f0:=.none) (f1:=.none) (s:={ s with heap:=h1 }) g1 (by simp) fun h2 b2 g2=>?_)
   refine wpAny_pure ⟨_,rfl,wpAny_pure (hQ (.int k 0) h2 (b1.trans b2) ?_ ?_)⟩
   · rw [g2];simp [rawInt]
   · exact .text k b rfl od
 | place k b d c f e2 od =>
   subst f
   dsimp only
   refine wpAny_bind ?_
   unfold setNext setsByText
   refine wpAny_bind (wpAny_setState_of g I.da I.ft ?_)
   dsimp only
   refine wpAny_bind (wpAny_bind (wpAny_askSetting (wpAny_pure ?_)))
   rw [show (model prog w).w.params.followText "set-order" = false from b,if_neg Bool.false_ne_true]
   have led:=I.tb.led b
   have hp:t.place.size=es.size:=by have:=I.ft;simp only [SetTable.fits,Bool.and_eq_true,beq_iff_eq] at this;exact this.1
   rw [od,Array.getElem?_toList] at hx
   have hi:i<es.size:=(Array.getElem?_eq_some_iff.mp hx).1
   split
   · rename_i z
     have z:(!t.plain&&decide (es.size>1))=true:=z
     rw [d] at z;cases z
   · refine wpAny_bind ?_
     show wpAny _ _ (if (!t.led&&!es.isEmpty)=true then unsupported "set:maker-not-led" else pure ()) _ _ _
     rw [if_neg (by rw [led];simp)]
     refine wpAny_pure (wpAny_pure ?_)
     simp only [Int.toNat_natCast]
     rw [e2,hx,Array.getElem?_eq_getElem (show i<t.place.size by omega)]
     dsimp only
     refine wpAny_bind (AO (f0:=.none) (f1:=.none) gi (by simp) fun h1 b1 g1=>?_)
     refine wpAny_bind (AO (f0:=.none) (f1:=.none) (s:={ s with heap:=h1 }) g1 (by simp) fun h2 b2 g2=>?_)
     refine wpAny_pure ⟨_,rfl,wpAny_pure (hQ (.int (t.place[i]'(by omega)+1:Nat) 0) h2 (b1.trans b2) ?_ ?_)⟩
     · rw [g2];simp [rawInt]
     · exact .place _ b d c rfl (UL c _) od
 | drawn p ps b d f m q od =>
   subst f
   have hl:ps.length=ord.length:=by have:=congrArg List.length od;simpa using this
   have hi:i<ps.length:=by rw [hl];exact (List.getElem?_eq_some_iff.mp hx).1
   have pe:ps[i]?=some (ps[i]'hi):=List.getElem?_eq_getElem hi
   have ee:es[ps[i]'hi]?=some e:=by
    have:=congrArg (fun l=>l[i]?) od
    simp only [List.getElem?_map,pe,hx,Option.map_some,Option.some.injEq] at this
    exact this
   dsimp only
   refine wpAny_bind ?_
   unfold seqItems?
   dsimp only
   refine wpAny_bind (wpAny_load q ?_)
   dsimp only
   refine wpAny_pure ?_
   dsimp only
   simp only [Int.toNat_natCast,List.getElem?_toArray,List.getElem?_map,pe,Option.map_some]
   refine wpAny_bind ?_
   unfold setNextDrawn
   refine wpAny_bind (wpAny_setState_of g I.da I.ft ?_)
   dsimp only
   rw [if_neg (show ¬ ((ep != ep)=true) by simp),ee]
   dsimp only
   refine wpAny_pure ?_
   refine wpAny_bind (AO (f0:=.none) (f1:=.none) gi (by simp) fun h1 b1 g1=>?_)
   have pn:p≠it:=fun z=>by subst z;rw [gi] at q;exact absurd (Value.type.inj (congrArg Obj.cls (Option.some.inj q))) (by decide)
   refine wpAny_pure ⟨_,rfl,wpAny_pure (hQ (.ref p) h1 b1 ?_ ?_)⟩
   · rw [g1];simp [rawInt]
   · exact .drawn p ps b d rfl m ((b1.2 p pn).trans q) od
theorem J6a {Q:Option Value->Shared->Prop}(hh:A.handled=none)(g:s.heap.get? a=some o)(I:WSo w o es ep t)(gi:s.heap.get? it=some (ZH first i a es.size ep))(W:Way w a es ep t ord fx s.heap i first)(ne:it≠a)(hi:i=es.size)(hl:ord.length=es.size)
 (hQ:∀ h',Heap.ExtBut it s.heap h'->Q none { s with heap:=h' }):wpAny (model prog w) A (pyNext (.ref it)) Q E s:=by
 have ty:s.TypeIs (.ref it) "set_iterator":=⟨_,gi,rfl⟩
 unfold pyNext
 refine wpAny_bind (wpAny_attempt (wpAny_callSpecial?_slot (name:=Str.ofString "__next__") ty DM (wpAny_call_entry DM ty ME ?_ (QJ _))))
 unfold Builtin.«set_iterator.__next__»
 refine wpAny_bind (wpAny_pure (wpAny_bind (wpAny_fieldsOf gi rfl ?_)))
 dsimp only
 refine wpAny_bind ?_
 unfold setEntries
 refine wpAny_bind (wpAny_setState_of g I.da I.ft (wpAny_pure ?_))
 rw [if_neg (show ¬ ((((es.size:Int)!=(es.size:Int)))=true) by simp)]
 have stop:∀ (h1:Heap),Heap.SameBut it s.heap h1->wpAny (model prog w) A.in1 (newExc (.type "StopIteration") [] >>= raiseNew) (fun fin s'=>∃ v,fin=Fin.done (Flow.ret v)/\wpAny (model prog w) A (pure (some v)) Q E s') (fun e s'=>wpAny (model prog w) A (do if <- isInstance e (.type "StopIteration") then pure none else throw e) Q E s') { s with heap:=h1 }:=fun h1 b1=>by
  refine wpAny_bind ?_
  simp only [newExc,newTuple]
  refine wpAny_bind (wpAny_newObj_type ?_ (by size_fits))
  refine wpAny_bind (m:=firstArgMember _ _) (wpAny_of_eq (a:=Value.none) (by first|rfl|(simp only [firstArgMember];rfl)) (wpAny_newObj_type ?_ (by size_fits)))
  simp only [raiseNew]
  refine wpAny_bind (wpAny_handled ?_)
  rw [show A.in1.handled=none from hh]
  refine wpAny_bind (wpAny_pure (wpAny_throw ?_))
  refine wpAny_bind (wpAny_isInstance (T:="StopIteration") (b:=true) ⟨_,Heap.get?_push_size _ rfl,rfl⟩ isSubtype_stop (wpAny_pure (hQ _ ((b1.extBut.push _).push _))))
 cases W with
 | text k b f od =>
   subst f
   dsimp only
   refine wpAny_bind ?_
   unfold setNext setsByText
   refine wpAny_bind (wpAny_setState_of g I.da I.ft ?_)
   dsimp only
   refine wpAny_bind (wpAny_bind (wpAny_askSetting (wpAny_pure ?_)))
   rw [show (model prog w).w.params.followText "set-order" = true from b,if_pos rfl]
   rw [if_neg (show ¬ ((ep != (ep:Int).toNat)=true) by simp)]
   refine wpAny_bind (LW b g I.da I.ft ?_)
   have hx:(pickOrder (w.params.setOrder a ep) es)[i]?=none:=by
    rw [<- Array.getElem?_toList,<- od,List.getElem?_eq_none_iff];omega
   simp only [Int.toNat_natCast]
   rw [hx]
   refine wpAny_pure ?_
   dsimp only [Option.map]
   exact wpAny_bind (AO (f0:=.none) (f1:=.none) gi (by simp) fun h1 b1 g1=>stop h1 b1)
 | place k b d c f e2 od =>
   subst f
   dsimp only
   refine wpAny_bind ?_
   unfold setNext setsByText
   refine wpAny_bind (wpAny_setState_of g I.da I.ft ?_)
   dsimp only
   refine wpAny_bind (wpAny_bind (wpAny_askSetting (wpAny_pure ?_)))
   rw [show (model prog w).w.params.followText "set-order" = false from b,if_neg Bool.false_ne_true]
   have led:=I.tb.led b
   split
   · rename_i z
     have z:(!t.plain&&decide (es.size>1))=true:=z
     rw [d] at z;cases z
   · refine wpAny_bind ?_
     show wpAny _ _ (if (!t.led&&!es.isEmpty)=true then unsupported "set:maker-not-led" else pure ()) _ _ _
     rw [if_neg (by rw [led];simp)]
     refine wpAny_pure (wpAny_pure ?_)
     simp only [Int.toNat_natCast]
     rw [e2,Array.getElem?_eq_none (show es.size<=i by omega)]
     dsimp only
     exact wpAny_bind (AO (f0:=.none) (f1:=.none) gi (by simp) fun h1 b1 g1=>stop h1 b1)
 | drawn p ps b d f m q od =>
   subst f
   have hl2:ps.length=ord.length:=by have:=congrArg List.length od;simpa using this
   dsimp only
   refine wpAny_bind ?_
   unfold seqItems?
   dsimp only
   refine wpAny_bind (wpAny_load q ?_)
   dsimp only
   refine wpAny_pure ?_
   dsimp only
   have pe:ps[i]?=none:=by rw [List.getElem?_eq_none_iff];omega
   simp only [Int.toNat_natCast,List.getElem?_toArray,List.getElem?_map,pe,Option.map_none]
   refine wpAny_bind (AO (f0:=.none) (f1:=.none) gi (by simp) fun h1 b1 g1=>?_)
   exact wpAny_bind (AO (f0:=.none) (f1:=.none) (s:={ s with heap:=h1 }) g1 (by simp) fun h2 b2 g2=>stop h2 (b1.trans b2))
end
section
variable {prog:Program}{w:World}{A:Around}{E:Value->Shared->Prop}{s:Shared}{a it:Addr}{o:Obj}{es:Array (Int×Value)}{ep:Nat}{t:SetTable}{ord:List (Int×Value)}{first:Value}
theorem J1p {Q:Value->Shared->Prop}(g:s.heap.get? a=some o)(I:WSo w o es ep t)(hz:es.size<=2000)
 (hQ:∀ it h' d ord fx first,ord.Perm es.toList->h'.get? it=some (ZH first 0 a es.size ep)->Way w a es ep t ord fx h' 0 first->(∀ b o,s.heap.get? b=some o->h'.get? b=some o)->s.heap.objs.size<=it->(∀ p∈fx,s.heap.objs.size<=p/\p≠it)->Q (.ref it) { s with heap:=h',drawn:=d }):wpAny (model prog w) A (pyIter (.ref a)) Q E s:=by
 have hT:s.TypeIs (.ref a) "set":=⟨o,g,I.ex.1⟩
 refine wpAny_pyIter_slot hT PySem.F.slot_set_iter (wpAny_call_entry PySem.F.slot_set_iter hT WT ?_ (PySem.F.args_set_iter_1 _))
 unfold Builtin.«frozenset.__iter__»
 refine wpAny_bind ?_
 unfold Builtin.Frozenset.slot0
 refine wpAny_bind (wpAny_pure ?_)
 show wpAny _ _ (pure a) _ _ s
 refine wpAny_pure (wpAny_bind ?_)
 unfold Builtin.Frozenset.sizeOf setEntries
 refine wpAny_bind (wpAny_bind (wpAny_setState_of g I.da I.ft (wpAny_pure (wpAny_pure ?_))))
 refine wpAny_bind ?_
 unfold setDrawn setsByText
 refine wpAny_bind (wpAny_setState_of g I.da I.ft ?_)
 dsimp only
 refine wpAny_bind (wpAny_bind (wpAny_askSetting (wpAny_pure (wpAny_pure ?_))))
 have hp:t.place.size=es.size:=by have:=I.ft;simp only [SetTable.fits,Bool.and_eq_true,beq_iff_eq] at this;exact this.1
 have ends:∀ (s1:Shared) (first:Value) (fx:List Addr) (ord:List (Int×Value)),(∃ h1 d,s1={ s with heap:=h1,drawn:=d }/\(∀ b o,s.heap.get? b=some o->h1.get? b=some o)/\s.heap.objs.size<=h1.objs.size)->ord.Perm es.toList->(∀ h',(∀ b o,s1.heap.get? b=some o->h'.get? b=some o)->Way w a es ep t ord fx h' 0 first)->(∀ p∈fx,s.heap.objs.size<=p/\p<s1.heap.objs.size) ->
  wpAny (model prog w) A.in1 (do
   let __do_lift <- setEpoch a
   let __do_lift <- newFields "set_iterator" [first,rawInt 0,Value.ref a,rawInt es.size,rawInt __do_lift]
   ret __do_lift) (fun fin s'=>∃ v,fin=Fin.done (Flow.ret v)/\∃ T id,s'.TypeIs v T/\typeLookup (Value.type T) "__next__" = pure (some id)/\Q v s') E s1:=by
  rintro s1 first fx ord ⟨h1,d,rfl,k1,z1⟩ po W hf
  refine wpAny_bind (wpAny_setEpoch_of (k1 _ _ g) I.da I.ft ?_)
  refine wpAny_bind (wpAny_newObj_type (wpAny_pure ⟨_,rfl,"set_iterator",_,⟨_,Heap.get?_push_size _ rfl,rfl⟩,DM.lookup,?_⟩))
  refine hQ _ _ d ord fx first po ?_ (W _ fun b o e=>Heap.get?_push_of_some _ e) (fun b o e=>Heap.get?_push_of_some _ (k1 b o e)) z1 fun p m=>⟨(hf p m).1,Nat.ne_of_lt (hf p m).2⟩
  rw [Heap.get?_push_size _ rfl]
  simp [rawInt]
 cases b:byT w with
 | true =>
   rw [show (model prog w).w.params.followText "set-order" = true from b]
   simp only [Bool.not_true,Bool.false_and,Bool.false_eq_true,if_false]
   refine wpAny_bind (wpAny_pure ?_)
   refine ends s (rawInt 0) [] (pickOrder (w.params.setOrder a ep) es).toList ⟨s.heap,s.drawn,rfl,fun _ _ e=>e,Nat.le_refl _⟩ ?_ (fun h' _=>.text 0 b rfl rfl) fun p z=>by cases z
   have:=MI (w.params.setOrder a ep) es.size 0 es.toList #[] (by simp)
   simpa [pickOrder] using this
 | false =>
   rw [show (model prog w).w.params.followText "set-order" = false from b]
   simp only [Bool.not_false,Bool.true_and]
   split
   · rename_i z
     have z:(!t.plain&&decide (es.size>1))=true:=z
     refine wpAny_bind (EL es.size (List.range es.size) s List.length_range fun l d p=>?_)
     have lz:l.length<=2000:=by rw [p.length_eq,List.length_range];exact hz
     simp only [newTuple]
     refine wpAny_bind (wpAny_newObj_type ?_ (by show _<=_;simp only [List.size_toArray,List.length_map];rw [sizeLine_eq];omega))
     have mem:∀ x∈l,x<es.size:=fun x hx=>List.mem_range.mp (p.mem_iff.mp hx)
     have po:(l.filterMap fun x=>es[x]?).Perm es.toList:=by
      have:=p.filterMap fun x=>es[x]?
      rwa [filterMap_getElem?_range] at this
     have om:l.map (fun x=>es[x]?)=(l.filterMap fun x=>es[x]?).map some:=by
      clear po p lz
      induction l with
      | nil=>rfl
      | cons x l ih =>
        have hx:=mem x (List.mem_cons_self ..)
        rw [List.map_cons,List.filterMap_cons,Array.getElem?_eq_getElem hx,ih fun y hy=>mem y (List.mem_cons_of_mem _ hy)]
        rfl
     refine ends _ (.ref s.heap.objs.size) [s.heap.objs.size] (l.filterMap fun x=>es[x]?) ⟨_,d,rfl,fun b o e=>Heap.get?_push_of_some _ e,by show _<=(s.heap.push _).objs.size;rw [Heap.size_push];omega⟩ po (fun h' k=>  .drawn _ l b z rfl (by simp) (k _ _ (by rw [Heap.get?_push_size _ rfl];rfl)) om) fun q e=>by rw [List.mem_singleton.mp e];exact ⟨Nat.le_refl _,by show _<(s.heap.push _).objs.size;rw [Heap.size_push];omega⟩
   · rename_i z
     have z:(!t.plain&&decide (es.size>1))=false:=by
      cases q:(!t.plain&&decide (es.size>1)) with
      | false=>rfl
      | true=>exact absurd q z
     have asc:Asc t.place:=by
      cases q:t.plain with
      | true=>exact I.tb.asc q
      | false =>
        rw [q] at z
        simp only [Bool.not_false,Bool.true_and,decide_eq_false_iff_not] at z
        unfold Asc
        have:t.place.toList.length<=1:=by rw [Array.length_toList];omega
        match hq:t.place.toList,this with
        | [],_=>exact List.Pairwise.nil
        | [x],_=>simp
     refine wpAny_bind (wpAny_pure ?_)
     exact ends s (rawInt 0) [] es.toList ⟨s.heap,s.drawn,rfl,fun _ _ e=>e,Nat.le_refl _⟩ (List.Perm.refl _) (fun h' _=>.place 0 b z asc rfl (UK asc) rfl) fun p z=>by cases z
end
theorem JB:typeLookup (.type "set") "__len__" = pure (some (.builtin "set.__len__")):=by rw [typeLookup_type,builtinLookup_eq_fast];kernel_rfl
theorem WS:entryFor table "set_iterator.__iter__" = some Builtin.«dict_keyiterator.__iter__»:=entryFor_alias (id':="dict_keyiterator.__iter__") (by kernel_rfl) rfl (by decide +kernel) (by kernel_rfl)
theorem ZI (a:Value):argsOk "set_iterator.__iter__" ⟨[a],[]⟩:=by unfold argsOk;kernel_rfl
section
variable {prog:Program}{w:World}{A:Around}{E:Value->Shared->Prop}{s:Shared}{a it:Addr}{o:Obj}{es:Array (Int×Value)}{ep:Nat}{t:SetTable}{ord:List (Int×Value)}{fx:List Addr}{i:Nat}{first:Value}
def SSt (w:World)(a it:Addr)(o:Obj)(es:Array (Int×Value))(ep:Nat)(t:SetTable)(ord:List (Int×Value))(fx:List Addr)(i:Nat)(h:Heap):Prop:=h.get? a=some o/\∃ first,h.get? it=some (ZH first i a es.size ep)/\Way w a es ep t ord fx h i first
theorem Way.frame {h h':Heap}(W:Way w a es ep t ord fx h i first)(k:∀ b∈fx,∀ o,h.get? b=some o->h'.get? b=some o):Way w a es ep t ord fx h' i first:=by
 cases W with
 | text k b f o=>exact .text k b f o
 | place k b d c f e o=>exact .place k b d c f e o
 | drawn p ps b d f m q o=>exact .drawn p ps b d f m (k p m _ q) o
theorem WU (hh:A.handled=none)(I:WSo w o es ep t)(ne:it≠a)(nf:it∉fx)(po:ord.Perm es.toList):Walks prog w A it (it::a::fx) [it] es.size (fun i v=>∃ e,ord[i]?=some e/\v=e.2) (SSt w a it o es ep t ord fx) where
 sub:=fun b hb=>by rw [List.mem_singleton.mp hb];exact List.mem_cons_self ..
 frame:=fun i h h' ⟨g,f,gi,W⟩ k=>⟨k a (by simp) _ g,f,k it (by simp) _ gi,W.frame fun b hb=>k b (by simp [hb])⟩
 item:=fun i s Q E hi ⟨g,f,gi,W⟩ hQ=>by
  have hl:ord.length=es.size:=by rw [po.length_eq,Array.length_toList]
  obtain ⟨e,he⟩:∃ e,ord[i]?=some e:=⟨ord[i]'(by omega),List.getElem?_eq_getElem _⟩
  refine J0q g I gi W ne he fun f' h' b g' W'=>?_
  exact hQ e.2 h' s.toks ⟨e,he,rfl⟩ ⟨(b.2 a ne.symm).trans g,f',g',W'⟩ fun c oc nc q=>(b.2 c (fun z=>nc (by simp [z]))).trans q
 done:=fun s Q E ⟨g,f,gi,W⟩ hQ=>by
  have hl:ord.length=es.size:=by rw [po.length_eq,Array.length_toList]
  refine J6a hh g I gi W ne rfl hl fun h' b=>?_
  exact hQ h' s.toks fun c oc nc q=>b c oc (fun z=>nc (by simp [z])) q
 self:=fun i s Q E ⟨g,f,gi,W⟩ h=>by
  have ty:s.TypeIs (.ref it) "set_iterator":=⟨_,gi,rfl⟩
  refine wpAny_pyIter_slot ty QI (wpAny_call_entry QI ty WS ?_ (ZI _))
  show wpAny _ _ (ret (.ref it)) _ _ s
  exact wpAny_pure ⟨_,rfl,"set_iterator",_,ty,DM.lookup,h⟩
theorem IF {Q:List Value->Shared->Prop}(hh:A.handled=none)(g:s.heap.get? a=some o)(I:WSo w o es ep t)(hz:es.size<=2000)
 (hQ:∀ vs h' d tk,(∃ ord:List (Int×Value),ord.Perm es.toList/\vs=ord.map (·.2))->(∀ b o,s.heap.get? b=some o->h'.get? b=some o)->s.heap.objs.size<=h'.objs.size->Q vs { s with heap:=h',drawn:=d,toks:=tk }):wpAny (model prog w) A (collect (.ref a)) Q E s:=by
 unfold collect
 refine wpAny_bind (wpAny_runValue (codeAny_builtin F.entry_proto_collect ?_))
 rw [Around.under_plainId F.plain_proto_collect _]
 show wpAny _ A.in1 (newList [] >>= fun l=>again (.builtin "list.__iadd__" ⟨[l,.ref a],[]⟩)) _ _ s
 refine wpAny_bind (wpAny_newObj_type ?_)
 refine wpAny_pure ⟨plainId_quiet F.plain_list_iadd _,codeAny_builtin F.entry_list_iadd ?_⟩
 rw [Around.under_plainId F.plain_list_iadd _]
 show wpAny _ A.in1 (Builtin.List.listExtendWith (.ref s.heap.objs.size) (.ref a) (.ref s.heap.objs.size)) _ _ _
 generalize hH:s.heap.push { cls:=.type "list",data:=.seq ([]:List Value).toArray }=H
 have al:a<s.heap.objs.size:=Heap.lt_size g
 have gH:H.get? a=some o:=hH▸Heap.get?_push_of_some _ g
 have gS:H.get? s.heap.objs.size=some { cls:=.type "list",data:=.seq ([]:List Value).toArray }:=hH▸Heap.get?_push_size _ rfl
 have hHs:H.objs.size=s.heap.objs.size+1:=by rw [<- hH,Heap.size_push]
 have tH:Shared.TypeIs { s with heap:=H } (.ref a) "set":=⟨o,gH,I.ex.1⟩
 unfold Builtin.List.listExtendWith
 refine wpAny_bind (wpAny_typeOf tH ?_)
 have h1:Builtin.List.listSameRef (.ref s.heap.objs.size) (.ref a)=false:=by
  show (s.heap.objs.size==a)=false
  exact beq_eq_false_iff_ne.mpr (Nat.ne_of_gt al)
 have h2:(Value.type "set"==Value.type "list")=false:=by decide
 have h3:(Value.type "set"==Value.type "tuple")=false:=by decide
 simp only [h1,h2,h3,Bool.or_false,Bool.false_eq_true,if_false]
 refine wpAny_bind (J1p (s:={ s with heap:=H }) gH I hz fun it h' d ord fx first po gi W k zi zf=>?_)
 refine wpAny_bind (wpAny_holding ?_)
 unfold Builtin.List.listLengthHint
 have t2:Shared.TypeIs { s with heap:=h',drawn:=d } (.ref a) "set":=⟨o,k _ _ gH,I.ex.1⟩
 refine wpAny_bind (wpAny_specialOf t2 JB ?_)
 wp_delta
 refine wpAny_bind (wpAny_isInstance (T:="set") (b:=true) t2 (by rw [isSubtype_type];kernel_rfl) ?_)
 show wpAny _ A.in1 (typeOf (Value.ref a) >>= _) _ _ _
 refine wpAny_bind (wpAny_typeOf t2 ?_)
 refine wpAny_pure ?_
 rw [if_pos (by decide)]
 refine wpAny_bind (wpAny_rule (wpAny_bind ?_))
 unfold Builtin.List.listTouch
 have g0:h'.get? s.heap.objs.size=some (seqObj "list" #[] 0):=k _ _ gS
 refine wpAny_bind (listUpdate_at (s:={ s with heap:=h',drawn:=d }) g0 rfl ?_)
 obtain ⟨e1,g1⟩:∃ e1,(h'.update s.heap.objs.size (Obj.mapSeq (·.push Value.none))).get? s.heap.objs.size=some (seqObj "list" #[Value.none] e1):=⟨_,get?_update_seq g0 (·.push Value.none)⟩
 refine listUpdate_at (s:={ s with heap:=h'.update s.heap.objs.size (Obj.mapSeq (·.push Value.none)),drawn:=d }) g1 rfl ?_
 obtain ⟨e2,g2⟩:∃ e2,((h'.update s.heap.objs.size (Obj.mapSeq (·.push Value.none))).update s.heap.objs.size (Obj.mapSeq (·.pop))).get? s.heap.objs.size=some (seqObj "list" #[] e2):=⟨_,get?_update_seq g1 (·.pop)⟩
 have sb:=(Heap.SameBut.update h' s.heap.objs.size (Obj.mapSeq (·.push Value.none))).trans (Heap.SameBut.update (h'.update s.heap.objs.size (Obj.mapSeq (·.push Value.none))) s.heap.objs.size (Obj.mapSeq (·.pop)))
 generalize (h'.update s.heap.objs.size (Obj.mapSeq (·.push Value.none))).update s.heap.objs.size (Obj.mapSeq (·.pop))=h2 at *
 have zi:s.heap.objs.size<it:=by have:H.objs.size<=it:=zi;omega
 have nS:s.heap.objs.size∉it::a::fx:=fun m=>by
  rcases List.mem_cons.mp m with z|z
  · exact absurd z (Nat.ne_of_lt zi)
  · rcases List.mem_cons.mp z with z|z
    · exact absurd z (Nat.ne_of_gt al)
    · have:=(zf _ z).1
      have:H.objs.size<=s.heap.objs.size:=this
      omega
 have ks:∀ b,b≠s.heap.objs.size->∀ q,h'.get? b=some q->h2.get? b=some q:=fun b nb q e=>(sb.2 b nb).trans e
 have st:SSt w a it o es ep t ord fx 0 h2:=⟨ks a (Nat.ne_of_lt al) _ (k _ _ gH),first,ks it (Nat.ne_of_gt zi) _ gi,W.frame fun b hb q e=>ks b (fun z=>nS (by simp [<- z,hb])) q e⟩
 have Wk:=WU (prog:=prog) (A:=A.in1) (it:=it) (fx:=fx) (by simp [hh]) I (Nat.ne_of_gt (Nat.lt_trans al zi)) (fun m=>(zf _ m).2 rfl) po
 refine wpAny_pure ⟨plainId_quiet F.plain_extend_loop _,codeAny_extend_loopS (Wk.toS) (by rw [sizeLine_eq];omega) _ nS _ es.size 0 _ _ _ rfl (Nat.zero_le _) st g2 (ItemsOf.nil _) fun s' acc' c' hm hS' hacc=>?_⟩
 show wpAny _ A (load s.heap.objs.size >>= _) _ _ s'
 refine wpAny_bind (wpAny_load hS' ?_)
 obtain ⟨h3,g3,d3,tk3,os3⟩:=s'
 cases (show g3=s.gens from hm.gens)
 cases (show os3=s.os from hm.os)
 refine wpAny_pure (hQ acc'.toList h3 d3 tk3 ⟨ord,po,?_⟩ (fun b q e=>?_) (Nat.le_of_lt (Heap.lt_size hS')))
 · obtain ⟨z1,z2⟩:=hacc
   have hl:ord.length=es.size:=by rw [po.length_eq,Array.length_toList]
   apply List.ext_getElem?
   intro j
   rw [List.getElem?_map,Array.getElem?_toList]
   cases q:acc'[j]? with
   | none =>
     have:=Array.getElem?_eq_none_iff.mp q
     rw [List.getElem?_eq_none (by omega)]
     rfl
   | some v =>
     obtain ⟨e,e1,rfl⟩:=z2 j v q
     rw [e1]
     rfl
 · have bl:=Heap.lt_size e
   have kH:h'.get? b=some q:=k _ _ (hH▸Heap.get?_push_of_some _ e)
   refine hm.heap b q (fun m=>?_) (ks b (Nat.ne_of_lt bl) _ kH)
   rcases List.mem_cons.mp m with z|z
   · exact absurd z (Nat.ne_of_lt bl)
   · rw [List.mem_singleton.mp z] at bl
     exact absurd bl (Nat.not_lt.mpr (Nat.le_of_lt zi))
end
theorem VQ:∀ l:List (Int×Value),(∀ e∈l,∃ n t,e.2=Value.int n t)->IntsAre (l.map (·.2)) (l.map fun e=>iv e.2)
 | [],_=>.nil
 | e::l,h=>by
   obtain ⟨n,t,q⟩:=h e (List.mem_cons_self ..)
   have:=VQ l fun x hx=>h x (List.mem_cons_of_mem _ hx)
   rw [List.map_cons,List.map_cons,q]
   exact .cons n t this
section
variable {prog:Program}{w:World}{A:Around}{E:Value->Shared->Prop}{s:Shared}{a:Addr}{o:Obj}{es:Array (Int×Value)}{ep:Nat}{t:SetTable}{ns:List Int}
theorem SR {Q:Value->Shared->Prop}(hh:A.handled=none)(g:s.heap.get? a=some o)(I:ISo prog w ns o es ep t)(hz:es.size<64)
 (fin:∀ (out:Array Value) (ks:List Int) (L:Addr) (e:Nat) h' d tk,IntsAre out.toList ks->ks.Perm (RA es)->ks.Pairwise (·<=·)->h'.get? L=some (seqObj "list" out e)->s.heap.objs.size<=L->(∀ b o,s.heap.get? b=some o->h'.get? b=some o)->Q (.ref L) { s with heap:=h',drawn:=d,toks:=tk }):wpAny (model prog w) A (call (.builtin "sorted") [.ref a]) Q E s:=by
 refine Calls.call_function_entry kind_sorted plain_sorted entry_sorted (args_sorted1 _) ?_
 unfold Builtin.«sorted»
 refine wpAny_bind (m:=checkCount "sorted" 1 1 _) (wpAny_pure ?_)
 refine wpAny_bind (IF (by simp [hh]) g I.w (by omega) fun vs h' d tk hv k zs=>?_)
 obtain ⟨ord,po,rfl⟩:=hv
 have vi:=VQ ord fun e he=>by
  obtain ⟨⟨m,hm,_⟩,_⟩:=I.el e (po.mem_iff.mp he)
  obtain ⟨t,q⟩:=(J1o (show Value.isInt m e.2=true from hm)).2
  exact ⟨m,t,q⟩
 have hl:(ord.map (·.2)).length<64:=by rw [List.length_map,po.length_eq,Array.length_toList];exact hz
 refine wpAny_bind (wpAny_newList ?_)
 have hoL:(h'.push (seqObj "list" (ord.map (·.2)).toArray 0)).get? h'.objs.size=some (seqObj "list" (ord.map (·.2)).toArray 0):=Heap.get?_push_size _ rfl
 refine wpAny_bind (wpAny_holding (wpAny_call_entry (s:={ s with heap:=h'.push (seqObj "list" (ord.map (·.2)).toArray 0),drawn:=d,toks:=tk }) slot_list_sort ⟨_,hoL,rfl⟩ entry_list_sort (list_sort_tree hoL vi hl fun out ks a1 a2 a3=>⟨_,rfl,?_⟩) (args_list_sort _)))
 refine wpAny_pure ⟨_,rfl,?_⟩
 show Q (.ref h'.objs.size) { s with heap:=sortedHeap (h'.push (seqObj "list" (ord.map (·.2)).toArray 0)) h'.objs.size (ord.map (·.2)) out,drawn:=d,toks:=tk }
 unfold sortedHeap
 have zz:(h'.push (seqObj "list" (ord.map (·.2)).toArray 0)).objs.size=h'.objs.size+1:=size_push' ..
 obtain ⟨e1,q1⟩:∃ e1,((h'.push (seqObj "list" (ord.map (·.2)).toArray 0)).update h'.objs.size (Obj.mapSeq fun _=>#[])).get? h'.objs.size=some (seqObj "list" #[] e1):=⟨_,get?_update_seq hoL (fun _=>#[])⟩
 have zu:((h'.push (seqObj "list" (ord.map (·.2)).toArray 0)).update h'.objs.size (Obj.mapSeq fun _=>#[])).objs.size=h'.objs.size+1:=by rw [Heap.size_update];exact zz
 have q2:=Heap.get?_push_of_some (seqObj "list" #[] 0) (Heap.get?_push_of_some (seqObj "tuple" (ord.map (·.2)).toArray 0) q1)
 obtain ⟨e3,q3⟩:∃ e3,(((((h'.push (seqObj "list" (ord.map (·.2)).toArray 0)).update h'.objs.size (Obj.mapSeq fun _=>#[])).push (seqObj "tuple" (ord.map (·.2)).toArray 0)).push (seqObj "list" #[] 0)).update h'.objs.size (Obj.mapSeq fun _=>out)).get? h'.objs.size=some (seqObj "list" out e3):=⟨_,get?_update_seq q2 (fun _=>out)⟩
 refine fin out ks h'.objs.size e3 _ d tk a1 (a2.trans (po.map _)) a3 q3 zs fun b q e=>?_
 have bl:=Heap.lt_size e
 have nb:b≠h'.objs.size:=Nat.ne_of_lt (Nat.lt_of_lt_of_le bl zs)
 rw [Heap.get?_update_ne _ _ _ _ nb]
 refine Heap.get?_push_of_some _ (Heap.get?_push_of_some _ ?_)
 rw [Heap.get?_update_ne _ _ _ _ nb]
 exact Heap.get?_push_of_some _ (k b q e)
end
def kA (k:Keyed->Int)(xs:Array Keyed)(i:Nat):Int:=match xs[i]? with
 | some p=>k p
 | none=>0
def HZ (k:Keyed->Int)(xs:Array Keyed)(lo n:Nat):Prop:=∀ i j,lo<=i->i<=j->j<lo+n->kA k xs i<=kA k xs j
def HD (k:Keyed->Int)(xs:Array Keyed)(lo n:Nat):Prop:=∀ i j,lo<=i->i<=j->j<lo+n->kA k xs j<=kA k xs i
theorem FD {k:Keyed->Int}{xs ys:Array Keyed}{i j:Nat}(h:xs[i]?=ys[j]?):kA k xs i=kA k ys j:=by unfold kA;rw [h]
theorem VM {k:Keyed->Int}{xs:Array Keyed}{i:Nat}(h:i<xs.size):kA k xs i=k xs[i]:=by unfold kA;rw [getElem?_pos xs i h]
theorem MR {k:Keyed->Int}{xs:Array Keyed}{src d:Nat}(hs:src<xs.size)(hd:d<=src)(i:Nat) :
 kA k (bubble xs src d) i=if i=src - d then kA k xs src else if src - d<i/\i<=src then kA k xs (i - 1) else kA k xs i:=by
 have e:=getElem?_bubble hs d hd i
 by_cases h1:i=src - d
 · rw [if_pos h1] at e ⊢;exact FD e
 · rw [if_neg h1] at e ⊢
   by_cases h2:src - d<i/\i<=src
   · rw [if_pos h2] at e ⊢;exact FD e
   · rw [if_neg h2] at e ⊢;exact FD e
theorem HM {k:Keyed->Int}{xs:Array Keyed}{i j:Nat}(hj:j<=xs.size)(q:Nat) :
 kA k (mirror xs i j ((j - i) / 2)) q=if i<=q/\q<j then kA k xs (i+j - 1 - q) else kA k xs q:=by
 have e:=getElem?_mirror_all (i:=i) hj q
 by_cases h1:i<=q/\q<j
 · rw [if_pos h1] at e ⊢;exact FD e
 · rw [if_neg h1] at e ⊢;exact FD e
theorem BY {k:Keyed->Int}{xs:Array Keyed}{i j:Nat}(hj:j<=xs.size)(heq:∀ q,i<=q->q<j->kA k xs q=kA k xs (j - 1))(q:Nat) :
 kA k (mirror xs i j ((j - i) / 2)) q=kA k xs q:=by
 rw [HM hj]
 split
 · rw [heq _ (by omega) (by omega),heq q (by omega) (by omega)]
 · rfl
structure Cmp (prog:Program)(w:World)(A:Around)(s:Shared)(κ:SortKind)(a₀:Array Keyed)(k:Keyed->Int):Prop where
 lt:∀ x∈a₀.toList,∀ y∈a₀.toList,∀ (E:Value->Shared->Prop) (Q:Bool->Shared->Prop),Q (decide (k x<k y)) s->wpAny (model prog w) A (keyLt' κ x.1 y.1) Q E s
structure TB (κ:SortKind)(a₀:Array Keyed)(st:SortSt):Prop where
 perm:(arrOf st).Perm a₀
 kind:kindOf st=κ
 ok:failedOf st=none
theorem TB.size {κ:SortKind}{a₀:Array Keyed}{st:SortSt}(h:TB κ a₀ st):(arrOf st).size=a₀.size:=h.perm.size_eq
theorem TB.setArr {κ:SortKind}{a₀:Array Keyed}{st:SortSt}(h:TB κ a₀ st){xs:Array Keyed}(hp:xs.Perm (arrOf st)):TB κ a₀ (setArr st xs):=⟨hp.trans h.perm,h.kind,h.ok⟩
theorem TB.mem {κ:SortKind}{a₀:Array Keyed}{st:SortSt}(h:TB κ a₀ st){p:Keyed}(hp:p∈(arrOf st).toList):p∈a₀.toList:=(Array.perm_iff_toList_perm.mp h.perm).mem_iff.mp hp
structure Sam (lo hi:Nat)(st st':SortSt):Prop where
 pend:pendingOf st'=pendingOf st
 out:∀ i,i<lo\/hi<=i->(arrOf st')[i]?=(arrOf st)[i]?
theorem Sam.refl (lo hi:Nat)(st:SortSt):Sam lo hi st st:=⟨rfl,fun _ _=>rfl⟩
theorem Sam.trans {lo hi:Nat}{a b c:SortSt}(h:Sam lo hi a b)(h':Sam lo hi b c):Sam lo hi a c:=⟨h'.pend.trans h.pend,fun i hi=>(h'.out i hi).trans (h.out i hi)⟩
theorem Sam.bubble {lo hi:Nat}{st:SortSt}{src d:Nat}(hs:src<(arrOf st).size)(hd:d<=src)(h1:lo<=src - d)(h2:src<hi):Sam lo hi st (setArr st (bubble (arrOf st) src d)):=⟨rfl,fun i h=>by
 show (PyProof.Rows.bubble (arrOf st) src d)[i]?=_
 rw [getElem?_bubble hs d hd i,if_neg (by omega),if_neg (by omega)]⟩
theorem Sam.mirror {lo hi:Nat}{st:SortSt}{i j:Nat}(hj:j<=(arrOf st).size)(h1:lo<=i)(h2:j<=hi):Sam lo hi st (setArr st (mirror (arrOf st) i j ((j - i) / 2))):=⟨rfl,fun q h=>by
 show (PyProof.Rows.mirror (arrOf st) i j ((j - i) / 2))[q]?=_
 rw [getElem?_mirror_all hj q,if_neg (by omega)]⟩
section
variable {prog:Program}{w:World}{A:Around}{E:Value->Shared->Prop}{s:Shared}{κ:SortKind}{a₀:Array Keyed}{k:Keyed->Int}
theorem J8b {st:SortSt}{x y:Keyed}{Q:Option Bool->SortSt->Prop}(C:Cmp prog w A s κ a₀ k)(hk:kindOf st=κ)(hx:x∈a₀.toList)(hy:y∈a₀.toList)(h:Q (some (decide (k x<k y))) st):wpS (model prog w) A E s (lt' x y) Q st:=by
 rw [lt'_eq]
 refine wpS_bind (wpS_get ?_)
 rw [hk]
 refine wpS_bind (wpS_lift (wpAny_attempt (C.lt x hx y hy _ _ ⟨rfl,?_⟩)))
 exact wpS_pure h
theorem PV {st:SortSt}{arr:Array Keyed}{i:Nat}{Q:Keyed->SortSt->Prop}(hi:i<arr.size)(h:Q arr[i] st):wpS (model prog w) A E s (elem' arr i) Q st:=by
 rw [elem'_eq,getElem?_pos arr i hi]
 exact wpS_pure h
theorem FK {st:SortSt}{i j:Nat}{Q:Option Bool->SortSt->Prop}(C:Cmp prog w A s κ a₀ k)(hB:TB κ a₀ st)(hi:i<a₀.size)(hj:j<a₀.size)
 (h:Q (some (decide (kA k (arrOf st) i<kA k (arrOf st) j))) st):wpS (model prog w) A E s (ltAt' i j) Q st:=by
 have hi':i<(arrOf st).size:=by rw [hB.size];exact hi
 have hj':j<(arrOf st).size:=by rw [hB.size];exact hj
 rw [VM hi',VM hj'] at h
 rw [ltAt'_eq]
 refine wpS_bind (wpS_get ?_)
 exact wpS_bind (PV hi' (wpS_bind (PV hj' (J8b C hB.kind (hB.mem (by simp)) (hB.mem (by simp)) h))))
theorem YW {st:SortSt}{lo n ok:Nat}{Q:Bool->SortSt->Prop}(C:Cmp prog w A s κ a₀ k)(hn:lo+n<=a₀.size)(hok:ok<=n)(hB:TB κ a₀ st)(hs:HZ k (arrOf st) lo ok)
 (h:∀ st',TB κ a₀ st'->Sam lo (lo+n) st st'->HZ k (arrOf st') lo n->Q true st'):wpS (model prog w) A E s (binarySort' lo n ok) Q st:=by
 rw [binarySort'_eq]
 refine wpS_bind (wpS_mono (wpS_forRange (I:=fun q c st'=>c=(none,())/\TB κ a₀ st'/\Sam lo (lo+n) st st'/\HZ k (arrOf st') lo (min q n))
  (Q:=fun c st'=>c=(none,())/\TB κ a₀ st'/\Sam lo (lo+n) st st'/\HZ k (arrOf st') lo n) ?step ?fin ?init) ?post)
 case post =>
  rintro c st' ⟨rfl,tb,d3,so⟩
  exact wpS_pure (h st' tb d3 so)
 case init =>
  refine ⟨rfl,hB,Sam.refl _ _ _,fun i j h0 hij hj=>?_⟩
  by_cases h1:ok=0
  · have:i=j:=by omega
    subst this;exact Int.le_refl _
  · exact hs i j h0 hij (by omega)
 case fin =>
  rintro c st' ⟨hc,tb,d3,so⟩
  refine ⟨hc,tb,d3,?_⟩
  rwa [show min (max (max ok 1) n) n=n by omega] at so
 case step =>
  rintro q c st' hak hqn ⟨rfl,tb,hsm,so⟩
  rw [show min q n=q by omega] at so
  have hq:lo+q<a₀.size:=by omega
  refine wpS_bind (wpS_mono (wpS_forRange (I:=fun x c sx=>sx=st'/\∃ l r,c=(none,l,r)/\l<=r/\r<=q/\r - l<=q - x /\
   (∀ i,i<l->kA k (arrOf st') (lo+i)<=kA k (arrOf st') (lo+q))/\(∀ i,r<=i->i<q->kA k (arrOf st') (lo+q)<kA k (arrOf st') (lo+i)))
   (Q:=fun c sx=>sx=st'/\∃ l r,c=(none,l,r)/\l<=q /\
    (∀ i,i<l->kA k (arrOf st') (lo+i)<=kA k (arrOf st') (lo+q))/\(∀ i,l<=i->i<q->kA k (arrOf st') (lo+q)<kA k (arrOf st') (lo+i))) ?istep ?ifin ?iinit) ?ipost)
  case iinit=>exact ⟨rfl,0,q,rfl,by omega,by omega,by omega,fun i hi=>by omega,fun i h1 h2=>by omega⟩
  case ifin =>
   rintro c sx ⟨rfl,l,r,rfl,d1,d2,d3,d4,d5⟩
   have:l=r:=by omega
   subst this
   exact ⟨rfl,l,l,rfl,d2,d4,d5⟩
  case istep =>
   rintro x c sx _ q1 ⟨rfl,l,r,rfl,d1,d2,d3,d4,d5⟩
   dsimp only
   by_cases cmp:l>=r
   · rw [if_pos cmp]
     have:l=r:=by omega
     subst this
     exact wpS_pure ⟨rfl,l,l,rfl,d2,d4,d5⟩
   · rw [if_neg cmp]
     refine wpS_bind (FK C tb hq (by omega) ?_)
     by_cases les:kA k (arrOf sx) (lo+q)<kA k (arrOf sx) (lo+(l+r) / 2)
     · simp only [les,decide_true,if_true]
       refine wpS_pure ⟨rfl,l,(l+r) / 2,rfl,by omega,by omega,by omega,d4,fun i h1 h2=>?_⟩
       exact Int.lt_of_lt_of_le les (so _ _ (by omega) (by omega) (by omega))
     · simp only [les,decide_false,Bool.false_eq_true,if_false]
       refine wpS_pure ⟨rfl,(l+r) / 2+1,r,rfl,by omega,by omega,by omega,fun i h1=>?_,d5⟩
       exact Int.le_trans (so (lo+i) (lo+(l+r) / 2) (by omega) (by omega) (by omega)) (Int.not_lt.mp les)
  case ipost =>
   rintro c sx ⟨rfl,l,r,rfl,d6,d4,d5⟩
   show wpS _ _ _ _ (do moveDown' (lo+q) (lo+l);pure (ForInStep.yield (none,()))) _ _
   rw [moveDown'_eq]
   have kz:lo+q<(arrOf sx).size:=by rw [tb.size];exact hq
   refine wpS_bind (wpS_modify (wpS_pure ⟨rfl,tb.setArr (bubble_perm _ _ _),hsm.trans (Sam.bubble kz (by omega) (by omega) (by omega)),?_⟩))
   rw [show min (q+1) n=q+1 by omega]
   intro i j h0 hij hj
   show kA k (bubble (arrOf sx) (lo+q) (lo+q - (lo+l))) i<=kA k (bubble (arrOf sx) (lo+q) (lo+q - (lo+l))) j
   have lo':∀ i,lo<=i->i<lo+l->kA k (arrOf sx) i<=kA k (arrOf sx) (lo+q):=fun i h1 h2=>by
    have:=d4 (i - lo) (by omega)
    rwa [show lo+(i - lo)=i by omega] at this
   have hi':∀ i,lo+l<=i->i<lo+q->kA k (arrOf sx) (lo+q)<kA k (arrOf sx) i:=fun i h1 h2=>by
    have:=d5 (i - lo) (by omega) (by omega)
    rwa [show lo+(i - lo)=i by omega] at this
   rw [MR kz (by omega),MR kz (by omega),show lo+q - (lo+q - (lo+l))=lo+l by omega]
   repeat' split
   all_goals first
    | (exfalso;omega)
    | exact Int.le_refl _
    | exact lo' _ (by omega) (by omega)
    | exact Int.le_of_lt (hi' _ (by omega) (by omega))
    | exact so _ _ (by omega) (by omega) (by omega)
end
local macro_rules | `(tactic| walk_at "un gallop") => do let n := Lean.mkIdent (Lean.mkPrivateNameCore `PySem.Builtin.List.W1All `PySem.Builtin.gallop); `(tactic| unfold $n)
local macro_rules | `(tactic| walk_at "un countRun") => do let n := Lean.mkIdent (Lean.mkPrivateNameCore `PySem.Builtin.List.W1All `PySem.Builtin.countRun); `(tactic| unfold $n)
def ZL:Nat->Nat->StateT SortSt Sem (Option Nat):=sortPriv% PySem.Builtin.countRun
section
variable {prog:Program}{w:World}{A:Around}{E:Value->Shared->Prop}{s:Shared}{κ:SortKind}{a₀:Array Keyed}{k:Keyed->Int}
theorem ER {st:SortSt}{i j:Nat}{Q:Unit->SortSt->Prop}(h:Q () (setArr st (mirror (arrOf st) i j ((j - i) / 2)))):wpS (model prog w) A E s (reverseSlice' i j) Q st:=by
 rw [reverseSlice'_eq];exact wpS_modify h
theorem QB {xs:Array Keyed}{lo x:Nat}(h:HZ k xs lo x)(l:¬ kA k xs (lo+x)<kA k xs (lo+x - 1)):HZ k xs lo (x+1):=fun i j h0 hij hj=>by
 by_cases e:j<lo+x
 · exact h i j h0 hij e
 · have ej:j=lo+x:=by omega
   subst ej
   by_cases ei:i=lo+x
   · rw [ei];exact Int.le_refl _
   · exact Int.le_trans (h i (lo+x - 1) h0 (by omega) (by omega)) (Int.not_lt.mp l)
theorem DU {xs:Array Keyed}{lo x:Nat}(h:HD k xs lo x)(l:kA k xs (lo+x)<=kA k xs (lo+x - 1)):HD k xs lo (x+1):=fun i j h0 hij hj=>by
 by_cases e:j<lo+x
 · exact h i j h0 hij e
 · have ej:j=lo+x:=by omega
   subst ej
   by_cases ei:i=lo+x
   · rw [ei];exact Int.le_refl _
   · exact Int.le_trans l (h i (lo+x - 1) h0 (by omega) (by omega))
theorem HW {xs ys:Array Keyed}{lo x:Nat}(h:HD k xs lo x)(e:∀ i,kA k ys i=kA k xs i):HD k ys lo x:=fun i j h0 hij hj=>by
 rw [e,e];exact h i j h0 hij hj
theorem YV {st:SortSt}{lo nrem:Nat}{Q:Option Nat->SortSt->Prop}(C:Cmp prog w A s κ a₀ k)(hn:lo+nrem<=a₀.size)(h1:1<=nrem)(hB:TB κ a₀ st)
 (h:∀ m st',TB κ a₀ st'->Sam lo (lo+nrem) st st'->1<=m->m<=nrem->HZ k (arrOf st') lo m->Q (some m) st'):wpS (model prog w) A E s (ZL lo nrem) Q st:=by
 unfold ZL
 walk_at "un countRun"
 dsimp only
 refine wpS_bind (wpS_mono (wpS_forRange (I:=fun x c st'=>st'=st/\c=(none,x)/\HZ k (arrOf st) lo x)
  (Q:=fun c st'=>st'=st/\∃ x,c=(none,x)/\1<=x/\x<=nrem/\HZ k (arrOf st) lo x/\(x=nrem\/kA k (arrOf st) (lo+x)<kA k (arrOf st) (lo+x - 1))) ?turn ?stop ⟨rfl,rfl,fun i j h0 hij hj=>?_⟩) ?after)
 case stop =>
  rintro c st' ⟨rfl,rfl,b1⟩
  rw [show max 1 nrem=nrem by omega] at b1 ⊢
  exact ⟨rfl,nrem,rfl,h1,Nat.le_refl _,b1,.inl rfl⟩
 case turn =>
  rintro x c st' hx1 hx ⟨rfl,rfl,b1⟩
  dsimp only
  refine wpS_bind (FK C hB (by omega) (by omega) ?_)
  by_cases q:kA k (arrOf st') (lo+x)<kA k (arrOf st') (lo+x - 1)
  · simp only [q,decide_true,if_true]
    exact wpS_pure ⟨rfl,x,rfl,hx1,by omega,b1,.inr q⟩
  · simp only [q,decide_false,Bool.false_eq_true,if_false]
    exact wpS_pure ⟨rfl,rfl,QB b1 q⟩
 · have:i=j:=by omega
   subst this;exact Int.le_refl _
 rintro c st' ⟨rfl,n,rfl,n1,n2,so,up⟩
 dsimp only
 by_cases q:n=nrem
 · rw [if_pos (by simpa using q)]
   exact wpS_pure (h n st' hB (Sam.refl _ _ _) n1 n2 so)
 rw [if_neg (by simpa using q)]
 have lt:=up.resolve_left q
 have facts:n>1\/¬ n>1:=Nat.lt_or_ge 1 n |>.imp id fun z=>by omega
 rcases facts with g1|g1
 case' inl =>
  rw [if_pos g1]
  refine wpS_bind (FK C hB (by omega) (by omega) ?_)
  by_cases r:kA k (arrOf st') lo<kA k (arrOf st') (lo+n - 1)
  · simp only [r,decide_true,if_true]
    exact wpS_pure (h n st' hB (Sam.refl _ _ _) n1 n2 so)
  simp only [r,decide_false,Bool.false_eq_true,if_false]
  have sz:lo+n<=(arrOf st').size:=by rw [hB.size];omega
  have al:∀ i,lo<=i->i<lo+n->kA k (arrOf st') i=kA k (arrOf st') (lo+n - 1):=fun i i1 i2=>by
   have a1:=so lo i (by omega) i1 i2
   have a2:=so i (lo+n - 1) i1 (by omega) (by omega)
   omega
  refine wpS_bind (ER ?_)
  have tb:=hB.setArr (mirror_perm (arrOf st') lo (lo+n) ((lo+n - lo) / 2))
  have sm:Sam lo (lo+nrem) st' _:=Sam.mirror (st:=st') (i:=lo) (j:=lo+n) sz (Nat.le_refl _) (by omega)
  have fl:HD k (mirror (arrOf st') lo (lo+n) ((lo+n - lo) / 2)) lo (n+1):=HW (xs:=arrOf st') (DU (fun i j h0 hij hj=>by rw [al i h0 (by omega),al j (by omega) hj];exact Int.le_refl _) (Int.le_of_lt lt)) (BY sz al)
  generalize hst:setArr st' (mirror (arrOf st') lo (lo+n) ((lo+n - lo) / 2))=st2 at tb sm ⊢
  rw [show mirror (arrOf st') lo (lo+n) ((lo+n - lo) / 2)=arrOf st2 by rw [<- hst]] at fl
  clear hst al
 case' inr =>
  rw [if_neg g1]
  have fl:HD k (arrOf st') lo (n+1):=DU (fun i j h0 hij hj=>by
   have:i=j:=by omega
   subst this;exact Int.le_refl _) (Int.le_of_lt lt)
  obtain ⟨st2,hst⟩:∃ z,z=st':=⟨_,rfl⟩
  have sm:Sam lo (lo+nrem) st' st2:=by rw [hst];exact Sam.refl _ _ _
  have tb:TB κ a₀ st2:=by rw [hst];exact hB
  rw [<- hst] at fl
  rw [<- hst]
  clear hst
 all_goals
  refine wpS_bind (wpS_lift (wpAny_rule ⟨rfl,?_⟩))
  refine wpS_bind (wpS_mono (wpS_forRange (I:=fun x c st'=>∃ u,c=(none,x,u)/\TB κ a₀ st'/\Sam lo (lo+nrem) st2 st'/\HD k (arrOf st') lo x/\u+1<=x/\∀ i,lo+x - (u+1)<=i->i<lo+x->kA k (arrOf st') i=kA k (arrOf st') (lo+x - 1))
   (Q:=fun c st'=>∃ x u,c=(none,x,u)/\n+1<=x/\x<=nrem/\TB κ a₀ st'/\Sam lo (lo+nrem) st2 st'/\HD k (arrOf st') lo x/\u+1<=x/\∀ i,lo+x - (u+1)<=i->i<lo+x->kA k (arrOf st') i=kA k (arrOf st') (lo+x - 1)) ?_ ?_ ⟨0,rfl,tb,Sam.refl _ _ _,fl,by omega,fun i i1 i2=>by congr 1;omega⟩) ?_)
  · rintro x c st3 hx1 hx ⟨u,rfl,b1,b2,b3,b4,b5⟩
    dsimp only
    have sz:lo+x<=(arrOf st3).size:=by rw [b1.size];omega
    refine wpS_bind (FK C b1 (by omega) (by omega) ?_)
    by_cases q:kA k (arrOf st3) (lo+x)<kA k (arrOf st3) (lo+x - 1)
    · simp only [q,decide_true,if_true]
      by_cases z:u>0
      · rw [if_pos z]
        refine wpS_bind (ER (wpS_pure ⟨0,rfl,b1.setArr (mirror_perm _ _ _ _),b2.trans (Sam.mirror sz (by omega) (by omega)),HW (xs:=arrOf st3) (DU b3 (Int.le_of_lt q)) (BY sz b5),by omega,fun i i1 i2=>by congr 1;omega⟩))
      · rw [if_neg z]
        exact wpS_pure ⟨0,rfl,b1,b2,DU b3 (Int.le_of_lt q),by omega,fun i i1 i2=>by congr 1;omega⟩
    · simp only [q,decide_false,Bool.false_eq_true,if_false]
      refine wpS_bind (FK C b1 (by omega) (by omega) ?_)
      by_cases z:kA k (arrOf st3) (lo+x - 1)<kA k (arrOf st3) (lo+x)
      · simp only [z,decide_true,if_true]
        exact wpS_pure ⟨x,u,rfl,hx1,by omega,b1,b2,b3,b4,b5⟩
      · simp only [z,decide_false,Bool.false_eq_true,if_false]
        have eq:kA k (arrOf st3) (lo+x)=kA k (arrOf st3) (lo+x - 1):=by omega
        refine wpS_pure ⟨u+1,rfl,b1,b2,DU b3 (Int.le_of_eq eq),by omega,fun i i1 i2=>?_⟩
        rw [show lo+(x+1) - 1=lo+x by omega]
        by_cases ei:i=lo+x
        · rw [ei]
        · rw [eq];exact b5 i (by omega) (by omega)
  · rintro c st3 ⟨u,rfl,b1,b2,b3,b4,b5⟩
    rw [show max (n+1) nrem=nrem by omega] at b3 b4 b5 ⊢
    exact ⟨nrem,u,rfl,by omega,Nat.le_refl _,b1,b2,b3,b4,b5⟩
  rintro c st3 ⟨m,u,rfl,m1,m2,b1,b2,b3,b4,b5⟩
  dsimp only
  have sz:lo+m<=(arrOf st3).size:=by rw [b1.size];omega
  have fin:∀ st4:SortSt,TB κ a₀ st4->Sam lo (lo+nrem) st3 st4->HD k (arrOf st4) lo m->TB κ a₀ (setArr st4 (mirror (arrOf st4) lo (lo+m) ((lo+m - lo) / 2)))/\Sam lo (lo+nrem) st' (setArr st4 (mirror (arrOf st4) lo (lo+m) ((lo+m - lo) / 2)))/\HZ k (mirror (arrOf st4) lo (lo+m) ((lo+m - lo) / 2)) lo m:=fun st4 c1 c2 c3=>by
   have sz4:lo+m<=(arrOf st4).size:=by rw [c1.size];omega
   refine ⟨c1.setArr (mirror_perm _ _ _ _),(sm.trans (b2.trans c2)).trans (Sam.mirror sz4 (Nat.le_refl _) (by omega)),fun i j h0 hij hj=>?_⟩
   rw [HM sz4,HM sz4,if_pos (by omega),if_pos (by omega)]
   exact c3 _ _ (by omega) (by omega) (by omega)
  have z:u>0\/¬ u>0:=Nat.eq_zero_or_pos u |>.symm.imp id fun z=>by omega
  rcases z with z|z
  case' inl =>
   rw [if_pos z]
   refine wpS_bind (ER ?_)
   refine wpS_bind (ER ?_)
   obtain ⟨d1,d2,d3⟩:=fin _ (b1.setArr (mirror_perm (arrOf st3) (lo+m - (u+1)) (lo+m) ((lo+m - (lo+m - (u+1))) / 2))) (Sam.mirror sz (by omega) (by omega)) (HW b3 (BY sz b5))
  case' inr =>
   rw [if_neg z]
   refine wpS_bind (ER ?_)
   obtain ⟨d1,d2,d3⟩:=fin _ b1 (Sam.refl _ _ _) b3
  all_goals
   refine wpS_bind (wpS_mono (wpS_forRange (I:=fun x c sx=>c=(none,x)/\TB κ a₀ sx/\Sam lo (lo+nrem) st' sx/\HZ k (arrOf sx) lo x) (Q:=fun c sx=>∃ x,c=(none,x)/\1<=x/\x<=nrem/\TB κ a₀ sx/\Sam lo (lo+nrem) st' sx/\HZ k (arrOf sx) lo x) ?_ ?_ ⟨rfl,d1,d2,d3⟩) ?_)
   · rintro x c st5 hx1 hx ⟨rfl,e1,e2,e3⟩
     dsimp only
     refine wpS_bind (FK C e1 (by omega) (by omega) ?_)
     by_cases q:kA k (arrOf st5) (lo+x)<kA k (arrOf st5) (lo+x - 1)
     · simp only [q,decide_true,if_true]
       exact wpS_pure ⟨x,rfl,by omega,by omega,e1,e2,e3⟩
     · simp only [q,decide_false,Bool.false_eq_true,if_false]
       exact wpS_pure ⟨rfl,e1,e2,QB e3 q⟩
   · rintro c st5 ⟨rfl,e1,e2,e3⟩
     rw [show max m nrem=nrem by omega] at e3 ⊢
     exact ⟨nrem,rfl,h1,Nat.le_refl _,e1,e2,e3⟩
   rintro c st5 ⟨x,rfl,x1,x2,e1,e2,e3⟩
   exact wpS_pure (h x _ e1 e2 x1 x2 e3)
end
def SrtA (k:Keyed->Int)(xs:Array Keyed):Prop:=HZ k xs 0 xs.size
theorem SrtA.le {k:Keyed->Int}{xs:Array Keyed}(h:SrtA k xs){i j:Nat}(hij:i<=j)(hj:j<xs.size):kA k xs i<=kA k xs j:=h i j (Nat.zero_le _) hij (by omega)
theorem XO {n:Nat}(h2:2<=n)(h:n<64):minRun' n n 0=n:=by
 obtain ⟨f,rfl⟩:∃ f,n=f+2:=⟨n - 2,by omega⟩
 rw [minRun'_succ,if_pos h]
section
variable {prog:Program}{w:World}{A:Around}{E:Value->Shared->Prop}{s:Shared}{κ:SortKind}{a₀:Array Keyed}{k:Keyed->Int}
theorem WO {st:SortSt}{Q:Unit->SortSt->Prop}(C:Cmp prog w A s κ a₀ k)(hB:TB κ a₀ st)(hp:pendingOf st=#[])(h2:2<=a₀.size)(h128:a₀.size<64)
 (h:∀ st',TB κ a₀ st'->SrtA k (arrOf st')->Q () st'):wpS (model prog w) A E s sortRuns' Q st:=by
 have r1:=XO h2 h128
 rw [sortRuns'_eq]
 refine wpS_bind (wpS_get ?_)
 dsimp only
 rw [hB.size,r1]
 refine wpS_bind (wpS_mono (wpS_forRange
  (I:=fun x c sx=>TB κ a₀ sx/\((x=0/\c=(none,0)/\pendingOf sx=#[])\/(1<=x/\c=(none,a₀.size)/\SrtA k (arrOf sx)/\∃ p,pendingOf sx=#[(0,a₀.size,p)])))
  (Q:=fun c sx=>TB κ a₀ sx/\c=(none,a₀.size)/\SrtA k (arrOf sx)/\∃ p,pendingOf sx=#[(0,a₀.size,p)]) ?_ ?_ ⟨hB,.inl ⟨rfl,rfl,hp⟩⟩) ?_)
 · rintro x c sx _ hx ⟨tb,⟨rfl,rfl,pe⟩|⟨x1,rfl,so,p,pe⟩⟩
   · dsimp only
     rw [if_neg (by omega)]
     simp only [Nat.sub_zero,Nat.zero_add]
     refine wpS_bind (YV C (by omega) (by omega) tb fun m sy tb1 sm m1 m2 so=>?_)
     dsimp only
     have pe1:pendingOf sy=#[]:=sm.pend.trans pe
     by_cases c1:m<a₀.size
     · rw [if_pos c1]
       refine wpS_bind (wpS_lift (wpAny_rule ⟨rfl,?_⟩))
       have em:min a₀.size a₀.size=a₀.size:=Nat.min_self _
       refine wpS_bind (YW C (by omega) (by omega) tb1 so fun sz tb2 sm2 so2=>?_)
       simp only [Bool.not_true,Bool.false_eq_true,if_false]
       refine wpS_bind (wpS_get ?_)
       have pe2:pendingOf sz=#[]:=sm2.pend.trans pe1
       have hb:(pendingOf sz).back?=none:=by rw [pe2];rfl
       rw [hb]
       dsimp only
       rw [em] at so2 ⊢
       exact wpS_bind (wpS_modify (wpS_pure ⟨⟨tb2.perm,tb2.kind,tb2.ok⟩,.inr ⟨Nat.le_refl _,rfl,(fun i j h0 hij hj=>so2 i j h0 hij (by rw [show (arrOf sz).size=a₀.size from tb2.size] at hj;exact hj)),0,by show (pendingOf sz).push _=_;rw [pe2];rfl⟩⟩))
     · rw [if_neg c1]
       have e:m=a₀.size:=by omega
       subst e
       refine wpS_bind (wpS_get ?_)
       have hb:(pendingOf sy).back?=none:=by rw [pe1];rfl
       rw [hb]
       dsimp only
       exact wpS_bind (wpS_modify (wpS_pure ⟨⟨tb1.perm,tb1.kind,tb1.ok⟩,.inr ⟨Nat.le_refl _,rfl,(fun i j h0 hij hj=>so i j h0 hij (by rw [show (arrOf sy).size=a₀.size from tb1.size] at hj;exact hj)),0,by show (pendingOf sy).push _=_;rw [pe1];rfl⟩⟩))
   · dsimp only
     rw [if_pos (Nat.le_refl _)]
     exact wpS_pure ⟨tb,rfl,so,p,pe⟩
 · rintro c sx ⟨tb,⟨h0,_⟩|⟨_,e,so,p,pe⟩⟩
   · omega
   · exact ⟨tb,e,so,p,pe⟩
 rintro c sx ⟨tb,rfl,so,p,pe⟩
 dsimp only
 refine wpS_bind (wpS_mono (wpS_forRange (I:=fun _ c sy=>sy=sx/\c=(none,())) (Q:=fun c sy=>sy=sx/\c=(none,())) ?_ (fun _ _ z=>z) ⟨rfl,rfl⟩) ?_)
 · rintro y c sy _ _ ⟨rfl,rfl⟩
   refine wpS_bind (wpS_get ?_)
   rw [if_pos (by rw [pe];exact Nat.le_refl 1)]
   exact wpS_pure ⟨rfl,rfl⟩
 · rintro c sy ⟨rfl,rfl⟩
   exact wpS_pure (h _ tb so)
end
def AI (p:Int):List Int->Int
 | []=>p
 | a::ns=>AI (p*18446744073709551616+a) ns
def GY:List Int->List Int->Bool
 | a::ns,c::ms=>decide (a<c)||(decide (a=c)&&GY ns ms)
 | _,_=>false
def Z7 (z:Int):Prop:=-1000000000000000000<z/\z<1000000000000000000
theorem VU:∀ (ns ms:List Int) (p q:Int),ns.length=ms.length->(∀ z∈ns,Z7 z)->(∀ z∈ms,Z7 z)->(AI p ns<AI q ms↔p<q\/(p=q/\GY ns ms=true))
 | [],[],p,q,_,_,_=>by
   show p<q↔_
   simp [GY]
 | a::ns,c::ms,p,q,hl,hn,hm=>by
   have h1:=hn a (List.mem_cons_self ..)
   have h2:=hm c (List.mem_cons_self ..)
   have ih:=VU ns ms (p*18446744073709551616+a) (q*18446744073709551616+c) (by simpa using hl) (fun z hz=>hn z (List.mem_cons_of_mem _ hz)) fun z hz=>hm z (List.mem_cons_of_mem _ hz)
   show AI (p*18446744073709551616+a) ns<AI (q*18446744073709551616+c) ms↔_
   rw [ih]
   clear ih hn hm hl
   unfold Z7 at h1 h2
   show _↔p<q\/(p=q/\(decide (a<c)||(decide (a=c)&&GY ns ms))=true)
   simp only [Bool.or_eq_true,Bool.and_eq_true,decide_eq_true_eq]
   cases GY ns ms
   · simp only [Bool.false_eq_true,and_false,or_false]
     rcases Int.lt_trichotomy p q with z|z|z<;>omega
   · simp only [and_true]
     rcases Int.lt_trichotomy p q with z|z|z<;>rcases Int.lt_trichotomy a c with y|y|y<;>omega
theorem RU:∀ (ns ms:List Int) (p q:Int),ns.length=ms.length->(∀ z∈ns,Z7 z)->(∀ z∈ms,Z7 z)->AI p ns=AI q ms->p=q/\ns=ms
 | [],[],p,q,_,_,_,h=>⟨h,rfl⟩
 | a::ns,c::ms,p,q,hl,hn,hm,h=>by
   have h1:=hn a (List.mem_cons_self ..)
   have h2:=hm c (List.mem_cons_self ..)
   obtain ⟨e1,e2⟩:=RU ns ms (p*18446744073709551616+a) (q*18446744073709551616+c) (by simpa using hl) (fun z hz=>hn z (List.mem_cons_of_mem _ hz)) (fun z hz=>hm z (List.mem_cons_of_mem _ hz)) h
   unfold Z7 at h1 h2
   have e3:p=q/\a=c:=by rcases Int.lt_trichotomy p q with z|z|z<;>omega
   exact ⟨e3.1,by rw [e3.2,e2]⟩
structure TupZ (h:Heap)(v:Value)(ns:List Int):Prop where
 ex:∃ a o xs n,v=.ref a/\h.get? a=some o/\o.cls=.type "tuple"/\o.data=.seq xs n/\IntsAre xs.toList ns
section
variable {prog:Program}{w:World}{A:Around}{E:Value->Shared->Prop}{s:Shared}
theorem XH {b:Bool}{x y:Int}{t u:Tok}{Q:Bool->Shared->Prop}(h:Q (decide (x<y)) s):wpAny (model prog w) A (oneLt' b (.int x t) (.int y u)) Q E s:=by
 cases b
 · refine PySem.W.kat_one _ _ ?_
   exact CmpOf.ints_lt (prog:=prog) (w:=w) (A:=A) (P:=fun i v=>∃ t,v=.int (if i=0 then x else y) t) (fun i=>if i=0 then x else y) (fun i v h=>h) 0 1 _ _ _ _ _ ⟨t,rfl⟩ ⟨u,rfl⟩ h
 · exact oneLt_int h
theorem IB {b:Bool}{Q:Bool->Shared->Prop}:∀ {xs ys:List Value} {ns ms:List Int} (i:Nat),IntsAre xs ns->IntsAre ys ms->ns.length=ms.length->Q (GY ns ms) s->PySem.W.KatLex prog w A b false Q (xs.zip ys) i s
 | _,_,_,_,i,.nil,.nil,_,h=>PySem.W.kat_nil h
 | _,_,_,_,i,.cons a t hx,.cons c u hy,hl,h=>by
   rw [List.zip_cons_cons]
   refine PySem.W.kat_cons (wpAny_eqBool_int ?_)
   unfold GY at h
   by_cases e:a=c
   · subst e
     rw [show (a==a)=true by simp]
     refine PySem.W.kat_yes (IB (i+1) hx hy (by simpa using hl) ?_)
     simpa using h
   · rw [show (a==c)=false by simpa using e]
     refine PySem.W.kat_no (XH ?_)
     have:decide (a=c)=false:=by simpa using e
     rw [this] at h
     simpa using h
theorem RQ {vs:List Value}{ns:List Int}(h:IntsAre vs ns):vs.length=ns.length:=by
 induction h with
 | nil=>rfl
 | cons n t _ ih=>simp [ih]
theorem J5k {b:Bool}{x y:Value}{ns ms:List Int}{Q:Bool->Shared->Prop}(hx:TupZ s.heap x ns)(hy:TupZ s.heap y ms)(hl:ns.length=ms.length)(h:Q (GY ns ms) s):wpAny (model prog w) A (keyLt' (tuples' b) x y) Q E s:=by
 obtain ⟨a,o,xs,n,rfl,g1,c1,d1,i1⟩:=hx
 obtain ⟨a',o',ys,n',rfl,g2,c2,d2,i2⟩:=hy
 refine PySem.W.kat_lt g1 d1 g2 d2 ?_
 have e:decide (xs.size<ys.size)=false:=by
  have z1:=RQ i1
  have z2:=RQ i2
  simp at z1 z2
  simp;omega
 rw [e]
 exact IB 0 i1 i2 hl h
theorem XS {vs:List Value}{rows:Value->List Int}{Q:SortKind->Shared->Prop}(ht:∀ v∈vs,TupZ s.heap v (rows v))(hp:∀ v∈vs,rows v≠[])(hne:0<vs.length)(h:Q (tuples' true) s):wpAny (model prog w) A (keyKind' vs.toArray) Q E s:=by
 have mk:∀ vs:List Value,(∀ v∈vs,TupZ s.heap v (rows v))->(∀ v∈vs,rows v≠[])->∃ fs,PySem.W.KatTups s.heap vs fs/\fs.length=vs.length/\∀ v∈fs,∃ n t,v=Value.int n t:=by
  intro vs
  induction vs with
  | nil=>exact fun _ _=>⟨[],PySem.W.KatTups.nil,rfl,by simp⟩
  | cons v vs ih =>
    intro ht hp
    obtain ⟨fs,k1,k2,k3⟩:=ih (fun v hv=>ht v (List.mem_cons_of_mem _ hv)) fun v hv=>hp v (List.mem_cons_of_mem _ hv)
    obtain ⟨a,o,xs,n,e,g1,c1,d1,i1⟩:=(ht v (List.mem_cons_self ..)).ex
    have hr:=hp v (List.mem_cons_self ..)
    generalize rows v=r at hr i1
    generalize hx:xs.toList=l at i1
    cases i1 with
    | nil=>exact absurd rfl hr
    | cons m t i2 =>
      refine ⟨.int m t::fs,?_,by simp [k2],fun v hv=>?_⟩
      · rw [e]
        exact PySem.W.KatTups.cons g1 c1 d1 (by rw [<- Array.getElem?_toList,hx];rfl) k1
      · rcases List.mem_cons.mp hv with rfl|hv
        · exact ⟨m,t,rfl⟩
        · exact k3 v hv
 obtain ⟨fs,k1,k2,k3⟩:=mk vs ht hp
 refine PySem.W.kat_kind (T:=.type "int") k1 (by omega) (fun v hv=>?_) (by decide) ?_
 · obtain ⟨n,t,rfl⟩:=k3 v hv
   exact PySem.W.Looks.of_pure rfl
 · exact h
theorem FC {a:Addr}{vs:List Value}{n m:Nat}{rows:Value->List Int}{P:Fin->Shared->Prop}(gl:s.heap.get? a=some (seqObj "list" vs.toArray n))
 (ht:∀ v∈vs,TupZ s.heap v (rows v)) (hm:∀ v∈vs,(rows v).length=m/\∀ z∈rows v,Z7 z) (m0:0<m) (h64:vs.length<64)
 (h:∀ out:Array Value,out.toList.Perm vs->out.toList.Pairwise (fun x y=>AI 0 (rows x)<=AI 0 (rows y))->P (.done (.ret .none)) { s with heap:=sortedHeap s.heap a vs out }) :
 wpAny (model prog w) A (Builtin.«list.sort» ⟨[.ref a],[]⟩) P E s:=by
 rw [list_sort_plain]
 have al:a<s.heap.objs.size:=Heap.lt_size gl
 refine wpAny_bind (listItems_at gl rfl ?_)
 refine wpAny_bind (listUpdate_at gl rfl ?_)
 obtain ⟨ep1,gl1⟩:∃ ep1,(s.heap.update a (Obj.mapSeq fun _=>#[])).get? a=some (seqObj "list" #[] ep1):=⟨_,get?_update_seq gl (fun _=>#[])⟩
 refine wpAny_bind (seqEpoch_at gl1 rfl ?_)
 refine wpAny_bind (wpAny_newTuple ?_)
 refine wpAny_bind (wpAny_newList ?_)
 refine wpAny_holding ?_
 have keep:∀ b o,b≠a->s.heap.get? b=some o->(((s.heap.update a (Obj.mapSeq fun _=>#[])).push (seqObj "tuple" vs.toArray 0)).push (seqObj "list" #[] 0)).get? b=some o:=fun b o hb g=>by
  refine Heap.get?_push_of_some _ (Heap.get?_push_of_some _ ?_)
  rw [Heap.get?_update_ne _ _ _ _ hb]
  exact g
 have gl6:(((s.heap.update a (Obj.mapSeq fun _=>#[])).push (seqObj "tuple" vs.toArray 0)).push (seqObj "list" #[] 0)).get? a=some (seqObj "list" #[] ep1):=Heap.get?_push_of_some _ (Heap.get?_push_of_some _ gl1)
 have ht6:∀ v∈vs,TupZ (((s.heap.update a (Obj.mapSeq fun _=>#[])).push (seqObj "tuple" vs.toArray 0)).push (seqObj "list" #[] 0)) v (rows v):=fun v hv=>by
  obtain ⟨b,o,xs,n',e,g1,c1,d1,i1⟩:=ht v hv
  refine ⟨b,o,xs,n',e,keep b o (fun z=>?_) g1,c1,d1,i1⟩
  rw [z,gl] at g1
  cases g1
  exact absurd c1 (by simp [seqObj])
 show wpAny (model prog w) A _ P E { s with heap:=((s.heap.update a (Obj.mapSeq fun _=>#[])).push (seqObj "tuple" vs.toArray 0)).push (seqObj "list" #[] 0) }
 dsimp only
 have sz0:vs.toArray.size=vs.length:=by simp
 have fin:∀ xs:Array Keyed,xs.Perm (pairsOf vs)->SrtA (fun p=>AI 0 (rows p.1)) xs->P (.done (.ret .none)) { s with heap:=sortedHeap s.heap a vs (xs.map (·.2)) }:=fun xs hp hs=>by
  have zl:xs.toList.Perm (vs.zip vs):=by rw [<- pairsOf_toList];exact Array.perm_iff_toList_perm.mp hp
  have both:∀ p,p∈xs.toList->p.1=p.2:=fun p hp'=>(mem_zip_self (zl.mem_iff.mp hp')).1
  have e:(xs.map (·.2)).toList=xs.toList.map (·.1):=by
   rw [Array.toList_map];exact List.map_congr_left fun p hp'=>(both p hp').symm
  refine h _ ?_ ?_
  · rw [e]
    have:=zl.map Prod.fst
    rwa [List.map_fst_zip (Nat.le_refl _)] at this
  · rw [e,List.pairwise_iff_getElem]
    intro i j hi hj hij
    have ib:i<xs.size:=by simpa using hi
    have jb:j<xs.size:=by simpa using hj
    have q:=hs.le (Nat.le_of_lt hij) jb
    rw [VM ib,VM jb] at q
    simpa using q
 by_cases h2:vs.toArray.size<2
 · rw [if_pos h2,if_pos h2]
   refine wpAny_bind (wpAny_pure ?_)
   rw [StateT.run_pure]
   refine wpAny_bind (wpAny_pure ?_)
   dsimp only
   refine wpAny_bind (seqEpoch_at gl6 rfl ?_)
   refine wpAny_bind (listUpdate_at gl6 rfl ?_ (hsz2:=by rw [Array.size_map];show (pairsOf vs).size<=_;rw [pairsOf_size,sizeLine_eq];omega))
   simp only [bne_self_eq_false,Bool.false_eq_true,if_false]
   refine wpAny_pure (fin (vs.toArray.zip vs.toArray) (Array.Perm.refl _) ?_)
   intro i j _ hij hj
   have z:(vs.toArray.zip vs.toArray).size=vs.length:=pairsOf_size vs
   have:i=j:=by omega
   subst this;exact Int.le_refl _
 · rw [if_neg h2,if_neg h2]
   refine wpAny_bind (XS ht6 (fun v hv (z:rows v=[])=>by have:=(hm v hv).1;rw [z] at this;simp at this;omega) (by omega) ?_)
   have C:Cmp prog w A { s with heap:=((s.heap.update a (Obj.mapSeq fun _=>#[])).push (seqObj "tuple" vs.toArray 0)).push (seqObj "list" #[] 0) } (tuples' true) (pairsOf vs) (fun p=>AI 0 (rows p.1)):=⟨fun x hx y hy E' Q q=>by
    rw [pairsOf_toList] at hx hy
    have mx:=(mem_zip_self hx).2
    have my:=(mem_zip_self hy).2
    refine J5k (ht6 _ mx) (ht6 _ my) (by rw [(hm _ mx).1,(hm _ my).1]) ?_
    have:=VU (rows x.1) (rows y.1) 0 0 (by rw [(hm _ mx).1,(hm _ my).1]) (hm _ mx).2 (hm _ my).2
    have e:GY (rows x.1) (rows y.1)=decide (AI 0 (rows x.1)<AI 0 (rows y.1)):=by
     rw [Bool.eq_iff_iff,decide_eq_true_eq,this]
     simp
    rw [e]
    exact q⟩
   have zp:(pairsOf vs).size=vs.length:=pairsOf_size vs
   refine wpAny_bind (wpAny_mono (WO (E:=E) (a₀:=pairsOf vs) (st:=SortSt.mk' (tuples' true) (vs.toArray.zip vs.toArray) #[] 7 none)
    (Q:=fun _ st'=>TB (tuples' true) (pairsOf vs) st'/\SrtA (fun p=>AI 0 (rows p.1)) (arrOf st')) C ⟨Array.Perm.refl _,rfl,rfl⟩ rfl (by omega) (by omega) fun st' a1 a2=>⟨a1,a2⟩) ?_ fun _ _ e=>e)
   rintro ⟨⟨⟩,st'⟩ s' ⟨rfl,tb,hs⟩
   dsimp only
   refine wpAny_bind (seqEpoch_at gl6 rfl ?_)
   refine wpAny_bind (listUpdate_at gl6 rfl ?_ (hsz2:=by refine Nat.le_trans (Nat.le_of_eq ((Array.size_map ..).trans (tb.size.trans (pairsOf_size _)))) ?_;rw [sizeLine_eq];omega))
   rw [tb.ok]
   simp only [bne_self_eq_false,Bool.false_eq_true,if_false]
   exact wpAny_pure (fin (arrOf st') tb.perm hs)
end
section
variable {prog:Program}{w:World}{A:Around}{E:Value->Shared->Prop}{s:Shared}
theorem RW {it l:Addr}{items:Array Value}(hne:l≠it):∀ (n i:Nat) (s:Shared) (Q:List Value->Shared->Prop),s.heap.IsListIter it l i->s.heap.IsList l items->i+n<=items.size ->
 (∀ h',h'.IsListIter it l (i+n)->Heap.SameBut it s.heap h'->Q ((items.toList.drop i).take n) { s with heap:=h' })->wpAny (model prog w) A (draw (.ref it) n) Q E s
 | 0,i,s,Q,hit,_,_,hQ=>by
   show wpAny _ _ (pure []) Q E s;exact wpAny_pure (by simpa using hQ s.heap hit (Heap.SameBut.refl ..))
 | n+1,i,s,Q,hit,ht,hle,hQ=>by
   have hlt:i<items.size:=by omega
   show wpAny _ _ (pyNext (.ref it) >>= _) Q E s;refine wpAny_bind (wpAny_pyNext_list_item hit ht (x:=items[i]) (by simp [hlt]) fun h₁ hit₁ hs₁=>?_)
   have ht1:h₁.IsList l items:=by
    obtain ⟨o,e,r⟩:=ht
    exact ⟨o,(hs₁.2 l hne).trans e,r⟩
   refine wpAny_bind (wpAny_holding (RW hne n (i+1) _ _ hit₁ ht1 (by omega) fun h₂ hit₂ hs₂=>wpAny_pure ?_))
   have hd:items.toList.drop i=items[i]::items.toList.drop (i+1):=by simp [List.drop_eq_getElem_cons,hlt]
   have:=hQ h₂ (by rw [show i+(n+1)=i+1+n by omega];exact hit₂) (hs₁.trans hs₂)
   rw [hd,List.take_succ_cons] at this
   exact this
theorem IH {l:Addr}{items:Array Value}{Q:List Value->Shared->Prop}(hh:A.handled=none)(ht:s.heap.IsList l items)
 (hQ:∀ h',Heap.ExtBut s.heap.objs.size s.heap h'->Q items.toList { s with heap:=h' }):wpAny (model prog w) A (unpackItems (.ref l) items.size none) Q E s:=by
 have hlt:l≠s.heap.objs.size:=by obtain ⟨o,ho,_⟩:=ht;exact Nat.ne_of_lt (Heap.lt_size ho)
 have ty:s.TypeIs (.ref l) "list":=by obtain ⟨o,ho,hc,_⟩:=ht;exact ⟨o,ho,hc⟩
 unfold unpackItems;refine wpAny_bind ?_
 unfold notIterableAtAll;refine wpAny_bind (wpAny_specialOf ty slot_list_iter.lookup ?_)
 refine wpAny_pure ?_;simp only [Bool.false_eq_true,if_false]
 refine wpAny_bind (wpAny_holding (wpAny_pyIter_list ht ?_))
 have hp:∀ ob:Obj,(s.heap.push ob).IsList l items:=fun ob=>by
  obtain ⟨o,e,r⟩:=ht
  exact ⟨o,Heap.get?_push_of_some _ e,r⟩
 refine wpAny_bind (wpAny_holding (RW hlt items.size 0 _ _ ⟨_,Heap.get?_push_size _ rfl,rfl,rfl⟩ (hp _) (by omega) fun h₁ hit₁ hs₁=>?_))
 have hall:List.take items.size (List.drop 0 items.toList)=items.toList:=by rw [List.drop_zero];exact List.take_of_length_le (by simp)
 rw [hall,if_neg (by simp)]
 have ht₁:h₁.IsList l items:=by
  obtain ⟨o,e,r⟩:=ht
  exact ⟨o,(hs₁.2 l hlt).trans (Heap.get?_push_of_some _ e),r⟩
 refine wpAny_bind (wpAny_holding (wpAny_pyNext_list_end hh hit₁ ht₁ (by simp) fun h₂ he₂=>?_))
 simp only [Option.isSome_none,Bool.false_eq_true,if_false]
 refine wpAny_pure (hQ h₂ fun b o hb e=>he₂ b o hb (hs₁.extBut b o hb (Heap.get?_push_of_some _ e)))
end
section
variable {X:Cx}
noncomputable def Q3z (K:Fg)(n:Nat)(t:TGs):TG:=fun v σ H Q=>∃ a xs,v=.ref a/\SqL K H a xs/\xs.length=n/\t xs σ H Q
theorem CJ {es:List Expr}{k:Nat}{t:TGs}{n:Nat}{pos:Pos}(K:Fg)(hK:X.K=K)(hc:X.calm=true)(h:PGs X es t)(hn:(assignEach es X.env).length=n:=by rfl)(hst:(assignEach es X.env).findIdx? (·.1)=none:=by rfl):PG X (.Tuple es k pos) (Q3z K n t):=by
 subst hK
 intro pins s σ H v u Q I r hw
 obtain ⟨a,xs,e1,hq,hl,hw⟩:=hw
 subst e1
 cases r
 obtain ⟨its,rv,p,hz⟩:=I.list hq
 have hl':its.toArray.size=n:=by simp [<- hl,rv.length]
 rw [assign_Tuple];refine wpAny_bind (wpAny_standAt ?_)
 unfold unpack;rw [hn,hst,<- hl']
 refine wpAny_bind (wpAny_holding (IH (I.ok.hd hc) p.isList fun h' hx=>?_))
 have I1:Inv X pins σ H { s with heap:=h' }:=I.kept (t':=s.toks) fun b o e=>hx b o (Nat.ne_of_lt (Heap.lt_size e)) e
 exact h pins _ σ H xs _ Q I1 (by simpa using rv) hw
end
structure Frg where
 ads:List Addr
 R:(Addr->Prop)->Hp->V->Prop
 keep:∀ M H H' v,(∀ c o,(¬ M c\/c∈ads)->H c=some o->H' c=some o)->R M H v->R M H' v
 avoid:∀ M M' H v,(∀ c,M' c->M c\/H c=none)->R M H v->R M' H v
 ref:∀ M H v,R M H v->∃ a,v=.ref a
 nt:∀ M H v,R M H v->∀ c∈ads,∃ o,H c=some o/\∀ vs,o≠.tup vs
abbrev Tg:=List (List Int×Addr×Value)×Nat
inductive D where
 | non|bl (b:Bool)|int (i:Int)|str (x:Str)|ty (n:String)|adr (a:Addr)
 | tup (xs:List D)|lst (xs:List D)|own (xs:List D)|bag|scr (ns:List Int)|dct (t:Tg) (ks:List (List Int)) (xs:List D)|frg (f:Frg) (d:D)
structure BagT where
 ok:Addr->Hp->Prop
 st:∀ p H H',ok p H->(∀ o,H p=some o->H' p=some o)->ok p H'
 dm:∀ p H,ok p H->∃ o,H p=some o
def KTp (K:Fg)(a:Addr)(xs:List V):Prop:=∃ (o:Obj) (its:Array Value) (n:Nat),K.lookup a=some o/\o.cls=.type "tuple"/\o.data=.seq its n/\its.size<=sizeLine/\Vals xs its.toList
def TpA (K:Fg)(M:Addr->Prop)(H:Hp)(a:Addr)(vs:List V):Prop:=(¬ M a/\H a=some (.tup vs))\/KTp K a vs
theorem TpA.sq {H:Hp}{a:Addr}{vs:List V}(h:TpA K M H a vs):SqT K H a vs:=h.elim (fun z=>.inl (.inl z.2)) .inr
theorem TpA.keep {H H':Hp}{a:Addr}{vs:List V}(k:∀ b o,¬ M b->H b=some o->H' b=some o)(h:TpA K M H a vs):TpA K M H' a vs:=h.imp (fun z=>⟨z.1,k _ _ z.1 z.2⟩) id
theorem TpA.avoid {M M':Addr->Prop}{H:Hp}{a:Addr}{vs:List V}(k:∀ b,M' b->M b\/H b=none)(h:TpA K M H a vs):TpA K M' H a vs:=by
 refine h.imp (fun z=>⟨fun m=>?_,z.2⟩) id
 rcases k a m with n|n
 · exact z.1 n
 · rw [n] at z;cases z.2
def KL (K:Fg)(a:Addr)(xs:List V):Prop:=∃ (o:Obj) (its:Array Value) (n:Nat),K.lookup a=some o/\o.cls=.type "list"/\o.dict=none/\o.data=.seq its n/\its.size<=sizeLine/\Vals xs its.toList
def tkH (ns:List Int):Int:=reduceHash (Builtin.Tuple.tupleHashOf (ns.map hashInt))
noncomputable def Q1m (x:List Int×Addr×Value):DictEntry:=⟨tkH x.1,.ref x.2.1,x.2.2⟩
def DOb (a:Addr)(es:List (List Int×Addr×Value))(ep:Nat):HO:=.ext fun h=>((a==sysModules)=false/\es.length<=sizeLine/\(es.map (·.1)).Nodup)/\∃ (o:Obj) (ds:Array DictEntry),h.get? a=some o/\o.ExactDict/\o.data=.dict ds ep/\ds.toList=es.map Q1m
def DctE (K:Fg)(M:Addr->Prop)(H:Hp)(es:List (List Int×Addr×Value))(ks:List (List Int))(vs:List V):Prop:=es.map (·.1)=ks/\(∀ e∈es,TpA K M H e.2.1 (e.1.map V.int))/\Vals vs (es.map (·.2.2))
theorem DctE.keep {H H':Hp}{es:List (List Int×Addr×Value)}{ks:List (List Int)}{vs:List V}(k:∀ b o,¬ M b->H b=some o->H' b=some o)(h:DctE K M H es ks vs):DctE K M H' es ks vs:=⟨h.1,fun e m=>(h.2.1 e m).keep k,h.2.2⟩
theorem DctE.avoid {M M':Addr->Prop}{H:Hp}{es:List (List Int×Addr×Value)}{ks:List (List Int)}{vs:List V}(k:∀ b,M' b->M b\/H b=none)(h:DctE K M H es ks vs):DctE K M' H es ks vs:=⟨h.1,fun e m=>(h.2.1 e m).avoid k,h.2.2⟩
mutual
def Rep (K:Fg)(M:Addr->Prop)(H:Hp):D->V->Prop
 | .non,v=>v=.non
 | .bl b,v=>v=.bl b
 | .int i,v=>v=.int i
 | .str x,v=>v=.str x
 | .ty n,v=>v=.ty n
 | .adr a,v=>v=.ref a
 | .tup xs,v=>∃ a vs,v=.ref a/\TpA K M H a vs/\Reps K M H xs vs
 | .lst xs,v=>∃ a vs,v=.ref a/\(¬ M a/\H a=some (.lst vs))/\Reps K M H xs vs
 | .own _,_=>False
 | .bag,_=>False
 | .frg _ _,_=>False
 | .scr ns,v=>∃ a,v=.ref a/\((¬ M a/\Rd H a (.lst (ns.map V.int)))\/KL K a (ns.map V.int))
 | .dct t ks xs,v=>∃ (a:Addr) (vs:List V),v=.ref a/\(¬ M a/\H a=some (DOb a t.1 t.2)/\DctE K M H t.1 ks vs)/\Reps K M H xs vs
def Reps (K:Fg)(M:Addr->Prop)(H:Hp):List D->List V->Prop
 | [],vs=>vs=[]
 | d::ds,vs=>∃ v r,vs=v::r/\Rep K M H d v/\Reps K M H ds r
end
theorem Rd.keep {H H':Hp}{a:Addr}{u:HO}(k:∀ o,H a=some o->H' a=some o)(h:Rd H a u):Rd H' a u:=by
 rcases h with h|⟨o,h⟩
 · exact .inl (k _ h)
 · exact .inr ⟨o,k _ h⟩
theorem Rd.some {H:Hp}{a:Addr}{u:HO}(h:Rd H a u):H a≠none:=by
 rcases h with h|⟨o,h⟩<;>rw [h]<;>simp
section
variable {K:Fg}{M M':Addr->Prop}{H H':Hp}
mutual
theorem Rep.keep (k:∀ b o,¬ M b->H b=some o->H' b=some o):∀ (d:D) (v:V),Rep K M H d v->Rep K M H' d v
 | .non,_,h=>h
 | .bl _,_,h=>h
 | .int _,_,h=>h
 | .str _,_,h=>h
 | .ty _,_,h=>h
 | .adr _,_,h=>h
 | .tup xs,v,h=>by
   obtain ⟨a,vs,e,z,r⟩:=h
   exact ⟨a,vs,e,z.keep k,Reps.keep k xs vs r⟩
 | .lst xs,v,h=>by
   obtain ⟨a,vs,e,z,r⟩:=h
   exact ⟨a,vs,e,⟨z.1,k _ _ z.1 z.2⟩,Reps.keep k xs vs r⟩
 | .own _,_,h=>h
 | .bag,_,h=>h
 | .frg _ _,_,h=>h
 | .scr ns,v,h=>by
   obtain ⟨a,e,z⟩:=h
   exact ⟨a,e,z.imp (fun q=>⟨q.1,q.2.keep fun o=>k a o q.1⟩) id⟩
 | .dct t ks xs,v,h=>by
   obtain ⟨a,vs,e,z,r⟩:=h
   exact ⟨a,vs,e,⟨z.1,k _ _ z.1 z.2.1,z.2.2.keep k⟩,Reps.keep k xs _ r⟩
theorem Reps.keep (k:∀ b o,¬ M b->H b=some o->H' b=some o):∀ (ds:List D) (vs:List V),Reps K M H ds vs->Reps K M H' ds vs
 | [],_,h=>h
 | d::ds,vs,h=>by
   obtain ⟨v,r,e,h1,h2⟩:=h
   exact ⟨v,r,e,Rep.keep k d v h1,Reps.keep k ds r h2⟩
end
mutual
theorem Rep.avoid (k:∀ b,M' b->M b\/H b=none):∀ (d:D) (v:V),Rep K M H d v->Rep K M' H d v
 | .non,_,h=>h
 | .bl _,_,h=>h
 | .int _,_,h=>h
 | .str _,_,h=>h
 | .ty _,_,h=>h
 | .adr _,_,h=>h
 | .tup xs,v,h=>by
   obtain ⟨a,vs,e,z,r⟩:=h
   exact ⟨a,vs,e,z.avoid k,Reps.avoid k xs vs r⟩
 | .lst xs,v,h=>by
   obtain ⟨a,vs,e,z,r⟩:=h
   refine ⟨a,vs,e,⟨fun m=>?_,z.2⟩,Reps.avoid k xs vs r⟩
   rcases k a m with n|n
   · exact z.1 n
   · rw [n] at z;cases z.2
 | .own _,_,h=>h
 | .bag,_,h=>h
 | .frg _ _,_,h=>h
 | .scr ns,v,h=>by
   obtain ⟨a,e,z⟩:=h
   refine ⟨a,e,z.imp (fun q=>⟨fun m=>?_,q.2⟩) id⟩
   rcases k a m with n|n
   · exact q.1 n
   · exact q.2.some n
 | .dct t ks xs,v,h=>by
   obtain ⟨a,vs,e,z,r⟩:=h
   refine ⟨a,vs,e,⟨fun m=>?_,z.2.1,z.2.2.avoid k⟩,Reps.avoid k xs _ r⟩
   rcases k a m with n|n
   · exact z.1 n
   · rw [n] at z;cases z.2.1
theorem Reps.avoid (k:∀ b,M' b->M b\/H b=none):∀ (ds:List D) (vs:List V),Reps K M H ds vs->Reps K M' H ds vs
 | [],_,h=>h
 | d::ds,vs,h=>by
   obtain ⟨v,r,e,h1,h2⟩:=h
   exact ⟨v,r,e,Rep.avoid k d v h1,Reps.avoid k ds r h2⟩
end
end
abbrev Ev:=List (Option D)
structure Wd where
 K:Fg
 B:BagT
 H0:Hp
 M0:Addr->Prop
 b0:Option Addr
def okB (B:BagT)(b:Option Addr)(H:Hp):Prop:=∀ p,b=some p->B.ok p H
def Kp (b:Option Addr)(H H':Hp):Prop:=∀ c o,b≠some c->H c=some o->H' c=some o
theorem Kp.refl (b:Option Addr)(H:Hp):Kp b H H:=fun _ _ _ h=>h
theorem Kp.trans {H H1 H2:Hp}(x:Kp b H H1)(y:Kp b H1 H2):Kp b H H2:=fun c o n h=>y c o n (x c o n h)
theorem Kp.upd {H:Hp}{p:Addr}{o:HO}(h:H p=none):Kp b H (upd H p o):=fun c u _ e=>Same.upd h c u e
theorem Kp.same {H H':Hp}(h:Same H H'):Kp b H H':=fun c o _ e=>h c o e
def RepX (W:Wd)(M:Addr->Prop)(b:Option Addr)(H:Hp):D->V->Prop
 | .own xs,v=>∃ a vs,v=.ref a/\M a/\b≠some a/\W.H0 a=none/\¬ W.M0 a/\H a=some (.lst vs)/\Reps W.K M H xs vs
 | .bag,v=>∃ p,b=some p/\v=.ref p
 | .frg f d,v=>(∀ c∈f.ads,M c/\b≠some c/\W.H0 c=none/\¬ W.M0 c)/\f.R M H v/\Rep W.K (fun c=>M c/\c∉f.ads) H d v
 | d,v=>Rep W.K M H d v
def plain:D->Bool
 | .own _=>false
 | .bag=>false
 | .frg _ _=>false
 | _=>true
def OG:D->Bool
 | .own _=>false
 | .frg _ _=>false
 | _=>true
theorem RepX.rep {W:Wd} {H:Hp}{d:D}{v:V}(h:RepX W M b H d v)(p:plain d=true):Rep W.K M H d v:=by
 cases d<;>first|exact h|cases p
theorem Rep.x {W:Wd} {H:Hp}{d:D}{v:V}(h:Rep W.K M H d v):RepX W M b H d v:=by
 cases d<;>first|exact h|exact h.elim
def RepXs (W:Wd)(M:Addr->Prop)(b:Option Addr)(H:Hp):List D->List V->Prop
 | [],vs=>vs=[]
 | d::ds,vs=>∃ v r,vs=v::r/\RepX W M b H d v/\RepXs W M b H ds r
structure Hs (W:Wd)(M:Addr->Prop)(b:Option Addr)(H:Hp):Prop where
 ok:okB W.B b H
 bagM:∀ p,b=some p->M p
 dom:∀ c,M c->∃ o,H c=some o
 m0:∀ c,W.M0 c->M c
theorem RepX.move {W:Wd}{M M':Addr->Prop}{b b':Option Addr}{H H':Hp}{f:Frg}{d:D}{v:V}(h:RepX W M b H (.frg f d) v)(ow:∀ c∈f.ads,M c->b≠some c->M' c/\b'≠some c)(k:∀ c o,(¬ M' c\/c∈f.ads)->H c=some o->H' c=some o)(a:∀ c,M' c->M c\/H c=none):RepX W M' b' H' (.frg f d) v:=by
 refine ⟨fun c m=>?_,f.keep M' H H' v k (f.avoid M M' H v a h.2.1),Rep.keep (fun c o n e=>k c o ?_ e) _ _ (Rep.avoid (fun c m=>(a c m.1).imp (fun z=>⟨z,m.2⟩) id) _ _ h.2.2)⟩
 · obtain ⟨q1,q2,q3,q4⟩:=h.1 c m
   obtain ⟨z1,z2⟩:=ow c m q1 q2
   exact ⟨z1,z2,q3,q4⟩
 · by_cases z:c∈f.ads
   · exact .inr z
   · exact .inl fun m=>n ⟨m,z⟩
theorem RepX.step {W:Wd} {H H':Hp}{d:D}{v:V}(hb:∀ p,b=some p->M p)(k:Kp b H H')(h:RepX W M b H d v):RepX W M b H' d v:=by
 have k':∀ c o,¬ M c->H c=some o->H' c=some o:=fun c o n e=>k c o (fun z=>n (hb c z)) e
 cases d
 case own xs =>
  obtain ⟨a,vs,e,m,n,n0,m0,h1,h2⟩:=h
  exact ⟨a,vs,e,m,n,n0,m0,k _ _ n h1,Reps.keep k' _ _ h2⟩
 case bag=>exact h
 case frg f d=>exact RepX.move h (fun c m m1 n=>⟨m1,n⟩) (fun c o q e=>q.elim (fun n=>k' c o n e) fun m=>k c o (h.1 c m).2.1 e) fun c m=>.inl m
 all_goals exact Rep.keep k' _ _ h
theorem RepXs.reps {W:Wd} {H:Hp}:∀ (ds:List D) (vs:List V),RepXs W M b H ds vs->ds.all plain=true->Reps W.K M H ds vs
 | [],_,h,_=>h
 | d::ds,vs,h,p=>by
   obtain ⟨v,r,e,h1,h2⟩:=h
   simp only [List.all_cons,Bool.and_eq_true] at p
   exact ⟨v,r,e,h1.rep p.1,RepXs.reps ds r h2 p.2⟩
theorem Reps.length {H:Hp}:∀ (ds:List D) (vs:List V),Reps K M H ds vs->vs.length=ds.length
 | [],_,h=>by cases (show _=_ from h);rfl
 | d::ds,vs,h=>by
   obtain ⟨v,r,rfl,h1,h2⟩:=h
   simp [Reps.length ds r h2]
theorem Reps.get {H:Hp}:∀ {ds:List D} {vs:List V} {i:Nat} {d:D},Reps K M H ds vs->ds[i]?=some d->∃ v,vs[i]?=some v/\Rep K M H d v
 | [],_,_,_,h,e=>by simp at e
 | d::ds,vs,0,_,h,e=>by
   obtain ⟨v,r,rfl,h1,h2⟩:=h
   simp at e;subst e
   exact ⟨v,rfl,h1⟩
 | d::ds,vs,i+1,d',h,e=>by
   obtain ⟨v,r,rfl,h1,h2⟩:=h
   obtain ⟨u,e1,e2⟩:=Reps.get (i:=i) h2 (by simpa using e)
   exact ⟨u,by simpa using e1,e2⟩
theorem Reps.at {H:Hp}{ds:List D}{vs:List V}{i:Int}{d:D}(h:Reps K M H ds vs)(e:atI ds i=some d):∃ v,atI vs i=some v/\Rep K M H d v:=by
 unfold atI at *
 rw [h.length]
 cases q:ixN ds.length i with
 | none=>rw [q] at e;cases e
 | some j =>
   rw [q] at e
   exact Reps.get h e
theorem Reps.append {H:Hp}:∀ {ds es:List D} {vs us:List V},Reps K M H ds vs->Reps K M H es us->Reps K M H (ds++es) (vs++us)
 | [],_,_,_,h,h'=>by cases (show _=_ from h);exact h'
 | d::ds,_,_,_,h,h'=>by
   obtain ⟨v,r,rfl,h1,h2⟩:=h
   exact ⟨v,_,rfl,h1,Reps.append h2 h'⟩
theorem Reps.drop {H:Hp}:∀ {ds:List D} {vs:List V} (j:Nat),Reps K M H ds vs->Reps K M H (ds.drop j) (vs.drop j)
 | _,_,0,h=>h
 | [],_,_+1,h=>by cases (show _=_ from h);exact rfl
 | e::ds,_,j+1,h=>by
   obtain ⟨v',r,rfl,h1,h2⟩:=h
   exact Reps.drop j h2
theorem Reps.take {H:Hp}:∀ {ds:List D} {vs:List V} (j:Nat),Reps K M H ds vs->Reps K M H (ds.take j) (vs.take j)
 | _,_,0,h=>rfl
 | [],_,_+1,h=>by cases (show _=_ from h);exact rfl
 | e::ds,_,j+1,h=>by
   obtain ⟨v',r,rfl,h1,h2⟩:=h
   exact ⟨v',_,rfl,h1,Reps.take j h2⟩
def PinR (W:Wd)(M:Addr->Prop)(b:Option Addr)(H:Hp):D->V->Prop
 | .own xs,v=>RepX W M b H (.own xs) v
 | d,v=>Rep W.K M H d v
theorem PinR.x {W:Wd} {H:Hp}{d:D}{v:V}(h:PinR W M b H d v):RepX W M b H d v:=by
 cases d<;>first|exact h|exact h.elim
theorem RepX.pin {W:Wd} {H:Hp}{d:D}{v:V}(h:RepX W M b H d v)(p:plain d=true):PinR W M b H d v:=by
 cases d<;>first|exact h|cases p
theorem PinR.to {W:Wd}{M M':Addr->Prop}{b b':Option Addr}{H H':Hp}{d:D}{v:V}(h:PinR W M b H d v)(rep:∀ d v,Rep W.K M H d v->Rep W.K M' H' d v)(reps:∀ ds vs,Reps W.K M H ds vs->Reps W.K M' H' ds vs)(own:∀ xs a vs,d=.own xs->v=.ref a->M a->b≠some a->H a=some (.lst vs)->M' a/\b'≠some a/\H' a=some (.lst vs)):PinR W M' b' H' d v:=by
 cases d
 case own xs =>
  obtain ⟨a,vs,rfl,m1,m2,m3,m4,hh,r⟩:=h
  obtain ⟨q1,q2,q3⟩:=own xs a vs rfl rfl m1 m2 hh
  exact ⟨a,vs,rfl,q1,q2,m3,m4,q3,reps _ _ r⟩
 case bag=>exact h.elim
 all_goals exact rep _ _ h
def EM:D->V->Addr->Prop
 | .own _,v,c=>v=.ref c
 | .frg f _,_,c=>c∈f.ads
 | _,_,_=>False
def mine:D->Bool
 | .own _=>true
 | .frg _ _=>true
 | _=>false
theorem EM.m {d:D}{v:V}{c:Addr}(h:EM d v c):mine d=true:=by cases d<;>first|rfl|exact h.elim
theorem RepX.mine {W:Wd} {H:Hp}{d:D}{v:V}{c:Addr}(h:RepX W M b H d v)(m:EM d v c):M c/\b≠some c/\W.H0 c=none/\¬ W.M0 c:=by
 cases d
 case own xs =>
  obtain ⟨a,vs,e,m1,n,n0,m0,h1,h2⟩:=h
  cases (e.symm.trans (show v=.ref c from m))
  exact ⟨m1,n,n0,m0⟩
 case frg f d=>exact h.1 c m
 all_goals exact m.elim
structure Sta (W:Wd)(pn:List (D×V))(M:Addr->Prop)(b:Option Addr)(H:Hp)(σ:St)(ρ:Ev):Prop extends Hs W M b H where
 kp:Kp W.b0 W.H0 H
 new:b=W.b0\/(W.b0=none/\∀ p,b=some p->W.H0 p=none)
 env:∀ (i:Nat) d,ρ[i]?=some (some d)->∃ v,σ[i]?=some (some v)/\RepX W M b H d v
 len:ρ.length=σ.length
 pin:∀ q∈pn,PinR W M b H q.1 q.2
theorem Sta.step {W:Wd}{pn:List (D×V)} {H H':Hp}{σ:St}{ρ:Ev}(s:Sta W pn M b H σ ρ)(k:Kp b H H')(o:okB W.B b H'):Sta W pn M b H' σ ρ where
 ok:=o
 bagM:=s.bagM
 dom:=fun c m=>by
  by_cases z:b=some c
  · exact W.B.dm c H' (o c z)
  · obtain ⟨u,e⟩:=s.dom c m
    exact ⟨u,k c u z e⟩
 m0:=s.m0
 kp:=fun c u n e=>by
  refine k c u (fun z=>?_) (s.kp c u n e)
  rcases s.new with q|⟨_,q⟩
  · exact n (q▸z)
  · rw [q c z] at e;cases e
 new:=s.new
 env:=fun i d e=>by
  obtain ⟨v,e1,r⟩:=s.env i d e
  exact ⟨v,e1,r.step s.bagM k⟩
 len:=s.len
 pin:=fun q hq=>(s.pin q hq).to (fun _ _ r=>Rep.keep (fun c o n e=>k c o (fun z=>n (s.bagM c z)) e) _ _ r) (fun _ _ r=>Reps.keep (fun c o n e=>k c o (fun z=>n (s.bagM c z)) e) _ _ r) fun xs a vs _ _ m n hh=>⟨m,n,k _ _ n hh⟩
theorem Hs.new {W:Wd} {H:Hp}(s:Hs W M b H){p:Addr}(h:H p=none):¬ M p:=fun m=>by
 obtain ⟨o,e⟩:=s.dom p m
 rw [h] at e;cases e
theorem Hs.okU {W:Wd} {H:Hp}(s:Hs W M b H){p:Addr}{o:HO}(h:H p=none):okB W.B b (upd H p o):=fun q e=>W.B.st q H _ (s.ok q e) fun u e'=>Same.upd h q u e'
abbrev DE:=Ev->(D->Prop)->Prop
abbrev DT:=Ev->(Bool->Prop)->Prop
abbrev DA:=Ev->(List D->Prop)->Prop
def dn (W:Wd)(d:DE):TE:=fun σ H Q=>∃ pn M b ρ P,Sta W pn M b H σ ρ/\d ρ P/\∀ x v H',P x->RepX W M b H' x v->Kp b H H'->okB W.B b H'->Q v H'
def dnT (W:Wd)(d:DT):TT:=fun σ H Q=>∃ pn M b ρ P,Sta W pn M b H σ ρ/\d ρ P/\∀ x H',P x->Kp b H H'->okB W.B b H'->Q x H'
def dnA (W:Wd)(d:DA):TA:=fun σ H Q=>∃ pn M b ρ P,Sta W pn M b H σ ρ/\d ρ P/\∀ xs vs H',P xs->RepXs W M b H' xs vs->Kp b H H'->okB W.B b H'->Q vs H'
theorem dn.elim {W:Wd}{d:DE}{σ:St}{H:Hp}{Q:VK}{R:Prop}(h:dn W d σ H Q)(f:∀ pn M b ρ P,Sta W pn M b H σ ρ->d ρ P->(∀ x v H',P x->RepX W M b H' x v->Kp b H H'->okB W.B b H'->Q v H')->R):R:=by
 obtain ⟨pn,M,b,ρ,P,st,h,k⟩:=h
 exact f pn M b ρ P st h k
theorem dnT.elim {W:Wd}{d:DT}{σ:St}{H:Hp}{Q:Bool->Hp->Prop}{R:Prop}(h:dnT W d σ H Q)(f:∀ pn M b ρ P,Sta W pn M b H σ ρ->d ρ P->(∀ x H',P x->Kp b H H'->okB W.B b H'->Q x H')->R):R:=by
 obtain ⟨pn,M,b,ρ,P,st,h,k⟩:=h
 exact f pn M b ρ P st h k
theorem dnA.elim {W:Wd}{d:DA}{σ:St}{H:Hp}{Q:List V->Hp->Prop}{R:Prop}(h:dnA W d σ H Q)(f:∀ pn M b ρ P,Sta W pn M b H σ ρ->d ρ P->(∀ xs vs H',P xs->RepXs W M b H' xs vs->Kp b H H'->okB W.B b H'->Q vs H')->R):R:=by
 obtain ⟨pn,M,b,ρ,P,st,h,k⟩:=h
 exact f pn M b ρ P st h k
section
variable {X:Cx}{W:Wd}{e a b c:Expr}{es:List Expr}{pos:Pos}{d da db:DE}{dA:DA}{t:TE}
theorem PE.mono {t':TE}(h:PE X e t)(m:∀ σ H Q,t' σ H Q->t σ H Q):PE X e t':=fun pins s σ H Q I q=>h pins s σ H Q I (m σ H Q q)
theorem PT.mono {t t':TT}(h:PT X e t)(m:∀ σ H Q,t' σ H Q->t σ H Q):PT X e t':=fun pins s σ H Q I q=>h pins s σ H Q I (m σ H Q q)
theorem PA.mono {t t':TA}(h:PA X es t)(m:∀ σ H Q,t' σ H Q->t σ H Q):PA X es t':=fun pos pins s σ H Q I q=>h pos pins s σ H Q I (m σ H Q q)
noncomputable def YH (i:Nat):DE:=fun ρ P=>match ρ[i]? with|some (some d)=>P d|_=>False
theorem dv (i:Nat) {x:Str} {pos:Pos} (hN:X.N[i]?=some x:=by rfl) (hv:Vis X.env.scope x:=by first|exact Or.inl rfl|exact Or.inr (Or.inl rfl)|exact Or.inr (Or.inr rfl)) (hd:(x==("__debug__" : Str))=false:=by decide)
 (hcd:(x==("__classdict__" : Str))=false:=by decide):PE X (.Name x pos) (dn W (YH i)):=(TD hN hv hd hcd).mono fun σ H Q hh=>hh.elim fun pn M b ρ P st h k=>by
 unfold YH at h
 split at h
 case h_1 d e =>
  obtain ⟨v,e1,r⟩:=st.env i d e
  exact ⟨v,e1,k d v H h r (Kp.refl _ _) st.ok⟩
 case h_2=>exact h.elim
noncomputable def dC (d:D):DE:=fun _ P=>P d
theorem Q4g {d:D}{v:V}(h:PE X e (tC v))(hr:∀ M H,Rep W.K M H d v):PE X e (dn W (dC d)):=h.mono fun σ H Q hh=>hh.elim fun pn M b ρ P st h k=>k d v H h (Rep.x (hr M H)) (Kp.refl _ _) st.ok
theorem Q0y {i j pos}:PE X (.Constant (.int i) j pos) (dn W (dC (.int i))):=Q4g Y5 fun _ _=>rfl
theorem Q4h {i j pos}:PE X (.Constant (.bool i) j pos) (dn W (dC (.bl i))):=Q4g Q3f fun _ _=>rfl
def OpD (W:Wd)(r:R2)(o:D->D->(D->Prop)->Prop):Prop:=∀ M b H x y v u P Q,Hs W M b H->RepX W M b H x v->RepX W M b H y u->o x y P->(∀ z w H',P z->RepX W M b H' z w->Kp b H H'->okB W.B b H'->Q w H')->r v u H Q
noncomputable def dOp (o:D->D->(D->Prop)->Prop)(da db:DE):DE:=fun ρ P=>da ρ fun x=>db ρ fun y=>o x y P
theorem UR {r:R2}{o:D->D->(D->Prop)->Prop}(hd:OpD W r o):∀ σ H Q,dn W (dOp o da db) σ H Q->tOp r (dn W da) (dn W db) σ H Q:=by
 intro σ H Q hh
 refine hh.elim fun pn M b ρ P st h k=>?_
 refine ⟨pn,M,b,ρ,_,st,h,fun x v H1 hx rx k1 o1=>?_⟩
 refine ⟨pn,M,b,ρ,_,st.step k1 o1,hx,fun y u H2 hy ry k2 o2=>?_⟩
 exact hd M b H2 x y v u P Q ((st.step k1 o1).step k2 o2).toHs (rx.step st.bagM k2) ry hy fun z w H' hz rz k3 o3=>k z w H' hz rz ((k1.trans k2).trans k3) o3
theorem Q4e {op:Operator}{r:R2}{o:D->D->(D->Prop)->Prop}(ho:OpR X (binaryOp op) r)(hd:OpD W r o)(ha:PE X a (dn W da))(hb:PE X b (dn W db)):PE X (.BinOp a op b pos) (dn W (dOp o da db)):=(BU ho ha hb).mono (UR hd)
theorem Q0z {op:CmpOp}{r:R2}{o:D->D->(D->Prop)->Prop}(ho:OpR X (compareOp op) r)(hd:OpD W r o)(ha:PE X a (dn W da))(hb:PE X b (dn W db))(hm:behindInMarks op b=false):PE X (.Compare a [op] [b] pos) (dn W (dOp o da db)):=(J5a ho ha hb hm).mono (UR hd)
theorem Q4f {r:R2}{o:D->D->(D->Prop)->Prop}(hr:IxR X r)(hd:OpD W r o)(ha:PE X a (dn W da))(hb:PE X b (dn W db))(hs:PK b):PE X (.Subscript a b pos) (dn W (dOp o da db)):=(GV hr ha hb hs).mono (UR hd)
noncomputable def oI (C:Int->Int->Prop)(g:Int->Int->Int):D->D->(D->Prop)->Prop
 | .int i,.int j,P=>C i j/\P (.int (g i j))
 | _,_,_=>False
noncomputable def oI0 (g:Int->Int->Int):D->D->(D->Prop)->Prop
 | .int i,.int j,P=>P (.int (g i j))
 | _,_,_=>False
noncomputable def oB0 (g:Int->Int->Bool):D->D->(D->Prop)->Prop
 | .int i,.int j,P=>P (.bl (g i j))
 | _,_,_=>False
theorem EY {C:Int->Int->Prop}{g:Int->Int->Int}:OpD W (rI C fun i j=>.int (g i j)) (oI C g):=by
 intro M b H x y v u P Q hs rx ry ho k
 cases x<;>first|exact ho.elim|skip
 cases y<;>first|exact ho.elim|skip
 cases (show _=_ from rx)
 cases (show _=_ from ry)
 exact ⟨_,_,rfl,rfl,ho.1,k _ _ H ho.2 (show _=_ from rfl) (Kp.refl _ _) hs.ok⟩
theorem BV {g:Int->Int->Int}:OpD W (rI0 fun i j=>.int (g i j)) (oI0 g):=by
 intro M b H x y v u P Q hs rx ry ho k
 cases x<;>first|exact ho.elim|skip
 cases y<;>first|exact ho.elim|skip
 cases (show _=_ from rx)
 cases (show _=_ from ry)
 exact ⟨_,_,rfl,rfl,k _ _ H ho (show _=_ from rfl) (Kp.refl _ _) hs.ok⟩
theorem J0o {g:Int->Int->Bool}:OpD W (rI0 fun i j=>.bl (g i j)) (oB0 g):=by
 intro M b H x y v u P Q hs rx ry ho k
 cases x<;>first|exact ho.elim|skip
 cases y<;>first|exact ho.elim|skip
 cases (show _=_ from rx)
 cases (show _=_ from ry)
 exact ⟨_,_,rfl,rfl,k _ _ H ho (show _=_ from rfl) (Kp.refl _ _) hs.ok⟩
noncomputable def Q3o (neg:Bool):D->D->(D->Prop)->Prop
 | .int i,.int j,P=>P (.bl (decide (i=j)!=neg))
 | .bl i,.bl j,P=>P (.bl (decide (i=j)!=neg))
 | .str i,.str j,P=>P (.bl (decide (i=j)!=neg))
 | .non,.non,P=>P (.bl (true != neg))
 | .non,.int _,P=>P (.bl (false != neg))
 | .int _,.non,P=>P (.bl (false != neg))
 | .str _,.int _,P=>P (.bl (false != neg))
 | .int _,.str _,P=>P (.bl (false != neg))
 | _,_,_=>False
theorem DJ:OpD W rEq (Q3o false):=by
 intro M b H x y v u P Q hs rx ry ho k
 cases x<;>cases y<;>first|exact ho.elim|skip
 all_goals (cases (show _=_ from rx);cases (show _=_ from ry);refine ⟨rfl,?_⟩;refine k _ _ H ho ?_ (Kp.refl _ _) hs.ok)
 all_goals (show V.bl _=V.bl _;simp)
theorem J9j:OpD W rNe (Q3o true):=by
 intro M b H x y v u P Q hs rx ry ho k
 cases x<;>cases y<;>first|exact ho.elim|skip
 all_goals (cases (show _=_ from rx);cases (show _=_ from ry);refine ⟨rfl,?_⟩;refine k _ _ H ho ?_ (Kp.refl _ _) hs.ok)
 all_goals (show V.bl _=V.bl _;simp)
noncomputable def oIx:D->D->(D->Prop)->Prop
 | .tup xs,.int i,P=>(atI xs i).elim False P
 | .lst xs,.int i,P=>(atI xs i).elim False P
 | .own xs,.int i,P=>(atI xs i).elim False P
 | _,_,_=>False
theorem Q9 (K:Fg)(h:X.K=K):IxR X (fun x y H Q=>J4l K x y H Q\/J4m K x y H Q):=(VO K h).or (BW K h)
theorem V8:OpD W (fun x y H Q=>J4l W.K x y H Q\/J4m W.K x y H Q) oIx:=by
 intro M b H x y v u P Q hs rx ry ho k
 cases x<;>first|exact ho.elim|skip
 all_goals (cases y<;>first|exact ho.elim|skip)
 all_goals cases (show _=_ from ry)
 case tup.int xs i =>
  obtain ⟨a,vs,rfl,hh,r⟩:=rx
  simp only [oIx] at ho
  cases e:atI xs i with
  | none=>rw [e] at ho;exact ho.elim
  | some d =>
    rw [e] at ho
    obtain ⟨w,e1,r1⟩:=r.at e
    exact .inl ⟨a,vs,i,w,rfl,rfl,hh.sq,e1,k d w H ho r1.x (Kp.refl _ _) hs.ok⟩
 case lst.int xs i =>
  obtain ⟨a,vs,rfl,hh,r⟩:=rx
  simp only [oIx] at ho
  cases e:atI xs i with
  | none=>rw [e] at ho;exact ho.elim
  | some d =>
    rw [e] at ho
    obtain ⟨w,e1,r1⟩:=r.at e
    exact .inr ⟨a,vs,i,w,rfl,rfl,SqL.of hh.2,e1,k d w H ho r1.x (Kp.refl _ _) hs.ok⟩
 case own.int xs i =>
  obtain ⟨a,vs,rfl,_,_,_,_,hh,r⟩:=rx
  simp only [oIx] at ho
  cases e:atI xs i with
  | none=>rw [e] at ho;exact ho.elim
  | some d =>
    rw [e] at ho
    obtain ⟨w,e1,r1⟩:=r.at e
    exact .inr ⟨a,vs,i,w,rfl,rfl,SqL.of hh,e1,k d w H ho r1.x (Kp.refl _ _) hs.ok⟩
noncomputable def dUn (o:D->(D->Prop)->Prop)(da:DE):DE:=fun ρ P=>da ρ fun x=>o x P
noncomputable def J9n:D->(D->Prop)->Prop
 | .int i,P=>P (.int (-i))
 | _,_=>False
theorem Q0w (ha:PE X a (dn W da)):PE X (.UnaryOp .USub a pos) (dn W (dUn J9n da)):=(Q3e J8h ha).mono fun σ H Q hh=>hh.elim fun pn M b ρ P st h k=>by
 refine ⟨pn,M,b,ρ,_,st,h,fun x v H1 hx rx k1 o1=>?_⟩
 cases x<;>first|exact hx.elim|skip
 cases (show _=_ from rx)
 exact ⟨_,rfl,k _ _ H1 hx (show _=_ from rfl) k1 o1⟩
inductive IfP (c:Bool)(A B:Prop):Prop
 | t (e:c=true) (h:A):IfP c A B
 | f (e:c=false) (h:B):IfP c A B
theorem IfP.of {c:Bool}{A B:Prop}(h1:c=true->A)(h2:c=false->B):IfP c A B:=by
 cases c
 · exact .f rfl (h2 rfl)
 · exact .t rfl (h1 rfl)
theorem IfP.true_of {A B:Prop}(h:IfP true A B):A:=by
 cases h with
 | t _ h=>exact h
 | f e _=>cases e
theorem IfP.false_of {A B:Prop}(h:IfP false A B):B:=by
 cases h with
 | f _ h=>exact h
 | t e _=>cases e
theorem SJ {A B:Prop}:IfP true A B=A:=propext ⟨IfP.true_of,fun h=>.t rfl h⟩
theorem YQ {A B:Prop}:IfP false A B=B:=propext ⟨IfP.false_of,fun h=>.f rfl h⟩
variable {rest:List Expr}
noncomputable def J2n (da:DE):DT:=fun ρ P=>da ρ fun x=>match x with|.bl k=>P k|_=>False
theorem Q0l {op:CmpOp}{r:R2}{o:D->D->(D->Prop)->Prop}(ho:OpR X (compareOp op) r)(hd:OpD W r o)(ha:PE X a (dn W da))(hb:PE X b (dn W db))(hm:behindInMarks op b=false):PT X (.Compare a [op] [b] pos) (dnT W (J2n (dOp o da db))):=(GU ho ha hb hm).mono fun σ H Q hh=>hh.elim fun pn M b ρ P st h k=>by
 refine UR hd σ H _ ⟨pn,M,b,ρ,_,st,h,fun x v H1 hx rx k1 o1=>?_⟩
 cases x<;>first|exact hx.elim|skip
 case bl c =>
  cases (show _=_ from rx)
  exact ⟨c,rfl,k _ H1 hx k1 o1⟩
noncomputable def Q4k (da:DE):DT:=fun ρ P=>da ρ fun x=>match x with
 | .bl k=>P k
 | .int i=>P (i != 0)
 | .non=>P false
 | .tup xs=>P (!xs.isEmpty)
 | .lst xs=>P (!xs.isEmpty)
 | .own xs=>P (!xs.isEmpty)
 | _=>False
theorem Reps.empty {H:Hp}{ds:List D}{vs:List V}(h:Reps K M H ds vs):(!ds.isEmpty) = !vs.isEmpty:=by
 cases ds with
 | nil=>cases (show _=_ from h);rfl
 | cons d ds=>obtain ⟨v,r,rfl,_⟩:=h;rfl
theorem J2f (hK:X.K=W.K)(ha:PE X a (dn W da))(he:∀ whole,isTrue a X.env whole=(do let v <- whole;standAt a.pos;holding [v] (truthy v))):PT X a (dnT W (Q4k da)):=(XB W.K hK ha he).mono fun σ H Q hh=>hh.elim fun pn M b ρ P st h k=>by
 refine ⟨pn,M,b,ρ,_,st,h,fun x v H1 hx rx k1 o1=>?_⟩
 cases x<;>first|exact hx.elim|skip
 case bl c=>cases (show _=_ from rx);exact ⟨_,rfl,k _ H1 hx k1 o1⟩
 case int c=>cases (show _=_ from rx);exact ⟨_,rfl,k _ H1 hx k1 o1⟩
 case non=>cases (show _=_ from rx);exact ⟨_,rfl,k _ H1 hx k1 o1⟩
 case tup xs=>obtain ⟨a,vs,rfl,hh,r⟩:=rx;exact ⟨_,.inr (.inl ⟨vs,hh.sq,r.empty⟩),k _ H1 hx k1 o1⟩
 case lst xs=>obtain ⟨a,vs,rfl,hh,r⟩:=rx;exact ⟨_,.inl ⟨vs,SqL.of hh.2,r.empty⟩,k _ H1 hx k1 o1⟩
 case own xs=>obtain ⟨a,vs,rfl,_,_,_,_,hh,r⟩:=rx;exact ⟨_,.inl ⟨vs,SqL.of hh,r.empty⟩,k _ H1 hx k1 o1⟩
noncomputable def J2o (t u:DT):DT:=fun ρ P=>t ρ fun c=>IfP c (u ρ P) (P false)
noncomputable def Q1b (t u:DT):DT:=fun ρ P=>t ρ fun c=>IfP c (P true) (u ρ P)
noncomputable def J7p (t:DT):DT:=fun ρ P=>t ρ fun c=>P (!c)
variable {ta tb:DT}
theorem J8f:∀ σ H Q,dnT W (J2o ta tb) σ H Q->Q2s (dnT W ta) (dnT W tb) σ H Q:=by
 intro σ H Q hh
 refine hh.elim fun pn M b ρ P st h k=>?_
 refine ⟨pn,M,b,ρ,_,st,h,fun x H1 hx k1 o1=>?_⟩
 cases hx with
 | t e hx=>rw [if_pos e];exact ⟨pn,M,b,ρ,P,st.step k1 o1,hx,fun x H' hp k2 o2=>k x H' hp (k1.trans k2) o2⟩
 | f e hx=>rw [if_neg (by rw [e];exact Bool.false_ne_true)];exact k _ H1 hx k1 o1
theorem Q2g:∀ σ H Q,dnT W (Q1b ta tb) σ H Q->tOr (dnT W ta) (dnT W tb) σ H Q:=by
 intro σ H Q hh
 refine hh.elim fun pn M b ρ P st h k=>?_
 refine ⟨pn,M,b,ρ,_,st,h,fun x H1 hx k1 o1=>?_⟩
 cases hx with
 | t e hx=>rw [if_pos e];exact k _ H1 hx k1 o1
 | f e hx=>rw [if_neg (by rw [e];exact Bool.false_ne_true)];exact ⟨pn,M,b,ρ,P,st.step k1 o1,hx,fun x H' hp k2 o2=>k x H' hp (k1.trans k2) o2⟩
theorem PW.mono {t t':TT}(h:PW X e t)(m:∀ σ H Q,t' σ H Q->t σ H Q):PW X e t':=fun wh pins s σ H Q I q=>h wh pins s σ H Q I (m σ H Q q)
theorem J6b (ha:PT X a (dnT W ta)):PW X (.BoolOp .And [a] pos) (dnT W ta):=J4n ha
theorem Q0i (ha:PT X a (dnT W ta)):PW X (.BoolOp .Or [a] pos) (dnT W ta):=J8w ha
theorem Q0j (ha:PT X a (dnT W ta))(hb:PW X (.BoolOp .And (b::rest) pos) (dnT W tb)):PW X (.BoolOp .And (a::b::rest) pos) (dnT W (J2o ta tb)):=(J8x ha hb).mono J8f
theorem Q4b (ha:PT X a (dnT W ta))(hb:PW X (.BoolOp .Or (b::rest) pos) (dnT W tb)):PW X (.BoolOp .Or (a::b::rest) pos) (dnT W (Q1b ta tb)):=(Q3d ha hb).mono Q2g
theorem Q0k (ha:PT X a (dnT W ta)):PT X (.UnaryOp .Not a pos) (dnT W (J7p ta)):=(J8y ha).mono fun σ H Q hh=>hh.elim fun pn M b ρ P st h k=>⟨pn,M,b,ρ,_,st,h,fun x H1 hx k1 o1=>k _ H1 hx k1 o1⟩
noncomputable def Q1v:DA:=fun _ P=>P []
noncomputable def J3j (da:DE)(dr:DA):DA:=fun ρ P=>da ρ fun x=>dr ρ fun xs=>P (x::xs)
theorem Q1a:PA X [] (dnA W Q1v):=DI.mono fun σ H Q hh=>hh.elim fun pn M b ρ P st h k=>k [] [] H h rfl (Kp.refl _ _) st.ok
theorem J6n {dr:DA}(ha:PE X e (dn W da))(hr:PA X es (dnA W dr))(hs:starEach (e::es) X.env=(false,eval e X.env)::starEach es X.env:=by rfl):PA X (e::es) (dnA W (J3j da dr)):=(AF ha hr hs).mono fun σ H Q hh=>hh.elim fun pn M b ρ P st h k=>by
 refine ⟨pn,M,b,ρ,_,st,h,fun x v H1 hx rx k1 o1=>?_⟩
 refine ⟨pn,M,b,ρ,_,st.step k1 o1,hx,fun xs vs H2 hy ry k2 o2=>?_⟩
 exact k _ _ H2 hy ⟨v,vs,rfl,rx.step st.bagM k2,ry⟩ (k1.trans k2) o2
def GJ (xs:List D):Bool:=xs.all plain&&decide (xs.length<=1000)
noncomputable def Q4j (dA:DA):DE:=fun ρ P=>dA ρ fun xs=>GJ xs=true/\P (.tup xs)
noncomputable def Q4p (dA:DA):DE:=fun ρ P=>dA ρ fun xs=>GJ xs=true/\P (.lst xs)
theorem GJ.len {xs:List D}(h:GJ xs=true):xs.length<=sizeLine:=by
 unfold GJ at h
 simp only [Bool.and_eq_true,decide_eq_true_eq] at h
 exact Nat.le_trans h.2 AT
theorem GJ.pl {xs:List D}(h:GJ xs=true):xs.all plain=true:=by
 unfold GJ at h
 simp only [Bool.and_eq_true,decide_eq_true_eq] at h
 exact h.1
theorem FP {bg:Option Addr}{H:Hp}{xs:List D}{vs:List V}{p:Addr}(hs:Hs W M bg H)(r:Reps W.K M H xs vs)(h:H p=none):RepX W M bg (upd H p (.tup vs)) (.tup xs) (.ref p) :=
 ⟨p,vs,rfl,.inl ⟨hs.new h,Q6⟩,Reps.keep (fun c o _ e=>Same.upd h c o e) _ _ r⟩
theorem DB {bg:Option Addr}{H:Hp}{xs:List D}{vs:List V}{p:Addr}(hs:Hs W M bg H)(r:Reps W.K M H xs vs)(h:H p=none):RepX W M bg (upd H p (.lst vs)) (.lst xs) (.ref p) :=
 ⟨p,vs,rfl,⟨hs.new h,Q6⟩,Reps.keep (fun c o _ e=>Same.upd h c o e) _ _ r⟩
theorem Q0u {x1}(h:PA X es (dnA W dA)):PE X (.Tuple es x1 pos) (dn W (Q4j dA)):=(TH h).mono fun σ H Q hh=>hh.elim fun pn M b ρ P st h k=>by
 refine ⟨pn,M,b,ρ,_,st,h,fun xs vs H1 hx rx k1 o1=>?_⟩
 have rr:=rx.reps _ _ (GJ.pl hx.1)
 refine ⟨by rw [rr.length];exact GJ.len hx.1,fun p hp=>k _ _ _ hx.2 (FP (st.step k1 o1).toHs rr hp) (k1.trans (Kp.upd hp)) ((st.step k1 o1).okU hp)⟩
theorem Q0x (h:PA X es (dnA W dA)):PE X (.List es pos) (dn W (Q4p dA)):=(TL h).mono fun σ H Q hh=>hh.elim fun pn M b ρ P st h k=>by
 refine ⟨pn,M,b,ρ,_,st,h,fun xs vs H1 hx rx k1 o1=>?_⟩
 have rr:=rx.reps _ _ (GJ.pl hx.1)
 refine ⟨by rw [rr.length];exact GJ.len hx.1,fun p hp=>k _ _ _ hx.2 (DB (st.step k1 o1).toHs rr hp) (k1.trans (Kp.upd hp)) ((st.step k1 o1).okU hp)⟩
end
abbrev DSp:=List D->(D->Prop)->(Addr->Prop)->Prop
def Q1z (K:Fg)(M:Addr->Prop)(b:Option Addr)(H:Hp):D->V->Prop
 | .own _,_=>False
 | .bag,v=>∃ p,b=some p/\v=.ref p
 | d,v=>Rep K M H d v
def RepAs (K:Fg)(M:Addr->Prop)(b:Option Addr)(H:Hp):List D->List V->Prop
 | [],vs=>vs=[]
 | d::ds,vs=>∃ v r,vs=v::r/\Q1z K M b H d v/\RepAs K M b H ds r
def Q4 (K:Fg)(B:BagT)(S:DSp):Sp:=fun vs H Q E=>∃ (M:Addr->Prop) (b:Option Addr) (ds:List D) (P:D->Prop) (Ed:Addr->Prop),S ds P Ed/\RepAs K M b H ds vs/\okB B b H/\(∀ p,b=some p->M p)/\(∀ c,M c->∃ o,H c=some o) /\
 (∀ d v H',P d->Rep K M H' d v->Kp b H H'->okB B b H'->Q v H')/\∀ C H',Ed C->Kp b H H'->okB B b H'->E (.ref C) none H'
theorem RepXs.args {W:Wd} {H:Hp}:∀ (ds:List D) (vs:List V),RepXs W M b H ds vs->ds.all OG=true->RepAs W.K M b H ds vs
 | [],_,h,_=>h
 | d::ds,vs,h,p=>by
   obtain ⟨v,r,e,h1,h2⟩:=h
   simp only [List.all_cons,Bool.and_eq_true] at p
   refine ⟨v,r,e,?_,RepXs.args ds r h2 p.2⟩
   cases d<;>first|exact h1|cases p.1
theorem RepAs.length {H:Hp}:∀ {ds:List D} {vs:List V},RepAs K M b H ds vs->vs.length=ds.length
 | [],_,h=>by cases (show _=_ from h);rfl
 | d::ds,vs,h=>by
   obtain ⟨v,r,rfl,h1,h2⟩:=h
   simp [RepAs.length h2]
def DY (W:Wd)(E:XK)(Ed:Addr->Prop):Prop:=∀ C H',Ed C->Kp W.b0 W.H0 H'->okB W.B W.b0 H'->E (.ref C) none H'
theorem Sta.ok0 {W:Wd}{pn:List (D×V)} {H:Hp}{σ:St}{ρ:Ev}(s:Sta W pn M b H σ ρ):okB W.B W.b0 H:=by
 rcases s.new with q|⟨q,_⟩
 · rw [<- q];exact s.ok
 · intro p e;rw [q] at e;cases e
section
variable {X:Cx}{W:Wd}{e a b c:Expr}{es:List Expr}{pos p:Pos}{d:DE}{dA:DA}{x:Str}{k:Nat}{ps:List Str}{S:DSp}
noncomputable def NA (S:DSp)(Ed:Addr->Prop)(dA:DA):DE:=fun ρ P=>dA ρ fun ds=>ds.all OG=true/\S ds P Ed
theorem US {E:XK}{Ed:Addr->Prop}(hE:DY W E Ed):∀ σ H Q,dn W (NA S Ed dA) σ H Q->UU (Q4 W.K W.B S) [] E (dnA W dA) σ H Q:=by
 intro σ H Q hh
 refine hh.elim fun pn M b ρ P st h k=>?_
 refine ⟨pn,M,b,ρ,_,st,h,fun xs vs H1 hx rx k1 o1=>?_⟩
 have st1:=st.step k1 o1
 refine ⟨M,b,xs,P,Ed,hx.2,?_,o1,st.bagM,st1.dom,fun d v H' hd rd k2 o2=>k d v H' hd rd.x (k1.trans k2) o2,fun C H' hC k2 o2=>?_⟩
 · rw [List.append_nil];exact rx.args _ _ hx.1
 · have st2:=st1.step k2 o2
   exact hE C H' hC st2.kp st2.ok0
theorem KQ:DY W E0 (fun _=>False):=fun _ _ h=>h.elim
theorem Q0v (G:Callee X.prog X.w X.K X.mg X.base CX0 x k ps (Q4 W.K W.B S))(hr:Room k X.A)(hg:Gl X x)(ha:PA X (e::es) (dnA W dA))(hdb:(x==("__debug__" : Str))=false:=by decide) (he:starEach (e::es) X.env=(false,eval e X.env)::starEach es X.env:=by rfl) (hpl:(backTo pos (starEach es X.env)).any (·.1)=false:=by rfl) :
 PE X (.Call (.Name x p) (e::es) [] pos) (dn W (NA S (fun _=>False) dA)):=(TJ G hr hg ha hdb he hpl).mono (US KQ)
theorem J6l {CX:CXT}{E:XK}{Ed:Addr->Prop}(hE:DY W E Ed)(hp:DL CX X E)(G:Callee X.prog X.w X.K X.mg X.base CX x k ps (Q4 W.K W.B S))(hr:Room k X.A)(hg:Gl X x)(ha:PA X (e::es) (dnA W dA))(hdb:(x==("__debug__" : Str))=false:=by decide) (he:starEach (e::es) X.env=(false,eval e X.env)::starEach es X.env:=by rfl) (hpl:(backTo pos (starEach es X.env)).any (·.1)=false:=by rfl) :
 PE X (.Call (.Name x p) (e::es) [] pos) (dn W (NA S Ed dA)):=(NX hp G hr hg ha hdb he hpl).mono (US hE)
def GA (W:Wd)(r:List V->Hp->VK->Prop)(o:List D->(D->Prop)->Prop):Prop:=∀ M b H xs vs P Q,Hs W M b H->RepXs W M b H xs vs->o xs P->(∀ z w H',P z->RepX W M b H' z w->Kp b H H'->okB W.B b H'->Q w H')->r vs H Q
noncomputable def dCB (o:List D->(D->Prop)->Prop)(dA:DA):DE:=fun ρ P=>dA ρ fun xs=>o xs P
variable {r:List V->Hp->VK->Prop}{o:List D->(D->Prop)->Prop}{id T:String}
theorem J7b (hd:GA W r o):∀ σ H Q,dn W (dCB o dA) σ H Q->tCB r (dnA W dA) σ H Q:=by
 intro σ H Q hh
 refine hh.elim fun pn M b ρ P st h k=>?_
 refine ⟨pn,M,b,ρ,_,st,h,fun xs vs H1 hx rx k1 o1=>?_⟩
 exact hd M b H1 xs vs P Q (st.step k1 o1).toHs rx hx fun z w H' hz rz k2 o2=>k z w H' hz rz (k1.trans k2) o2
theorem J2l (hc:AW X (.builtin id) r)(hd:GA W r o)(hg:Gl X x)(hm:X.mg x=none)(hv:bootBuiltins x=some (.builtin id))(ha:PA X (e::es) (dnA W dA))(hn:x≠"__name__":=by decide) (hdb:(x==("__debug__" : Str))=false:=by decide)
 (he:starEach (e::es) X.env=(false,eval e X.env)::starEach es X.env:=by rfl) (hpl:(backTo pos (starEach es X.env)).any (·.1)=false:=by rfl):PE X (.Call (.Name x p) (e::es) [] pos) (dn W (dCB o dA)):=(DR hc hg hm hv ha hn hdb he hpl).mono (J7b hd)
theorem YG (hc:AW X (.type T) r)(hd:GA W r o)(hg:Gl X x)(hm:X.mg x=none)(hv:bootBuiltins x=some (.type T))(ha:PA X (e::es) (dnA W dA))(hn:x≠"__name__":=by decide) (hdb:(x==("__debug__" : Str))=false:=by decide)
 (he:starEach (e::es) X.env=(false,eval e X.env)::starEach es X.env:=by rfl) (hpl:(backTo pos (starEach es X.env)).any (·.1)=false:=by rfl):PE X (.Call (.Name x p) (e::es) [] pos) (dn W (dCB o dA)):=(MJ hc hg hm hv ha hn hdb he hpl).mono (J7b hd)
theorem rx1 {b:Option Addr}{H:Hp}{x:D}{vs:List V}(h:RepXs W M b H [x] vs):∃ v,vs=[v]/\RepX W M b H x v:=by
 obtain ⟨v,r,rfl,h1,h2⟩:=h
 cases (show _=_ from h2)
 exact ⟨v,rfl,h1⟩
theorem rx2 {b:Option Addr}{H:Hp}{x y:D}{vs:List V}(h:RepXs W M b H [x,y] vs):∃ v u,vs=[v,u]/\RepX W M b H x v/\RepX W M b H y u:=by
 obtain ⟨v,r,rfl,h1,h2⟩:=h
 obtain ⟨u,rfl,h3⟩:=rx1 h2
 exact ⟨v,u,rfl,h1,h3⟩
def FF:List D->Option (List Int)
 | []=>some []
 | .int i::r=>(FF r).map (i::·)
 | _=>none
theorem FF.eq:∀ {ds:List D} {ns:List Int},FF ds=some ns->ds=ns.map D.int
 | [],ns,h=>by cases h;rfl
 | d::r,ns,h=>by
   cases d<;>first|cases h|skip
   case int i =>
    simp only [FF,Option.map_eq_some_iff] at h
    obtain ⟨m,e,rfl⟩:=h
    rw [FF.eq e];rfl
theorem Reps.ints {H:Hp}:∀ {ns:List Int} {vs:List V},Reps K M H (ns.map D.int) vs->vs=ns.map V.int
 | [],_,h=>by cases (show _=_ from h);rfl
 | n::ns,_,h=>by
   obtain ⟨v,r,rfl,h1,h2⟩:=h
   cases (show _=_ from h1)
   rw [Reps.ints h2];rfl
def asL:D->Option (List D)
 | .lst xs=>some xs
 | .own xs=>some xs
 | _=>none
def asS:D->Option (List D)
 | .lst xs=>some xs
 | .own xs=>some xs
 | .tup xs=>some xs
 | _=>none
theorem asL.rep {b:Option Addr}{H:Hp}{x:D}{v:V}{xs:List D}(h:RepX W M b H x v)(e:asL x=some xs):∃ a vs,v=.ref a/\H a=some (.lst vs)/\Reps W.K M H xs vs:=by
 cases x<;>first|cases e|skip
 case lst=>obtain ⟨a,vs,rfl,hh,r⟩:=h;exact ⟨a,vs,rfl,hh.2,r⟩
 case own=>obtain ⟨a,vs,rfl,_,_,_,_,hh,r⟩:=h;exact ⟨a,vs,rfl,hh,r⟩
theorem asS.rep {b:Option Addr}{H:Hp}{x:D}{v:V}{xs:List D}(h:RepX W M b H x v)(e:asS x=some xs):∃ a vs,v=.ref a/\(SqL W.K H a vs\/SqT W.K H a vs)/\Reps W.K M H xs vs:=by
 cases x<;>first|cases e|skip
 case lst=>obtain ⟨a,vs,rfl,hh,r⟩:=h;exact ⟨a,vs,rfl,.inl (SqL.of hh.2),r⟩
 case own=>obtain ⟨a,vs,rfl,_,_,_,_,hh,r⟩:=h;exact ⟨a,vs,rfl,.inl (SqL.of hh),r⟩
 case tup=>obtain ⟨a,vs,rfl,hh,r⟩:=h;exact ⟨a,vs,rfl,.inr (hh.sq),r⟩
noncomputable def Q5n:List D->(D->Prop)->Prop
 | [.lst xs],P=>P (.int xs.length)
 | [.own xs],P=>P (.int xs.length)
 | [.tup xs],P=>P (.int xs.length)
 | [.scr ns],P=>P (.int ns.length)
 | _,_=>False
theorem FI:GA W (fun xs H Q=>∃ p ys,xs=[.ref p]/\(SqL W.K H p ys\/SqT W.K H p ys)/\Q (.int ys.length) H) Q5n:=by
 intro M b H xs vs P Q hs rx ho k
 match xs,ho with
 | [.lst xs],ho =>
   obtain ⟨v,rfl,r⟩:=rx1 rx
   obtain ⟨a,us,rfl,hh,r'⟩:=r
   exact ⟨a,us,rfl,.inl (SqL.of hh.2),k _ _ H ho (by show _=_;rw [r'.length]) (Kp.refl _ _) hs.ok⟩
 | [.own xs],ho =>
   obtain ⟨v,rfl,r⟩:=rx1 rx
   obtain ⟨a,us,rfl,_,_,_,_,hh,r'⟩:=r
   exact ⟨a,us,rfl,.inl (SqL.of hh),k _ _ H ho (by show _=_;rw [r'.length]) (Kp.refl _ _) hs.ok⟩
 | [.tup xs],ho =>
   obtain ⟨v,rfl,r⟩:=rx1 rx
   obtain ⟨a,us,rfl,hh,r'⟩:=r
   exact ⟨a,us,rfl,.inr (hh.sq),k _ _ H ho (by show _=_;rw [r'.length]) (Kp.refl _ _) hs.ok⟩
 | [.scr ns],ho =>
   obtain ⟨v,rfl,r⟩:=rx1 rx
   obtain ⟨a,rfl,hh⟩:=r
   refine ⟨a,ns.map V.int,rfl,.inl (hh.imp (·.2) id),k _ _ H ho (by show _=_;rw [List.length_map]) (Kp.refl _ _) hs.ok⟩
noncomputable def J0p:List D->(D->Prop)->Prop
 | [.lst xs],P=>P (.tup xs)
 | [.own xs],P=>P (.tup xs)
 | [.tup xs],P=>P (.tup xs)
 | _,_=>False
theorem DV:GA W (fun xs H Q=>∃ p ys,xs=[.ref p]/\((SqL W.K H p ys/\∀ l,H l=none->Q (.ref l) (upd H l (.tup ys)))\/(SqT W.K H p ys/\Q (.ref p) H))) J0p:=by
 intro M b H xs vs P Q hs rx ho k
 match xs,ho with
 | [.lst xs],ho =>
   obtain ⟨v,rfl,r⟩:=rx1 rx
   obtain ⟨a,us,rfl,hh,r'⟩:=r
   exact ⟨a,us,rfl,.inl ⟨SqL.of hh.2,fun l hl=>k _ _ _ ho (FP hs r' hl) (Kp.upd hl) (hs.okU hl)⟩⟩
 | [.own xs],ho =>
   obtain ⟨v,rfl,r⟩:=rx1 rx
   obtain ⟨a,us,rfl,_,_,_,_,hh,r'⟩:=r
   exact ⟨a,us,rfl,.inl ⟨SqL.of hh,fun l hl=>k _ _ _ ho (FP hs r' hl) (Kp.upd hl) (hs.okU hl)⟩⟩
 | [.tup xs],ho =>
   obtain ⟨v,rfl,r⟩:=rx1 rx
   obtain ⟨a,us,rfl,hh,r'⟩:=r
   exact ⟨a,us,rfl,.inr ⟨hh.sq,k _ _ H ho ⟨a,us,rfl,hh,r'⟩ (Kp.refl _ _) hs.ok⟩⟩
noncomputable def Q3n:List D->(D->Prop)->Prop
 | [.int i],P=>P (.int i)
 | [.bl c],P=>P (.int (if c then 1 else 0))
 | _,_=>False
theorem WB:GA W (fun xs H Q=>(∃ i,xs=[.int i]/\Q (.int i) H)\/∃ k,xs=[.bl k]/\Q (.int (if k then 1 else 0)) H) Q3n:=by
 intro M b H xs vs P Q hs rx ho k
 match xs,ho with
 | [.int i],ho =>
   obtain ⟨v,rfl,r⟩:=rx1 rx
   cases (show _=_ from r)
   exact .inl ⟨i,rfl,k _ _ H ho (show _=_ from rfl) (Kp.refl _ _) hs.ok⟩
 | [.bl i],ho =>
   obtain ⟨v,rfl,r⟩:=rx1 rx
   cases (show _=_ from r)
   exact .inr ⟨i,rfl,k _ _ H ho (show _=_ from rfl) (Kp.refl _ _) hs.ok⟩
def o2I (g:Int->Int->Int):List D->(D->Prop)->Prop
 | [.int i,.int j],P=>P (.int (g i j))
 | _,_=>False
theorem ND {g:Int->Int->Int}:GA W (fun xs H Q=>∃ i j,xs=[.int i,.int j]/\Q (.int (g i j)) H) (o2I g):=by
 intro M b H xs vs P Q hs rx ho k
 match xs,ho with
 | [.int i,.int j],ho =>
   obtain ⟨v,u,rfl,r,r'⟩:=rx2 rx
   cases (show _=_ from r)
   cases (show _=_ from r')
   exact ⟨i,j,rfl,k _ _ H ho (show _=_ from rfl) (Kp.refl _ _) hs.ok⟩
noncomputable def Q3l:List D->(D->Prop)->Prop
 | [x],P=>(asL x).elim False fun xs=>(FF xs).elim False fun ns=>P (.int ns.sum)
 | _,_=>False
theorem J2v:GA W (fun xs H Q=>∃ (p:Addr) (ns:List Int),xs=[.ref p]/\SqL W.K H p (ns.map V.int)/\Q (.int ns.sum) H) Q3l:=by
 intro M b H xs vs P Q hs rx ho k
 match xs,ho with
 | [x],ho =>
   obtain ⟨v,rfl,r⟩:=rx1 rx
   simp only [Q3l] at ho
   cases ex:asL x with
   | none=>rw [ex] at ho;exact ho.elim
   | some xs =>
     rw [ex] at ho
     simp only [Option.elim] at ho
     cases en:FF xs with
     | none=>rw [en] at ho;exact ho.elim
     | some ns =>
       rw [en] at ho
       cases FF.eq en
       obtain ⟨a,us,rfl,hh,r'⟩:=asL.rep r ex
       cases r'.ints
       exact ⟨a,ns,rfl,SqL.of hh,k _ _ H ho (show _=_ from rfl) (Kp.refl _ _) hs.ok⟩
end
theorem Reps.plain {H:Hp}:∀ {ds:List D} {vs:List V},Reps K M H ds vs->ds.all plain=true
 | [],_,_=>rfl
 | d::ds,_,h=>by
   obtain ⟨v,r,rfl,h1,h2⟩:=h
   rw [List.all_cons,Reps.plain h2,Bool.and_true]
   cases d<;>first|rfl|exact h1.elim
theorem Reps.xs {W:Wd} {H:Hp}:∀ {ds:List D} {vs:List V},Reps W.K M H ds vs->RepXs W M b H ds vs
 | [],_,h=>h
 | d::ds,_,h=>by
   obtain ⟨v,r,rfl,h1,h2⟩:=h
   exact ⟨v,r,rfl,h1.x,Reps.xs h2⟩
def IL (W:Wd)(J:It)(need:List (D×V))(items:List D):Prop:=∀ M b H,Hs W M b H->(∀ q∈need,RepX W M b H q.1 q.2) ->
 (∀ (i:Nat) d,items[i]?=some d->J.go i H/\∀ x H3,J.yld i H x H3->Same H H3/\RepX W M b H3 d x)/\∀ i,items.length<=i->J.stop i H
def dnI (W:Wd)(fz:Bool)(di:DA):TI:=fun σ H R=>∃ pn M b ρ P,Sta W pn M b H σ ρ/\di ρ P/\∀ items J need H',P items->items.all plain=true->IL W J need items->(∀ q∈need,RepX W M b H' q.1 q.2/\(fz=true->plain q.1=true))->Kp b H H'->okB W.B b H'->R J H'
theorem dnI.elim {W:Wd}{fz:Bool}{d:DA}{σ:St}{H:Hp}{R:It->Hp->Prop}{Z:Prop}(h:dnI W fz d σ H R)(f:∀ pn M b ρ P,Sta W pn M b H σ ρ->d ρ P->(∀ items J need H',P items->items.all plain=true->IL W J need items->(∀ q∈need,RepX W M b H' q.1 q.2/\(fz=true->plain q.1=true))->Kp b H H'->okB W.B b H'->R J H')->Z):Z:=by
 obtain ⟨pn,M,b,ρ,P,st,h,k⟩:=h
 exact f pn M b ρ P st h k
section
variable {X:Cx}{W:Wd}{tg l e a b:Expr}{pos p:Pos}{d dl:DE}{dA:DA}{fz:Bool}
theorem PI.mono {t t':TI}(h:PI X tg l t)(m:∀ σ H R,t' σ H R->t σ H R):PI X tg l t':=fun pins s σ H R I q=>h pins s σ H R I (m σ H R q)
theorem J9b {tl:TE}(K:Fg)(h:X.K=K)(hl:PE X l tl):PI X tg l (fun σ H R=>tl σ H fun x H1=>(∃ a,x=.ref a/\(∃ xs,SqL K H1 a xs)/\R (Itl K a) H1)\/(∃ a,x=.ref a/\(∃ xs,SqT K H1 a xs)/\R (Itt K a) H1)):=by
 subst h
 intro pins s σ H R I h
 refine thn (hl pins s σ H _ I h) fun v s1 ⟨x,H1,I1,r1,q1⟩=>?_
 rcases q1 with ⟨a,e,⟨xs,hq⟩,q⟩|⟨a,e,⟨xs,hq⟩,q⟩
 · subst e
   cases r1
   obtain ⟨its,rv,p,hz⟩:=I1.list hq
   refine wpAny_pyIter_list p.isList ?_
   refine ⟨s1.heap.objs.size,[s1.heap.objs.size],_,_,H1,rfl,I1.kept (t':=s1.toks) fun b o e=>Heap.get?_push_of_some _ e,WQ a _,⟨_,Heap.get?_push_size _ rfl,rfl,rfl⟩,fun b hb=>?_,q⟩
   have e:b=s1.heap.objs.size:=by simpa using hb
   subst e
   exact I1.fpOk (Nat.le_refl _) (I1.hok.fresh (Nat.le_refl _))
 · subst e
   cases r1
   obtain ⟨its,rv,p,hz⟩:=I1.tuple hq
   refine wpAny_pyIter_tuple (show s1.heap.IsTuple a its.toArray from p) ?_
   refine ⟨s1.heap.objs.size,[s1.heap.objs.size],_,_,H1,rfl,I1.kept (t':=s1.toks) fun b o e=>Heap.get?_push_of_some _ e,SM a _,⟨_,Heap.get?_push_size _ rfl,rfl,rfl⟩,fun b hb=>?_,q⟩
   have e:b=s1.heap.objs.size:=by simpa using hb
   subst e
   exact I1.fpOk (Nat.le_refl _) (I1.hok.fresh (Nat.le_refl _))
noncomputable def Q0e (fz:Bool)(dl:DE):DA:=fun ρ P=>dl ρ fun x=>match x with
 | .lst xs=>P xs
 | .tup xs=>P xs
 | .own xs=>fz=false/\P xs
 | _=>False
theorem J1r {x:D}{xs:List D}{a:Addr}(hx:asL x=some xs):IL W (Itl W.K a) [(x,.ref a)] xs:=by
 intro M b H hs hn
 obtain ⟨a',vs,e,hh,r⟩:=asL.rep (hn _ (List.mem_singleton.mpr rfl)) hx
 cases e
 refine ⟨fun i d e=>?_,fun i hi=>⟨vs,SqL.of hh,by rw [r.length];exact hi⟩⟩
 obtain ⟨v,e1,r1⟩:=r.get e
 refine ⟨⟨vs,v,SqL.of hh,e1⟩,fun y H3 ⟨eH,hy⟩=>?_⟩
 subst eH
 have:=hy vs (SqL.of hh)
 rw [e1] at this;cases this
 exact ⟨Same.refl _,r1.x⟩
theorem Q0c {xs:List D}{a:Addr}:IL W (Itt W.K a) [(.tup xs,.ref a)] xs:=by
 intro M b H hs hn
 obtain ⟨a',vs,e,hh,r⟩:=hn _ (List.mem_singleton.mpr rfl)
 cases e
 refine ⟨fun i d e=>?_,fun i hi=>⟨vs,hh.sq,by rw [r.length];exact hi⟩⟩
 obtain ⟨v,e1,r1⟩:=r.get e
 refine ⟨⟨vs,v,hh.sq,e1⟩,fun y H3 ⟨eH,hy⟩=>?_⟩
 subst eH
 have:=hy vs (hh.sq)
 rw [e1] at this;cases this
 exact ⟨Same.refl _,r1.x⟩
theorem J0s {b:Option Addr}{H:Hp}{x:D}{v:V}(r:RepX W M b H x v)(h:fz=true->plain x=true):∀ q∈[(x,v)],RepX W M b H q.1 q.2/\(fz=true->plain q.1=true):=fun q hq=>by
 have e:=List.mem_singleton.mp hq
 subst e
 exact ⟨r,h⟩
theorem Q0s (hK:X.K=W.K)(hl:PE X l (dn W dl)):PI X tg l (dnI W fz (Q0e fz dl)):=(J9b W.K hK hl).mono fun σ H R hh=>hh.elim fun pn M b ρ P st h k=>by
 refine ⟨pn,M,b,ρ,_,st,h,fun x v H1 hx rx k1 o1=>?_⟩
 cases x<;>first|exact hx.elim|skip
 case lst xs =>
  obtain ⟨a,vs,rfl,hh,r⟩:=(show RepX W M b H1 (.lst xs) v from rx)
  exact .inl ⟨a,rfl,⟨vs,SqL.of hh.2⟩,k xs _ _ H1 hx r.plain (J1r (x:=.lst xs) rfl) (J0s rx fun _=>rfl) k1 o1⟩
 case tup xs =>
  obtain ⟨a,vs,rfl,hh,r⟩:=(show RepX W M b H1 (.tup xs) v from rx)
  exact .inr ⟨a,rfl,⟨vs,hh.sq⟩,k xs _ _ H1 hx r.plain Q0c (J0s rx fun _=>rfl) k1 o1⟩
 case own xs =>
  obtain ⟨a,vs,rfl,m1,m2,m3,m4,hh,r⟩:=(show RepX W M b H1 (.own xs) v from rx)
  exact .inl ⟨a,rfl,⟨vs,SqL.of hh⟩,k xs _ _ H1 hx.2 r.plain (J1r (x:=.own xs) rfl) (J0s rx fun z=>by rw [hx.1] at z;cases z) k1 o1⟩
def BL (lo:Int)(n:Nat):List D:=(List.range n).map fun (i:Nat)=>.int (lo+i)
theorem NT (lo:Int)(n:Nat):(BL lo n).all plain=true:=by
 simp [BL,plain]
theorem J1q {lo:Int}{n:Nat}:IL W (Itr lo n) [] (BL lo n):=by
 intro M b H hs _
 refine ⟨fun i d e=>?_,fun i hi=>by show n<=i;simpa [BL] using hi⟩
 have hi:i<n:=by
  have:=(List.getElem?_eq_some_iff.mp e).1
  simpa [BL] using this
 refine ⟨hi,fun x H3 ⟨eH,ex⟩=>?_⟩
 subst eH ex
 refine ⟨Same.refl _,?_⟩
 simp [BL,hi] at e
 subst e
 exact (show _=_ from rfl)
noncomputable def VR (dA:DA):DA:=fun ρ P=>dA ρ fun xs=>match xs with
 | [.int j]=>(-(2 ^ 62)<=j/\j<2 ^ 62)/\P (BL 0 j.toNat)
 | _=>False
theorem YF (hg:Gl X "range") (hm:X.mg "range" = none) (ha:PA X [a] (dnA W dA)) (hs:starEach [a] X.env=[(false,eval a X.env)]:=by rfl):PI X tg (.Call (.Name "range" p) [a] [] pos) (dnI W fz (VR dA)):=(XE hg hm ha hs).mono fun σ H R hh=>hh.elim fun pn M b ρ P st h k=>by
 refine ⟨pn,M,b,ρ,_,st,h,fun xs vs H1 hx rx k1 o1=>?_⟩
 match xs,hx with
 | [.int j],hx =>
   obtain ⟨v,rfl,r⟩:=rx1 rx
   cases (show _=_ from r)
   exact ⟨j,rfl,hx.1.1,hx.1.2,k _ _ _ H1 hx.2 (NT _ _) J1q (fun q hq=>by cases hq) k1 o1⟩
def asK (fz t:Bool):D->Option (List D)
 | .tup xs=>if t then some xs else none
 | .lst xs=>if t then none else some xs
 | .own xs=>if t||fz then none else some xs
 | _=>none
theorem asK.rep {b:Option Addr}{H:Hp}{t:Bool}{x:D}{v:V}{xs:List D}(h:RepX W M b H x v)(e:asK fz t x=some xs):(∃ a vs,v=.ref a/\SqX W.K t H a vs/\Reps W.K M H xs vs)/\(fz=true->plain x=true):=by
 cases x<;>first|cases e|skip
 case lst =>
  obtain ⟨a,vs,rfl,hh,r⟩:=h
  cases t<;>cases e
  exact ⟨⟨a,vs,rfl,SqL.of hh.2,r⟩,fun _=>rfl⟩
 case own =>
  obtain ⟨a,vs,rfl,_,_,_,_,hh,r⟩:=h
  cases t<;>cases fz<;>cases e
  exact ⟨⟨a,vs,rfl,SqL.of hh,r⟩,fun z=>by cases z⟩
 case tup =>
  obtain ⟨a,vs,rfl,hh,r⟩:=h
  cases t<;>cases e
  exact ⟨⟨a,vs,rfl,hh.sq,r⟩,fun _=>rfl⟩
def LC (xs ys:List D):List D:=List.zipWith (fun x y=>.tup [x,y]) xs ys
noncomputable def J7l (fz t1 t2:Bool)(dA:DA):DA:=fun ρ P=>dA ρ fun zs=>match zs with
 | [x,y]=>(match asK fz t1 x,asK fz t2 y with|some xs,some ys=>xs.length<=ys.length/\P (LC xs ys)|_,_=>False)
 | _=>False
theorem IW:∀ (xs ys:List D),(LC xs ys).all plain=true
 | [],_=>rfl
 | _::_,[]=>rfl
 | x::xs,y::ys=>by
   show (plain (.tup [x,y])&&(LC xs ys).all plain)=true
   rw [IW xs ys];rfl
theorem Q0b {t1 t2:Bool}{x y:D}{xs ys:List D}{l1 l2:Addr}(h1:asK fz t1 x=some xs)(h2:asK fz t2 y=some ys)(hl:xs.length<=ys.length):IL W (Q2d W.K t1 t2 l1 l2) [(x,.ref l1),(y,.ref l2)] (LC xs ys):=by
 intro M b H hs hn
 obtain ⟨⟨a1,us,e1,q1,r1⟩,_⟩:=asK.rep (hn _ (.head _)) h1
 obtain ⟨⟨a2,ws,e2,q2,r2⟩,_⟩:=asK.rep (hn _ (.tail _ (.head _))) h2
 cases e1
 cases e2
 have hlen:(LC xs ys).length=xs.length:=by simp [LC];omega
 refine ⟨fun i d e=>?_,fun i hi=>⟨⟨us,q1,by rw [r1.length,<- hlen];exact hi⟩,⟨ws,q2⟩⟩⟩
 have hi:i<xs.length:=by rw [<- hlen];exact (List.getElem?_eq_some_iff.mp e).1
 obtain ⟨u,eu,ru⟩:=r1.get (List.getElem?_eq_getElem hi)
 obtain ⟨w,ew,rw'⟩:=r2.get (List.getElem?_eq_getElem (Nat.lt_of_lt_of_le hi hl))
 refine ⟨⟨us,ws,u,w,q1,eu,q2,ew⟩,fun v H3 ⟨t,y1,y2,ev,ht,eH,k1,k2⟩=>?_⟩
 subst ev eH
 have z1:=k1 us q1
 have z2:=k2 ws q2
 rw [eu] at z1;cases z1
 rw [ew] at z2;cases z2
 refine ⟨Same.upd ht,?_⟩
 have ed:d=.tup [xs[i],ys[i]'(Nat.lt_of_lt_of_le hi hl)]:=by
  have:(LC xs ys)[i]?=some (.tup [xs[i],ys[i]'(Nat.lt_of_lt_of_le hi hl)]):=by
   simp [LC,List.getElem?_zipWith,hi,Nat.lt_of_lt_of_le hi hl]
  rw [this] at e;exact (Option.some.inj e).symm
 subst ed
 exact FP hs ⟨u,[w],rfl,ru,w,[],rfl,rw',rfl⟩ ht
theorem Q0r {elts:List Expr}{c1}{tpos:Pos}(hK:X.K=W.K)(t1 t2:Bool)(hg:Gl X "zip") (hm:X.mg "zip" = none) (ha:PA X [a,b] (dnA W dA))
 (h:PI X (.Tuple elts c1 tpos) (.Call (.Name "zip" p) [a,b] [] pos) (J1v W.K t1 t2 (dnA W dA))):PI X (.Tuple elts c1 tpos) (.Call (.Name "zip" p) [a,b] [] pos) (dnI W fz (J7l fz t1 t2 dA)):=h.mono fun σ H R hh=>hh.elim fun pn M b ρ P st h k=>by
 refine ⟨pn,M,b,ρ,_,st,h,fun zs vs H1 hx rx k1 o1=>?_⟩
 match zs,hx with
 | [x,y],hx =>
   obtain ⟨v,u,rfl,r,r'⟩:=rx2 rx
   dsimp only at hx
   split at hx
   case h_2=>exact hx.elim
   case h_1 xs ys e1 e2 =>
    obtain ⟨⟨a1,us,z1,q1,r1⟩,f1⟩:=asK.rep r e1
    obtain ⟨⟨a2,ws,z2,q2,r2⟩,f2⟩:=asK.rep r' e2
    subst z1 z2
    refine ⟨a1,a2,rfl,⟨us,q1⟩,⟨ws,q2⟩,k _ _ _ H1 hx.2 (IW _ _) (Q0b e1 e2 hx.1) (fun q hq=>?_) k1 o1⟩
    rcases List.mem_cons.mp hq with z|z
    · subst z;exact ⟨r,f1⟩
    · have z:=List.mem_singleton.mp z
      subst z;exact ⟨r',f2⟩
end
def GD (W:Wd)(g:TG)(gd:D->Ev->(Ev->Prop)->Prop):Prop:=∀ pn M b H σ ρ x v Q P,Sta W pn M b H σ ρ->RepX W M b H x v->plain x=true->gd x ρ P->(∀ ρ' σ',P ρ'->Sta W pn M b H σ' ρ'->(∀ (i:Nat) d,mine d=true->ρ'[i]?=some (some d)->ρ[i]?=some (some d)/\σ'[i]?=σ[i]?)->Q σ' H)->g v σ H Q
theorem Sta.set {W:Wd}{pn:List (D×V)} {H:Hp}{σ:St}{ρ:Ev}{x:D}{v:V}(s:Sta W pn M b H σ ρ)(j:Nat)(r:RepX W M b H x v):Sta W pn M b H (σ.set j (some v)) (ρ.set j (some x)) where
 toHs:=s.toHs
 kp:=s.kp
 new:=s.new
 len:=by simp [s.len]
 pin:=s.pin
 env:=fun i d e=>by
  by_cases z:j=i
  · subst z
    rw [List.getElem?_set] at e
    simp at e
    obtain ⟨hl,rfl⟩:=e
    exact ⟨v,by rw [List.getElem?_set];simp [<- s.len,hl],r⟩
  · rw [List.getElem?_set_ne z] at e
    obtain ⟨w,e1,r1⟩:=s.env i d e
    exact ⟨w,by rw [List.getElem?_set_ne z];exact e1,r1⟩
theorem OA {ρ:Ev}{σ:St}{j:Nat}{x:D}{v:V}(p:plain x=true):∀ (i:Nat) d,mine d=true->(ρ.set j (some x))[i]?=some (some d)->ρ[i]?=some (some d)/\(σ.set j (some v))[i]?=σ[i]?:=fun i d hm e=>by
 by_cases z:j=i
 · subst z
   rw [List.getElem?_set] at e
   simp at e
   obtain ⟨hl,rfl⟩:=e
   cases x<;>first|(cases hm;done)|(cases p;done)
 · rw [List.getElem?_set_ne z] at e
   exact ⟨e,by rw [List.getElem?_set_ne z]⟩
def gdN (j:Nat):D->Ev->(Ev->Prop)->Prop:=fun x ρ P=>P (ρ.set j (some x))
theorem V1 {W:Wd}(j:Nat):GD W (RS j) (gdN j):=fun pn M b H σ ρ x v Q P st r p h k=>k _ _ h (st.set j r) (OA p)
def JC:List Nat->List D->Ev->Ev
 | j::js,x::xs,ρ=>JC js xs (ρ.set j (some x))
 | _,_,ρ=>ρ
noncomputable def FG:List Nat->TGs
 | []=>Q3y
 | j::js=>J7n (RS j) (FG js)
noncomputable def Q3x (K:Fg)(n:Nat)(t:TGs):TG:=fun v σ H Q=>Q0g K n t v σ H Q\/Q3z K n t v σ H Q
def gdU (js:List Nat):D->Ev->(Ev->Prop)->Prop:=fun x ρ P=>match x with
 | .tup xs=>xs.length=js.length/\P (JC js xs ρ)
 | .lst xs=>xs.length=js.length/\P (JC js xs ρ)
 | _=>False
theorem KJ {W:Wd}{pn:List (D×V)} {H:Hp}{Q:St->Hp->Prop}{P:Ev->Prop}:∀ (js:List Nat) (xs:List D) (vs:List V) (σ:St) (ρ:Ev),Sta W pn M b H σ ρ->Reps W.K M H xs vs->xs.length=js.length->P (JC js xs ρ)->(∀ ρ' σ',P ρ'->Sta W pn M b H σ' ρ'->(∀ (i:Nat) d,mine d=true->ρ'[i]?=some (some d)->ρ[i]?=some (some d)/\σ'[i]?=σ[i]?)->Q σ' H)->FG js vs σ H Q
 | [],[],vs,σ,ρ,st,r,hl,h,k=>⟨r,k _ _ h st fun _ _ _ e=>⟨e,rfl⟩⟩
 | j::js,x::xs,vs,σ,ρ,st,r,hl,h,k=>by
   obtain ⟨v,us,rfl,r1,r2⟩:=r
   refine ⟨v,us,rfl,?_⟩
   have p:plain x=true:=by cases x<;>first|rfl|exact r1.elim
   refine KJ js xs us _ (ρ.set j (some x)) (st.set j r1.x) r2 (by simpa using hl) h fun ρ' σ' hp st' ho=>k ρ' σ' hp st' fun i xs hm e=>?_
   obtain ⟨z1,z2⟩:=ho i xs hm e
   obtain ⟨z3,z4⟩:=OA (v:=v) (σ:=σ) p i xs hm z1
   exact ⟨z3,z2.trans z4⟩
theorem EH {W:Wd}(js:List Nat):GD W (Q3x W.K js.length (FG js)) (gdU js):=fun pn M b H σ ρ x v Q P st r p h k=>by
 cases x<;>first|exact h.elim|skip
 case tup xs =>
  obtain ⟨a,vs,rfl,hh,r⟩:=r
  exact .inl ⟨a,vs,rfl,hh.sq,by rw [r.length];exact h.1,KJ js xs vs σ ρ st r h.1 h.2 k⟩
 case lst xs =>
  obtain ⟨a,vs,rfl,hh,r⟩:=r
  exact .inr ⟨a,vs,rfl,SqL.of hh.2,by rw [r.length];exact h.1,KJ js xs vs σ ρ st r h.1 h.2 k⟩
theorem PG.or {X:Cx}{tg:Expr}{t u:TG}(h:PG X tg t)(h':PG X tg u):PG X tg (fun v σ H Q=>t v σ H Q\/u v σ H Q):=by
 intro pins s σ H v u' Q I r q
 rcases q with q|q
 · exact h pins s σ H v u' Q I r q
 · exact h' pins s σ H v u' Q I r q
theorem gkeep_seq {js:List Nat}{n:Nat}{map:List (Option Nat)}(hj:∀ j∈js,map[j]?=some none):FJ (Q3x K n (FG js)) map:=by
 have key:∀ (js:List Nat),(∀ j∈js,map[j]?=some none)->∀ vs σ H Q,FG js vs σ H Q->FG js vs σ H fun σ' H'=>(σ'.length=σ.length/\∀ j i:Nat,map[j]?=some (some i)->σ'[j]?=σ[j]?)/\Q σ' H':=by
  intro js
  induction js with
  | nil=>intro _ vs σ H Q h;exact ⟨h.1,⟨rfl,fun _ _ _=>rfl⟩,h.2⟩
  | cons j js ih =>
    intro hj vs σ H Q h
    obtain ⟨v,r,e,h⟩:=h
    refine ⟨v,r,e,?_⟩
    have q:=ih (fun j' m=>hj j' (.tail _ m)) r _ H _ h
    have mono:∀ (js:List Nat) vs σ H (Q Q':St->Hp->Prop),(∀ s h,Q s h->Q' s h)->FG js vs σ H Q->FG js vs σ H Q':=by
     intro js
     induction js with
     | nil=>intro vs σ H Q Q' m h;exact ⟨h.1,m _ _ h.2⟩
     | cons j js ih=>intro vs σ H Q Q' m ⟨v,r,e,h⟩;exact ⟨v,r,e,ih _ _ _ _ _ m h⟩
    refine mono js r _ H _ _ (fun s h ⟨⟨l,z⟩,w⟩=>⟨⟨by rw [l];simp,fun j' i hm=>?_⟩,w⟩) q
    rw [z j' i hm]
    have n1:j≠j':=fun z=>by
     have:=hj j (.head _)
     rw [z,hm] at this;cases this
    rw [List.getElem?_set_ne n1]
 intro v σ H Q h
 rcases h with ⟨a,xs,e,s,l,h⟩|⟨a,xs,e,s,l,h⟩
 · exact .inl ⟨a,xs,e,s,l,key js hj _ _ _ _ h⟩
 · exact .inr ⟨a,xs,e,s,l,key js hj _ _ _ _ h⟩
def DW (ρ:Ev)(map:List (Option Nat)):Ev:=map.map fun o=>o.bind fun i=>(ρ[i]?).join
noncomputable def ON (gd:D->Ev->(Ev->Prop)->Prop)(dt:DT)(de:DE)(ρc:Ev):List D->List D->(List D->Prop)->Prop
 | [],acc,P=>P acc
 | x::xs,acc,P=>gd x ρc fun ρ1=>dt ρ1 fun c=>IfP c (de ρ1 fun y=>plain y=true/\ON gd dt de ρc xs (acc++[y]) P) (ON gd dt de ρc xs acc P)
inductive compI (gd:D->Ev->(Ev->Prop)->Prop)(dt:DT)(de:DE)(ρc:Ev)(items:List D)(P:List D->Prop):Prop
 | mk (I:Nat->List D->Prop) (h0:I 0 []) (hs:∀ (i:Nat) x acc,items[i]?=some x->I i acc->gd x ρc fun ρ1=>dt ρ1 fun c=>IfP c (de ρ1 fun y=>plain y=true/\I (i+1) (acc++[y])) (I (i+1) acc)) (hd:∀ acc,I items.length acc->P acc):compI gd dt de ρc items P
theorem J2u {gd:D->Ev->(Ev->Prop)->Prop}{dt:DT}{de:DE}{ρc:Ev}{items:List D}{P:List D->Prop}(h:ON gd dt de ρc items [] P):compI gd dt de ρc items P:=by
 refine ⟨fun i acc=>ON gd dt de ρc (items.drop i) acc P,h,fun i x acc e q=>?_,fun acc q=>?_⟩
 · obtain ⟨hlt,rfl⟩:=List.getElem?_eq_some_iff.mp e
   try dsimp only at q
   rw [List.drop_eq_getElem_cons hlt] at q
   exact q
 · (try dsimp only at q);rw [List.drop_length] at q;exact q
noncomputable def J2s (map:List (Option Nat))(gd:D->Ev->(Ev->Prop)->Prop)(di:DA)(dt:DT)(de:DE):DE:=fun ρ P=>di ρ fun items=>items.length<=1000/\compI gd dt de (DW ρ map) items fun acc=>P (.lst acc)
theorem Sta.capt {W:Wd}{pn:List (D×V)} {H:Hp}{σ:St}{ρ:Ev}(s:Sta W pn M b H σ ρ)(map:List (Option Nat)):Sta W pn M b H (capt σ map) (DW ρ map) where
 toHs:=s.toHs
 kp:=s.kp
 new:=s.new
 len:=by simp [L2.capt,DW]
 pin:=s.pin
 env:=fun j d e=>by
  unfold DW at e
  rw [List.getElem?_map] at e
  simp only [Option.map_eq_some_iff] at e
  obtain ⟨o,e1,e2⟩:=e
  simp only [Option.bind_eq_some_iff] at e2
  obtain ⟨i,rfl,e3⟩:=e2
  have e4:ρ[i]?=some (some d):=by
   cases q:ρ[i]? with
   | none=>rw [q] at e3;cases e3
   | some z=>rw [q] at e3;exact congrArg some e3
  obtain ⟨v,e5,r⟩:=s.env i d e4
  exact ⟨v,by unfold L2.capt;rw [List.getElem?_map,e1];simp [e5],r⟩
theorem EI {W:Wd}{pn:List (D×V)}{M:Addr->Prop}{b:Option Addr}{H:Hp}{σ:St}{ρ:Ev}{J:It}{need:List (D×V)}{items:List D}{g:TG}{gd:D->Ev->(Ev->Prop)->Prop}{dt:DT}{de:DE}{P:List D->Prop}{Fin:List V->Hp->Prop}
 (hG:GD W g gd) (st:Sta W pn M b H σ ρ) (hp:items.all plain=true) (hI:IL W J need items) (hn:∀ q∈need,RepX W M b H q.1 q.2) (hl:items.length<=1000) (h:compI gd dt de ρ items P)
 (fin:∀ ds acc H',P ds->Reps W.K M H' ds acc->acc.length<=sizeLine->Kp b H H'->okB W.B b H'->Fin acc H'):∃ Wf:Nat->Nat->List V->Hp->Prop,(∃ m,Wf 0 m [] H)/\KZ J g (dnT W dt) (dn W de) σ Fin Wf:=by
 obtain ⟨I,i0,istep,idone⟩:=h
 refine ⟨fun i m acc H2=>m=items.length - i/\i<=items.length/\acc.length<=i/\Kp b H H2/\okB W.B b H2/\∃ ds,Reps W.K M H2 ds acc/\I i ds,⟨items.length,by simp,Nat.zero_le _,Nat.le_refl _,Kp.refl _ _,st.ok,[],rfl,i0⟩,?_⟩
 rintro i m acc H2 ⟨rfl,hi,ha,k2,o2,ds,r,q⟩
 have st2:=st.step k2 o2
 obtain ⟨hgo,hstop⟩:=hI M b H2 st2.toHs fun q hq=>(hn q hq).step st.bagM k2
 by_cases hlt:i<items.length
 · have ei:items[i]?=some items[i]:=List.getElem?_eq_getElem hlt
   replace q:=istep i _ ds ei q
   refine .inr ⟨(hgo i _ ei).1,by have:=AT;omega,fun acc' H'=>acc'.length<=i+1/\Kp b H H'/\okB W.B b H'/\∃ ds,Reps W.K M H' ds acc'/\I (i+1) ds,fun acc' H' n=>⟨items.length - (i+1),by omega,rfl,hlt,n⟩,fun x H3 y=>?_⟩
   obtain ⟨S3,rx⟩:=(hgo i _ ei).2 x H3 y
   have o3:okB W.B b H3:=fun p e=>W.B.st p H2 H3 (o2 p e) fun o e'=>S3 p o e'
   have k3:Kp b H2 H3:=Kp.same S3
   have st3:=st2.step k3 o3
   refine hG pn M b H3 σ ρ items[i] x _ _ st3 rx (List.all_eq_true.mp hp _ (List.getElem_mem hlt)) q fun ρ1 σ1 h1 st4 _=>?_
   refine ⟨pn,M,b,ρ1,_,st4,h1,fun c H5 h5 k5 o5=>?_⟩
   cases h5 with
   | t e h5 =>
     rw [if_pos e]
     refine ⟨pn,M,b,ρ1,_,st4.step k5 o5,h5,fun y v H6 h6 ry k6 o6=>?_⟩
     have kk:=((k3.trans k5).trans k6)
     refine ⟨by simp;omega,k2.trans kk,o6,ds++[y],Reps.append (Reps.keep (fun c o n e=>kk c o (fun z=>n (st.bagM c z)) e) _ _ r) ⟨v,[],rfl,ry.rep h6.1,rfl⟩,h6.2⟩
   | f e h5 =>
     rw [if_neg (by rw [e];exact Bool.false_ne_true)]
     have kk:=k3.trans k5
     exact ⟨by omega,k2.trans kk,o5,ds,Reps.keep (fun c o n e=>kk c o (fun z=>n (st.bagM c z)) e) _ _ r,h5⟩
 · have e:i=items.length:=by omega
   subst e
   exact .inl ⟨hstop _ (Nat.le_refl _),by have:=AT;omega,fin ds acc H2 (idone _ q) r (by have:=AT;omega) k2 o2⟩
section
variable {X:Cx}{W:Wd}{elt iter tg:Expr}{ifs:List Expr}{scope:Scope}{pos:Pos}{N':List Str}{map:List (Option Nat)}{g:TG}{gd:D->Ev->(Ev->Prop)->Prop}{di:DA}{dt:DT}{de:DE}
theorem J6m (hG:GD W g gd)(B:Blk X N' scope map tg elt ifs g (dnT W dt) (dn W de))(hi:PI X tg iter (dnI W false di))(hs:∀ x,foldedSetIterable iter X.env x=pure x:=by intro _;rfl):PE X (.ListComp elt [⟨tg,iter,ifs,0⟩] scope pos) (dn W (J2s map gd di dt de)):=(NY B hi hs).mono fun σ H Q hh=>hh.elim fun pn M b ρ P st h k=>by
 refine ⟨pn,M,b,ρ,_,st,h,fun items J need H1 hx hp hI hn k1 o1=>?_⟩
 have st1:=st.step k1 o1
 refine EI hG (st1.capt map) hp hI (fun q hq=>(hn q hq).1) hx.1 hx.2 fun ds acc H' hP r hl k2 o2 D hD=>?_
 exact k _ _ _ hP (DB (st1.step k2 o2).toHs r hD) ((k1.trans k2).trans (Kp.upd hD)) ((st1.step k2 o2).okU hD)
noncomputable def MZ:DT:=fun _ P=>P true
theorem J6k:PIf X [] (dnT W MZ):=fun pins s σ H Q I hh=>hh.elim fun pn M b ρ P st h k=>J4v pins s σ H Q I (k true H h (Kp.refl _ _) st.ok)
theorem J6j {c:Expr}(hc:PT X c (dnT W dt)):PIf X [c] (dnT W dt):=J4u hc
end
structure StS (W:Wd)(pn:List (D×V))(M:Addr->Prop)(b:Option Addr)(H:Hp)(σ:St)(ρ:Ev):Prop extends Sta W pn M b H σ ρ where
 dj:∀ (i j:Nat) d e v u c,ρ[i]?=some (some d)->ρ[j]?=some (some e)->σ[i]?=some (some v)->σ[j]?=some (some u)->EM d v c->EM e u c->i=j
 lj:∀ ys a,(D.own ys,V.ref a)∈pn->∀ (i:Nat) d v,ρ[i]?=some (some d)->σ[i]?=some (some v)->¬ EM d v a
theorem StS.own {W:Wd}{pn:List (D×V)} {H:Hp}{σ:St}{ρ:Ev}(s:StS W pn M b H σ ρ):∀ (i j:Nat) xs ys a,ρ[i]?=some (some (.own xs))->ρ[j]?=some (some (.own ys))->σ[i]?=some (some (.ref a))->σ[j]?=some (some (.ref a))->i=j:=fun i j xs ys a e1 e2 e3 e4=>s.dj i j _ _ _ _ a e1 e2 e3 e4 rfl rfl
theorem StS.lk {W:Wd}{pn:List (D×V)} {H:Hp}{σ:St}{ρ:Ev}(s:StS W pn M b H σ ρ):∀ ys a,(D.own ys,V.ref a)∈pn->∀ (i:Nat) xs,ρ[i]?=some (some (.own xs))->σ[i]?≠some (some (.ref a)):=fun ys a hq i xs e y=>s.lj ys a hq i _ _ e y rfl
theorem StS.step {W:Wd}{pn:List (D×V)} {H H':Hp}{σ:St}{ρ:Ev}(s:StS W pn M b H σ ρ)(k:Kp b H H')(o:okB W.B b H'):StS W pn M b H' σ ρ:=⟨s.toSta.step k o,s.dj,s.lj⟩
theorem StS.of2 {W:Wd}{pn pn':List (D×V)}{M M':Addr->Prop}{b b':Option Addr}{H H':Hp}{σ σ':St}{ρ ρ':Ev}(s:StS W pn M b H σ ρ)(t:Sta W pn' M' b' H' σ' ρ')(hp:∀ ys a,(D.own ys,V.ref a)∈pn'->(D.own ys,V.ref a)∈pn)(h:∀ (i:Nat) d v c,ρ'[i]?=some (some d)->σ'[i]?=some (some v)->EM d v c->∃ d0,ρ[i]?=some (some d0)/\σ[i]?=some (some v)/\EM d0 v c):StS W pn' M' b' H' σ' ρ' :=
 ⟨t,fun i j d e v u c e1 e2 e3 e4 m1 m2=>by
  obtain ⟨d0,z1,z2,z3⟩:=h i d v c e1 e3 m1
  obtain ⟨d1,y1,y2,y3⟩:=h j e u c e2 e4 m2
  exact s.dj i j d0 d1 v u c z1 y1 z2 y2 z3 y3,fun ys a hq i d v e1 e2 m=>by
  obtain ⟨d0,z1,z2,z3⟩:=h i d v a e1 e2 m
  exact s.lj ys a (hp ys a hq) i d0 v z1 z2 z3⟩
theorem StS.of {W:Wd}{pn:List (D×V)}{M M':Addr->Prop}{b b':Option Addr}{H H':Hp}{σ σ':St}{ρ ρ':Ev}(s:StS W pn M b H σ ρ)(t:Sta W pn M' b' H' σ' ρ')(h:∀ (i:Nat) d,mine d=true->ρ'[i]?=some (some d)->ρ[i]?=some (some d)/\σ'[i]?=σ[i]?):StS W pn M' b' H' σ' ρ' :=
 s.of2 t (fun _ _ q=>q) fun i d v c e1 e2 m=>by
  obtain ⟨z1,z2⟩:=h i d m.m e1
  exact ⟨d,z1,z2▸e2,m⟩
theorem StS.add {W:Wd}{pn:List (D×V)}{M M':Addr->Prop}{b b':Option Addr}{H H':Hp}{σ:St}{ρ:Ev}(s:StS W pn M b H σ ρ)(i:Nat){d:D}{v:V}(t:Sta W pn M' b' H' (σ.set i (some v)) (ρ.set i (some d)))(h:∀ c,EM d v c->¬ M c):StS W pn M' b' H' (σ.set i (some v)) (ρ.set i (some d)):=by
 have slot:∀ (j:Nat) e u,(ρ.set i (some d))[j]?=some (some e)->(σ.set i (some v))[j]?=some (some u)->(j=i/\e=d/\u=v)\/(j≠i/\ρ[j]?=some (some e)/\σ[j]?=some (some u)):=fun j e u e1 e2=>by
  by_cases z:i=j
  · subst z
    rw [List.getElem?_set] at e1 e2
    simp at e1 e2
    exact .inl ⟨rfl,e1.2.symm,e2.2.symm⟩
  · rw [List.getElem?_set_ne z] at e1 e2
    exact .inr ⟨fun y=>z y.symm,e1,e2⟩
 have old:∀ (j:Nat) e u c,ρ[j]?=some (some e)->σ[j]?=some (some u)->EM e u c->M c:=fun j e u c e1 e2 m=>by
  obtain ⟨w,e3,r⟩:=s.env j e e1
  rw [e2] at e3;cases e3
  exact (r.mine m).1
 refine ⟨t,fun j k e f u w c e1 e2 e3 e4 m1 m2=>?_,fun ys a hq j e u e1 e2 m=>?_⟩
 · rcases slot j e u e1 e3 with ⟨z1,z2,z3⟩|⟨z1,z2,z3⟩<;>rcases slot k f w e2 e4 with ⟨y1,y2,y3⟩|⟨y1,y2,y3⟩
   · rw [z1,y1]
   · subst z2 z3;exact absurd (old k f w c y2 y3 m2) (h c m1)
   · subst y2 y3;exact absurd (old j e u c z2 z3 m1) (h c m2)
   · exact s.dj j k e f u w c z2 y2 z3 y3 m1 m2
 · rcases slot j e u e1 e2 with ⟨z1,z2,z3⟩|⟨z1,z2,z3⟩
   · subst z2 z3
     obtain ⟨a2,us2,ev,n1,_⟩:=(s.pin _ hq)
     cases ev
     exact absurd n1 (h a m)
   · exact s.lj ys a hq j e u z2 z3 m
structure DEnds where
 nx:Ev->Prop
 rt:D->Prop
 bk:Ev->Prop:=fun _=>False
 ct:Ev->Prop:=fun _=>False
 ro:List D->Prop:=fun _=>False
abbrev DS:=DEnds->Ev->Prop
structure Link (W:Wd)(pn:List (D×V))(E:Ends)(F:DEnds):Prop where
 nx:∀ M b ρ σ H,StS W pn M b H σ ρ->F.nx ρ->E.nx σ H
 rt:∀ d v H,F.rt d->Rep W.K W.M0 H d v->Kp W.b0 W.H0 H->okB W.B W.b0 H->E.rt v H
 bk:∀ M b ρ σ H,StS W pn M b H σ ρ->F.bk ρ->E.bk σ H
 ct:∀ M b ρ σ H,StS W pn M b H σ ρ->F.ct ρ->E.ct σ H
 ro:∀ xs a vs H,F.ro xs->W.H0 a=none->¬ W.M0 a->H a=some (.lst vs)->Reps W.K (fun c=>W.M0 c\/c=a) H xs vs->Kp W.b0 W.H0 H->okB W.B W.b0 H->E.rt (.ref a) H
def sn (W:Wd)(d:DS):TS:=fun E σ H=>∃ pn M b ρ F,StS W pn M b H σ ρ/\Link W pn E F/\d F ρ
theorem sn.elim {W:Wd}{d:DS}{E:Ends}{σ:St}{H:Hp}{Z:Prop}(h:sn W d E σ H)(f:∀ pn M b ρ F,StS W pn M b H σ ρ->Link W pn E F->d F ρ->Z):Z:=by
 obtain ⟨pn,M,b,ρ,F,s,l,h⟩:=h
 exact f pn M b ρ F s l h
section
variable {X:Cx}{W:Wd}{e a b c tg iter l:Expr}{es:List Expr}{pos p:Pos}{d db de:DE}{dA di:DA}{dt:DT}{st:Stmt}{rest sts:List Stmt}{d1 d2:DS}{t:TS}
theorem PS.mono {t':TS}(h:PS X st t)(m:∀ E σ H,t' E σ H->t E σ H):PS X st t':=fun pins s σ H D I q=>h pins s σ H D I (m D σ H q)
theorem PSs.mono {t':TS}(h:PSs X sts t)(m:∀ E σ H,t' E σ H->t E σ H):PSs X sts t':=fun pins s σ H D I q=>h pins s σ H D I (m D σ H q)
noncomputable def J2r:DS:=fun F ρ=>F.nx ρ
noncomputable def Q1f (d1 d2:DS):DS:=fun F ρ=>d1 { F with nx:=d2 F } ρ
theorem J6d:PSs X [] (sn W J2r):=IR.mono fun E σ H hh=>hh.elim fun pn M b ρ F s l h=>l.nx _ _ _ _ _ s h
theorem J6c (h:PS X st (sn W d1)):PSs X [st] (sn W d1):=CH h
theorem J2g (h1:PS X st (sn W d1))(h2:PSs X rest (sn W d2)):PSs X (st::rest) (sn W (Q1f d1 d2)):=(AA h1 h2).mono fun E σ H hh=>hh.elim fun pn M b ρ F s l h=>⟨pn,M,b,ρ,{ F with nx:=d2 F },s,⟨fun M b ρ σ H s' h'=>⟨pn,M,b,ρ,F,s',l,h'⟩,l.rt,l.bk,l.ct,l.ro⟩,h⟩
noncomputable def Q1h (de:DE):DS:=fun F ρ=>de ρ fun x=>match x with|.own xs=>F.rt (.lst xs)|.bag=>False|.frg _ _=>False|x=>F.rt x
theorem J4h {b:Option Addr}{H:Hp}{x:D}{v:V}(hs:Hs W M b H)(r:Rep W.K M H x v):Rep W.K W.M0 H x v:=Rep.avoid (fun c m=>.inl (hs.m0 c m)) _ _ r
theorem Q0n (he:PE X e (dn W de)):PS X (.Return (some e) pos) (sn W (Q1h de)):=(EW he).mono fun E σ H hh=>hh.elim fun pn M b ρ F s l h=>by
 refine ⟨pn,M,b,ρ,_,s.toSta,h,fun x v H' hx rx k o=>?_⟩
 have s':=s.toSta.step k o
 cases x
 case own xs =>
  obtain ⟨a,vs,rfl,m,n,n0,m0,hh,r⟩:=rx
  exact l.rt _ _ H' hx ⟨a,vs,rfl,⟨m0,hh⟩,Reps.avoid (fun c m=>.inl (s'.m0 c m)) _ _ r⟩ s'.kp s'.ok0
 case bag=>exact hx.elim
 case frg=>exact hx.elim
 all_goals exact l.rt _ _ H' hx (J4h s'.toHs (RepX.rep rx rfl)) s'.kp s'.ok0
noncomputable def Q1j (dt:DT)(d1 d2:DS):DS:=fun F ρ=>dt ρ fun c=>IfP c (d1 F ρ) (d2 F ρ)
theorem Q4c {s1 s2:List Stmt}(hc:PT X c (dnT W dt))(ha:PSs X s1 (sn W d1))(hb:PSs X s2 (sn W d2)):PS X (.If c s1 s2 pos) (sn W (Q1j dt d1 d2)):=(UZ hc ha hb).mono fun E σ H hh=>hh.elim fun pn M b ρ F s l h=>by
 refine ⟨pn,M,b,ρ,_,s.toSta,h,fun x H' hx k o=>?_⟩
 cases hx with
 | t e hx=>rw [if_pos e];exact ⟨pn,M,b,ρ,F,s.step k o,l,hx⟩
 | f e hx=>rw [if_neg (by rw [e];exact Bool.false_ne_true)];exact ⟨pn,M,b,ρ,F,s.step k o,l,hx⟩
noncomputable def YI (de:DE)(gd:D->Ev->(Ev->Prop)->Prop):DS:=fun F ρ=>de ρ fun x=>plain x=true/\gd x ρ F.nx
theorem YZ {g:TG}{gd:D->Ev->(Ev->Prop)->Prop}(hG:GD W g gd):∀ E σ H,sn W (YI de gd) E σ H->J4c (dn W de) g E σ H:=fun E σ H hh=>hh.elim fun pn M b ρ F s l h=>by
 refine ⟨pn,M,b,ρ,_,s.toSta,h,fun x v H' hx rx k o=>?_⟩
 exact hG pn M b H' σ ρ x v E.nx F.nx (s.toSta.step k o) rx hx.1 hx.2 fun ρ' σ' hp st' ho=>l.nx _ _ _ _ _ (s.of st' ho) hp
theorem Q0m {i:Nat} {x:Str} {pos':Pos} (hN:X.N.Nodup) (hi:X.N[i]?=some x) (hx:Loc X.env.scope x) (he:PE X e (dn W de)) (hs:swapsWith e (some (.Name x pos')) pos.line X.env=pure false:=by rfl) (hf:X.fn x=true\/X.env.scope.names.lookup x=some .local:=by first|exact .inl rfl|exact .inr rfl|assumption) :
 PS X (.Assign [.Name x pos'] e pos) (sn W (YI de (gdN i))):=(BX hN hi hx he hs hf).mono (YZ (V1 i))
theorem Q0q {g:TG}{gd:D->Ev->(Ev->Prop)->Prop}(hG:GD W g gd)(he:PE X e (dn W de))(hg:PG X tg g)(hs:swapsWithSole [tg] e pos.line X.env=pure false:=by rfl)(hw:swappedStores [tg] e X.env=pure none:=by rfl)
 (h1:(assignEach [tg] X.env).map (·.2)=[assign tg X.env]:=by rfl):PS X (.Assign [tg] e pos) (sn W (YI de gd)):=(NV he hg hs hw h1).mono (YZ hG)
theorem StS.newOwn {pn:List (D×V)} {b:Option Addr}{H:Hp}{σ:St}{ρ:Ev}{xs:List D}{vs:List V}{p:Addr}(s:StS W pn M b H σ ρ)(i:Nat)(r:Reps W.K M H xs vs)(h:H p=none) :
 StS W pn (fun c=>M c\/c=p) b (upd H p (.lst vs)) (σ.set i (some (.ref p))) (ρ.set i (some (.own xs))):=by
 have hM:∀ c,(M c\/c=p)->M c\/H c=none:=fun c hc=>hc.imp id (fun z=>by rw [z];exact h)
 have kk:∀ c o,H c=some o->upd H p (.lst vs) c=some o:=fun c o e=>Same.upd h c o e
 have rep:∀ d v,Rep W.K M H d v->Rep W.K (fun c=>M c\/c=p) (upd H p (.lst vs)) d v:=fun d v r=>Rep.keep (fun c o _ e=>kk c o e) _ _ (Rep.avoid hM _ _ r)
 have reps:∀ d v,Reps W.K M H d v->Reps W.K (fun c=>M c\/c=p) (upd H p (.lst vs)) d v:=fun d v r=>Reps.keep (fun c o _ e=>kk c o e) _ _ (Reps.avoid hM _ _ r)
 have hbp:b≠some p:=fun z=>by
  obtain ⟨o,e⟩:=W.B.dm p H (s.ok p z)
  rw [h] at e;cases e
 have h0:W.H0 p=none:=by
  cases q:W.H0 p with
  | none=>rfl
  | some o =>
    by_cases z:W.b0=some p
    · rcases s.new with y|⟨y,_⟩
      · exact absurd (y.trans z) hbp
      · rw [y] at z;cases z
    · have:=s.kp p o z q
      rw [h] at this;cases this
 have hm0:¬ W.M0 p:=fun z=>s.toHs.new h (s.m0 p z)
 refine s.add i ⟨⟨s.toHs.okU h,fun q e=>.inl (s.bagM q e),fun c hc=>?_,fun c m=>.inl (s.m0 c m)⟩,fun c o n e=>kk c o (s.kp c o n e),s.new,fun j d e=>?_,by simp [s.len],fun q hq=>(s.pin q hq).to rep reps fun xs a vs _ _ m n hh=>⟨.inl m,n,kk _ _ hh⟩⟩ fun c m=>by
  cases (show V.ref p=V.ref c from m)
  exact s.toHs.new h
 · rcases hc with hc|hc
   · obtain ⟨o,e⟩:=s.dom c hc;exact ⟨o,kk c o e⟩
   · rw [hc];exact ⟨_,Q6⟩
 · by_cases z:i=j
   · subst z
     rw [List.getElem?_set] at e
     simp at e
     obtain ⟨hl,rfl⟩:=e
     exact ⟨.ref p,by rw [List.getElem?_set];simp [<- s.len,hl],p,vs,rfl,.inr rfl,hbp,h0,hm0,Q6,reps _ _ r⟩
   · rw [List.getElem?_set_ne z] at e
     obtain ⟨w,e1,r1⟩:=s.env j d e
     refine ⟨w,by rw [List.getElem?_set_ne z];exact e1,?_⟩
     cases d
     case own ys =>
      obtain ⟨a,us,rfl,m1,m2,m3,m4,hh,r'⟩:=r1
      exact ⟨a,us,rfl,.inl m1,m2,m3,m4,kk _ _ hh,reps _ _ r'⟩
     case bag=>exact r1
     case frg f _=>exact RepX.move r1 (fun c _ m n=>⟨.inl m,n⟩) (fun c o _ e=>kk c o e) hM
     all_goals exact rep _ _ r1
theorem StS.setOwn {pn:List (D×V)} {b:Option Addr}{H:Hp}{σ:St}{ρ:Ev}{xs ys:List D}{vs:List V}{a:Addr}(s:StS W pn M b H σ ρ)(i:Nat)(e:ρ[i]?=some (some (.own xs)))(ea:σ[i]?=some (some (.ref a)))(r:Reps W.K M H ys vs) :
 StS W pn M b (upd H a (.lst vs)) σ (ρ.set i (some (.own ys))):=by
 obtain ⟨v,e1,a',us,ev,m1,m2,m3,m4,hh,r'⟩:=s.env i _ e
 rw [ea] at e1;cases e1;cases ev
 have kk:∀ c o,¬ M c->H c=some o->upd H a (.lst vs) c=some o:=fun c o n q=>by rw [Q3 (show c≠a from fun z=>n (by rw [z];exact m1))];exact q
 have kb:∀ c o,c≠a->H c=some o->upd H a (.lst vs) c=some o:=fun c o n q=>by rw [Q3 n];exact q
 refine s.of2 ⟨⟨fun q z=>W.B.st q H _ (s.ok q z) fun o h=>kb q o (fun w=>m2 (w▸z)) h,s.bagM,fun c hc=>?_,s.m0⟩,fun c o n q=>kb c o (fun z=>by rw [z,m3] at q;cases q) (s.kp c o n q),s.new,fun j d e'=>?_,by simp [s.len],fun q hq=>(s.pin q hq).to (fun _ _ r=>Rep.keep kk _ _ r) (fun _ _ r=>Reps.keep kk _ _ r) fun zs a2 us ed ev m n hh2=>⟨m,n,kb _ _ (fun y=>s.lk zs a2 (by rw [<- ed,<- ev];exact hq) i xs e (by rw [y];exact ea)) hh2⟩⟩ (fun _ _ q=>q) fun j d v c e' e2 m=>?_
 · by_cases z:c=a
   · rw [z];exact ⟨_,Q6⟩
   · obtain ⟨o,q⟩:=s.dom c hc;exact ⟨o,kb c o z q⟩
 · by_cases z:i=j
   · subst z
     rw [List.getElem?_set] at e'
     simp at e'
     obtain ⟨hl,rfl⟩:=e'
     exact ⟨.ref a,ea,a,vs,rfl,m1,m2,m3,m4,Q6,Reps.keep kk _ _ r⟩
   · rw [List.getElem?_set_ne z] at e'
     obtain ⟨w,e1,r1⟩:=s.env j d e'
     refine ⟨w,e1,?_⟩
     cases d
     case own zs =>
      obtain ⟨a2,us2,rfl,n1,n2,n3,n4,hh2,r2⟩:=r1
      have na:a2≠a:=fun y=>z (s.own i j xs zs a e e' ea (y▸e1))
      exact ⟨a2,us2,rfl,n1,n2,n3,n4,kb _ _ na hh2,Reps.keep kk _ _ r2⟩
     case bag=>exact r1
     case frg f _ =>
      have na:a∉f.ads:=fun y=>z (s.dj i j _ _ _ _ a e e' ea e1 rfl y)
      exact RepX.move r1 (fun c _ m n=>⟨m,n⟩) (fun c o q h=>kb c o (fun y=>q.elim (fun n=>n (by rw [y];exact m1)) (fun n=>na (by rw [<- y];exact n))) h) fun c m=>.inl m
     all_goals exact Rep.keep kk _ _ r1
 · by_cases z:i=j
   · subst z
     rw [List.getElem?_set] at e'
     simp at e'
     obtain ⟨_,rfl⟩:=e'
     exact ⟨_,e,e2,m⟩
   · rw [List.getElem?_set_ne z] at e'
     exact ⟨d,e',e2,m⟩
noncomputable def J7r (i:Nat)(dA:DA):DS:=fun F ρ=>dA ρ fun xs=>GJ xs=true/\F.nx (ρ.set i (some (.own xs)))
theorem J6g {i:Nat} {x:Str} {pos' lpos:Pos} (hN:X.N.Nodup) (hi:X.N[i]?=some x) (hx:Loc X.env.scope x) (ha:PA X es (dnA W dA)) (hs:swapsWith (.List es lpos) (some (.Name x pos')) pos.line X.env=pure false:=by rfl) (hf:X.fn x=true\/X.env.scope.names.lookup x=some .local:=by first|exact .inl rfl|exact .inr rfl|assumption) :
 PS X (.Assign [.Name x pos'] (.List es lpos) pos) (sn W (J7r i dA)):=(BX hN hi hx (TL ha) hs hf).mono fun E σ H hh=>hh.elim fun pn M b ρ F s l h=>by
 refine ⟨pn,M,b,ρ,_,s.toSta,h,fun xs vs H' hx rx k o=>?_⟩
 have rr:=rx.reps _ _ (GJ.pl hx.1)
 exact ⟨by rw [rr.length];exact GJ.len hx.1,fun q hq=>l.nx _ _ _ _ _ ((s.step k o).newOwn i rr hq) hx.2⟩
noncomputable def J7q (own:Bool)(i:Nat)(map:List (Option Nat))(gd:D->Ev->(Ev->Prop)->Prop)(di:DA)(dt:DT)(de:DE):DS:=fun F ρ=>di ρ fun items=>items.length<=1000/\compI gd dt de (DW ρ map) items fun acc=>F.nx (ρ.set i (some (if own then .own acc else .lst acc)))
theorem J6f {elt iter tg:Expr}{ifs:List Expr}{scope:Scope}{N':List Str}{map:List (Option Nat)}{g:TG}{gd:D->Ev->(Ev->Prop)->Prop}(own:Bool){i:Nat}{y:Str}{py spos:Pos}(hN:X.N.Nodup)(hiN:X.N[i]?=some y)(hy:Loc X.env.scope y)(hG:GD W g gd)(B:Blk X N' scope map tg elt ifs g (dnT W dt) (dn W de))(hi:PI X tg iter (dnI W false di))
 (hsw:swapsWith (.ListComp elt [⟨tg,iter,ifs,0⟩] scope pos) (some (.Name y py)) spos.line X.env=pure true:=by rfl) (hfn:X.fn y=true\/X.env.scope.names.lookup y=some .local:=by first|exact .inl rfl|exact .inr rfl)
 (hs:∀ x,foldedSetIterable iter X.env x=pure x:=by intro _;rfl):PS X (.Assign [.Name y py] (.ListComp elt [⟨tg,iter,ifs,0⟩] scope pos) spos) (sn W (J7q own i map gd di dt de)):=(SX hN hiN hy B hi hsw hfn hs).mono fun E σ H hh=>hh.elim fun pn M b ρ F s l h=>by
 refine ⟨pn,M,b,ρ,_,s.toSta,h,fun items J need H1 hx hp hI hn k1 o1=>?_⟩
 have s1:=s.step k1 o1
 refine EI hG (s1.toSta.capt map) hp hI (fun q hq=>(hn q hq).1) hx.1 hx.2 fun ds acc H' hP r hl k2 o2 q hq=>?_
 have s2:=s1.step k2 o2
 cases own
 · have s3:=(s2.step (Kp.upd (o:=.lst acc) hq) (s2.toHs.okU hq))
   exact l.nx _ _ _ _ _ (s3.of (s3.toSta.set i (DB s2.toHs r hq)) (OA rfl)) hP
 · exact l.nx _ _ _ _ _ (s2.newOwn i r hq) hP
theorem OB {pn:List (D×V)} {b:Option Addr}{H:Hp}{σ:St}{ρ:Ev}{i:Nat}{ys:List D}(s:Sta W pn M b H σ ρ)(e:ρ[i]?=some (some (.own ys))):∃ a vs,σ[i]?=some (some (.ref a))/\b≠some a/\H a=some (.lst vs)/\Reps W.K M H ys vs:=by
 obtain ⟨v,e1,a,us,rfl,m1,m2,m3,m4,hh,r⟩:=s.env i _ e
 exact ⟨a,us,e1,m2,hh,r⟩
inductive forI (gd:D->Ev->(Ev->Prop)->Prop)(db:DS)(F:DEnds)(items:List D)(ρ:Ev):Prop
 | mk (I:Nat->Ev->Prop) (h0:I 0 ρ) (hs:∀ (i:Nat) x ρ,items[i]?=some x->I i ρ->gd x ρ fun ρ1=>db { F with nx:=I (i+1),ct:=I (i+1),bk:=F.nx } ρ1) (hd:∀ ρ,I items.length ρ->F.nx ρ):forI gd db F items ρ
noncomputable def J6p (gd:D->Ev->(Ev->Prop)->Prop)(di:DA)(db:DS):DS:=fun F ρ=>di ρ fun items=>forI gd db F items ρ
theorem Sta.pins {pn pn':List (D×V)} {b:Option Addr}{H:Hp}{σ:St}{ρ:Ev}(s:Sta W pn M b H σ ρ)(h:∀ q∈pn',PinR W M b H q.1 q.2):Sta W pn' M b H σ ρ:=⟨s.toHs,s.kp,s.new,s.env,s.len,h⟩
theorem J8d {g:TG}{gd:D->Ev->(Ev->Prop)->Prop}{db:DS}(hG:GD W g gd):∀ E σ H,sn W (J6p gd di db) E σ H->Q2p (dnI W true di) g (sn W db) E σ H:=fun E σ H hh=>hh.elim fun pn M b ρ F s l h=>by
 refine ⟨pn,M,b,ρ,_,s.toSta,h,fun items J need H1 hx hp hI hn k1 o1=>?_⟩
 have s1:=s.step k1 o1
 have pins:∀ q∈need++pn,PinR W M b H1 q.1 q.2:=fun q hq=>(List.mem_append.mp hq).elim (fun z=>(hn q z).1.pin ((hn q z).2 rfl)) fun z=>s1.pin q z
 obtain ⟨I,i0,istep,idone⟩:=hx
 refine ⟨fun i m σ H=>m=items.length - i/\i<=items.length/\∃ M b ρ,StS W (need++pn) M b H σ ρ/\I i ρ,⟨items.length,by simp,Nat.zero_le _,M,b,ρ,⟨s1.toSta.pins pins,s1.dj,fun ys a hq=>(List.mem_append.mp hq).elim (fun z=>by have:=(hn _ z).2 rfl;cases this) fun z=>s1.lj ys a z⟩,i0⟩,?_⟩
 rintro i m σ2 H2 ⟨rfl,hi,M2,b2,ρ2,s2,q⟩
 have unp:∀ {M b ρ σ H},StS W (need++pn) M b H σ ρ->StS W pn M b H σ ρ:=fun s=>⟨s.toSta.pins fun q hq=>s.pin q (List.mem_append_right _ hq),s.dj,fun ys a hq=>s.lj ys a (List.mem_append_right _ hq)⟩
 obtain ⟨hgo,hstop⟩:=hI M2 b2 H2 s2.toHs fun q hq=>(s2.pin q (List.mem_append_left _ hq)).x
 by_cases hlt:i<items.length
 · have ei:items[i]?=some items[i]:=List.getElem?_eq_getElem hlt
   replace q:=istep i _ ρ2 ei q
   refine .inr ⟨(hgo i _ ei).1,fun σ' H'=>∃ M b ρ,StS W (need++pn) M b H' σ' ρ/\I (i+1) ρ,fun σ' H' n=>⟨items.length - (i+1),by omega,rfl,hlt,n⟩,fun x H3 y=>?_⟩
   obtain ⟨S3,rx⟩:=(hgo i _ ei).2 x H3 y
   have o3:okB W.B b2 H3:=fun p e=>W.B.st p H2 H3 (s2.ok p e) fun o e'=>S3 p o e'
   have s3:=s2.step (Kp.same S3) o3
   refine hG (need++pn) M2 b2 H3 σ2 ρ2 items[i] x _ _ s3.toSta rx (List.all_eq_true.mp hp _ (List.getElem_mem hlt)) q fun ρ1 σ1 h1 st4 ho=>?_
   exact ⟨need++pn,M2,b2,ρ1,{ F with nx:=I (i+1),ct:=I (i+1),bk:=F.nx },s3.of st4 ho,⟨fun M b ρ σ H s' h'=>⟨M,b,ρ,s',h'⟩,l.rt,fun M b ρ σ H s' h'=>l.nx _ _ _ _ _ (unp s') h',fun M b ρ σ H s' h'=>⟨M,b,ρ,s',h'⟩,l.ro⟩,h1⟩
 · have e:i=items.length:=by omega
   subst e
   exact .inl ⟨hstop _ (Nat.le_refl _),l.nx _ _ _ _ _ (unp s2) (idone _ q)⟩
theorem Q0o {g:TG}{gd:D->Ev->(Ev->Prop)->Prop}{db:DS}{body:List Stmt}(hG:GD W g gd)(hp:PassesOwn (model X.prog X.w) X.A X.env X.xe)(hc:X.calm=true)(hi:PI X tg iter (dnI W true di))(hg:PG X tg g)(hb:PSs X body (sn W db))
 (hs:∀ x,foldedSetIterable iter X.env x=pure x:=by intro _;rfl):PS X (.For tg iter body [] pos) (sn W (J6p gd di db)):=(J9a hp hc hi hg hb hs).mono (J8d hG)
noncomputable def Q1k (i:Nat)(d:DS):DS:=fun F ρ=>match ρ[i]? with|some (some (.own xs))=>d F (ρ.set i (some (.lst xs)))|_=>False
theorem Sta.avoid {pn:List (D×V)}{M M':Addr->Prop}{b:Option Addr}{H:Hp}{σ:St}{ρ:Ev}(s:Sta W pn M b H σ ρ)(h:∀ c,M' c->M c)(hb:∀ p,b=some p->M' p)(h0:∀ c,W.M0 c->M' c)(ho:∀ (i:Nat) d v c,ρ[i]?=some (some d)->σ[i]?=some (some v)->EM d v c->M' c)(hpo:∀ xs a,(D.own xs,V.ref a)∈pn->M' a):Sta W pn M' b H σ ρ where
 ok:=s.ok
 bagM:=hb
 dom:=fun c m=>s.dom c (h c m)
 m0:=h0
 kp:=s.kp
 new:=s.new
 len:=s.len
 pin:=fun q hq=>(s.pin q hq).to (fun _ _ r=>Rep.avoid (fun c m=>.inl (h c m)) _ _ r) (fun _ _ r=>Reps.avoid (fun c m=>.inl (h c m)) _ _ r) fun xs a vs ed ev m n hh=>⟨hpo xs a (by rw [<- ed,<- ev];exact hq),n,hh⟩
 env:=fun i d e=>by
  obtain ⟨v,e1,r⟩:=s.env i d e
  refine ⟨v,e1,?_⟩
  cases d
  case own xs =>
   obtain ⟨a,us,rfl,m1,m2,m3,m4,hh,r'⟩:=r
   exact ⟨a,us,rfl,ho i _ _ a e e1 rfl,m2,m3,m4,hh,Reps.avoid (fun c m=>.inl (h c m)) _ _ r'⟩
  case bag=>exact r
  case frg f _=>exact RepX.move r (fun c m _ n=>⟨ho i _ _ c e e1 m,n⟩) (fun c o _ e=>e) fun c m=>.inl (h c m)
  all_goals exact Rep.avoid (fun c m=>.inl (h c m)) _ _ r
theorem J6e (i:Nat)(h:PSs X sts (sn W d1)):PSs X sts (sn W (Q1k i d1)):=h.mono fun E σ H hh=>hh.elim fun pn M b ρ F s l h=>by
 unfold Q1k at h
 split at h
 case h_2=>exact h.elim
 case h_1 xs e =>
  obtain ⟨v,e1,a,us,rfl,m1,m2,m3,m4,hh,r⟩:=s.env i _ e
  have st:Sta W pn (fun c=>M c/\c≠a) b H σ (ρ.set i none):=by
   refine Sta.avoid (M:=M) ⟨s.toHs,s.kp,s.new,fun j d e'=>?_,by simp [s.len],s.pin⟩ (fun c m=>m.1) (fun p z=>⟨s.bagM p z,fun y=>m2 (by rw [<- y];exact z)⟩) (fun c m=>⟨s.m0 c m,fun y=>m4 (by rw [<- y];exact m)⟩) (fun j d' v' c' e' e2 mm=>?_) fun ys a' hq=>⟨by
    obtain ⟨a2,us2,ev,n1,_⟩:=(s.pin _ hq)
    cases ev;exact n1,fun y=>s.lk ys a' hq i xs e (by rw [y];exact e1)⟩
   · by_cases z:i=j
     · subst z;rw [List.getElem?_set] at e';simp at e'
     · rw [List.getElem?_set_ne z] at e';exact s.env j d e'
   · by_cases z:i=j
     · subst z;rw [List.getElem?_set] at e';simp at e'
     · rw [List.getElem?_set_ne z] at e'
       obtain ⟨v3,e3,r3⟩:=s.env j _ e'
       rw [e2] at e3;cases e3
       exact ⟨(r3.mine mm).1,fun y=>z (s.dj i j _ _ _ _ a e e' e1 e2 rfl (by rw [<- y];exact mm))⟩
  have st2:=st.set (x:=.lst xs) (v:=.ref a) i ⟨a,us,rfl,⟨fun m=>m.2 rfl,hh⟩,Reps.avoid (fun c m=>.inl m.1) _ _ r⟩
  have eσ:σ.set i (some (.ref a))=σ:=by
   apply List.ext_getElem?
   intro n
   by_cases z:i=n
   · subst z;rw [List.getElem?_set,e1];simp;exact (List.getElem?_eq_some_iff.mp e1).1
   · rw [List.getElem?_set_ne z]
  rw [eσ,List.set_set] at st2
  refine ⟨pn,_,b,_,F,s.of st2 fun j ys hm e'=>?_,l,h⟩
  by_cases z:i=j
  · subst z;rw [List.getElem?_set] at e';simp at e';rw [<- e'.2] at hm;cases hm
  · rw [List.getElem?_set_ne z] at e';exact ⟨e',rfl⟩
noncomputable def J2p (Ed:Addr->Prop)(C:Addr):DS:=fun _ _=>Ed C
theorem J2h {E:XK}{Ed:Addr->Prop}{C:Addr}(hE:DY W E Ed)(h:PS X st (fun _ _ H1=>E (.ref C) none H1)):PS X st (sn W (J2p Ed C)):=h.mono fun E' σ H hh=>hh.elim fun pn M b ρ F s l h=>hE C H h s.kp s.ok0
end
def AJ (N:List Str)(ds:List D):Ev:=ds.map some++List.replicate (N.length - ds.length) none
theorem RepAs.get {H:Hp}:∀ {ds:List D} {vs:List V} {i:Nat} {d:D},RepAs K M b H ds vs->ds[i]?=some d->∃ v,vs[i]?=some v/\Q1z K M b H d v
 | [],_,_,_,h,e=>by simp at e
 | d::ds,vs,0,_,h,e=>by
   obtain ⟨v,r,rfl,h1,h2⟩:=h
   simp at e;subst e
   exact ⟨v,rfl,h1⟩
 | d::ds,vs,i+1,d',h,e=>by
   obtain ⟨v,r,rfl,h1,h2⟩:=h
   obtain ⟨u,e1,e2⟩:=RepAs.get (i:=i) h2 (by simpa using e)
   exact ⟨u,by simpa using e1,e2⟩
theorem IY {N:List Str}{ds:List D}{i:Nat}{d:D}(h:(AJ N ds)[i]?=some (some d)):ds[i]?=some d:=by
 unfold AJ at h
 by_cases hi:i<ds.length
 · rw [List.getElem?_append_left (by simpa using hi),List.getElem?_map] at h
   simpa using h
 · rw [List.getElem?_append_right (by simpa using hi)] at h
   have:=List.mem_of_getElem? h
   simp at this
theorem J2d {B:BagT} {N:List Str}{ds:List D}{vs:List V}{H:Hp}(hr:RepAs K M b H ds vs)(ho:okB B b H)(hb:∀ p,b=some p->M p)(hd:∀ c,M c->∃ o,H c=some o):StS ⟨K,B,H,M,b⟩ [] M b H (CV N vs) (AJ N ds):=by
 refine ⟨⟨⟨ho,hb,hd,fun _ m=>m⟩,Kp.refl _ _,.inl rfl,fun i d e=>?_,by simp [CV,AJ,hr.length],fun _ hq=>by cases hq⟩,fun i j d e v u c e0 _ _ _ m _=>?_,fun _ _ hq=>by cases hq⟩
 · obtain ⟨v,e1,r⟩:=hr.get (IY e)
   refine ⟨v,?_,?_⟩
   · unfold CV
     rw [List.getElem?_append_left (by simpa using (List.getElem?_eq_some_iff.mp e1).1),List.getElem?_map,e1];rfl
   · cases d<;>first|exact r|exact r.elim
 · obtain ⟨v',e1,r⟩:=hr.get (IY e0)
   cases d<;>first|exact m.elim|exact r.elim
theorem Q3q {B:BagT} {H:Hp}{Q:VK}{P:D->Prop}(hq:∀ d v H',P d->Rep K M H' d v->Kp b H H'->okB B b H'->Q v H'):Link ⟨K,B,H,M,b⟩ [] { nx:=fun _ H'=>Q .non H',rt:=Q } { nx:=fun _=>P .non,rt:=P } :=
 ⟨fun M b ρ σ H s h=>hq _ _ _ h rfl s.kp s.ok0,fun d v H h r k o=>hq d v H h r k o,fun _ _ _ _ _ _ h=>h.elim,fun _ _ _ _ _ _ h=>h.elim,fun _ _ _ _ h=>h.elim⟩
theorem run {B:BagT} {N:List Str}{ds:List D}{vs:List V}{H:Hp}{Q:VK}{P:D->Prop}{d:DS}(hr:RepAs K M b H ds vs)(ho:okB B b H)(hb:∀ p,b=some p->M p)(hd:∀ c,M c->∃ o,H c=some o)(hq:∀ d v H',P d->Rep K M H' d v->Kp b H H'->okB B b H'->Q v H')
 (h:d { nx:=fun _=>P .non,rt:=P } (AJ N ds)):sn ⟨K,B,H,M,b⟩ d { nx:=fun _ H'=>Q .non H',rt:=Q } (CV N vs) H :=
 ⟨[],M,b,AJ N ds,_,J2d hr ho hb hd,Q3q hq,h⟩
theorem Q4.len {B:BagT}{S:DSp}{n:Nat}(h:∀ ds P Ed,S ds P Ed->ds.length=n):∀ vs H Q E,Q4 K B S vs H Q E->vs.length=n:=fun vs H Q E ⟨M,b,ds,P,Ed,hS,hr,_⟩=>by rw [hr.length];exact h _ _ _ hS
section
variable {X:Cx}{W:Wd}{e a b c l:Expr}{es:List Expr}{pos p:Pos}{d dl de:DE}{dA:DA}{st:Stmt}
abbrev DO:=Ev->(Option Int->Prop)->Prop
def dnO (W:Wd)(d:DO):TO:=fun σ H Q=>∃ pn M b ρ P,Sta W pn M b H σ ρ/\d ρ P/\∀ x H',P x->Kp b H H'->okB W.B b H'->Q x H'
theorem dnO.elim {W:Wd}{d:DO}{σ:St}{H:Hp}{Q:Option Int->Hp->Prop}{R:Prop}(h:dnO W d σ H Q)(f:∀ pn M b ρ P,Sta W pn M b H σ ρ->d ρ P->(∀ x H',P x->Kp b H H'->okB W.B b H'->Q x H')->R):R:=by
 obtain ⟨pn,M,b,ρ,P,st,h,k⟩:=h
 exact f pn M b ρ P st h k
noncomputable def oNo:DO:=fun _ P=>P none
noncomputable def oPt (de:DE):DO:=fun ρ P=>de ρ fun x=>match x with|.int i=>P (some i)|_=>False
theorem J6i:PO X none (dnO W oNo):=fun pins s σ H Q I hh=>hh.elim fun pn M b ρ P st h k=>J4t pins s σ H Q I (k _ H h (Kp.refl _ _) st.ok)
theorem J6h (h:PE X e (dn W de)):PO X (some e) (dnO W (oPt de)):=fun pins s σ H Q I hh=>hh.elim fun pn M b ρ P st q k=>J4s h pins s σ H Q I (by
 refine ⟨pn,M,b,ρ,_,st,q,fun x v H1 hx rx k1 o1=>?_⟩
 cases x<;>first|exact hx.elim|skip
 cases (show _=_ from rx)
 exact ⟨_,rfl,k _ H1 hx k1 o1⟩)
def J2t (xs:List D)(lo hi:Option Int):List D:=(xs.drop (HT.sIx xs.length 0 lo)).take (HT.sIx xs.length xs.length hi - HT.sIx xs.length 0 lo)
theorem Reps.cut {H:Hp}{ds:List D}{vs:List V}(h:Reps K M H ds vs)(lo hi:Option Int):Reps K M H (J2t ds lo hi) (RX vs lo hi):=by
 unfold J2t RX
 rw [h.length]
 exact Reps.take _ (Reps.drop _ h)
noncomputable def oSl (x:D)(lo hi:Option Int)(P:D->Prop):Prop:=match x with
 | .tup xs=>¬ (HT.sIx xs.length 0 lo=0/\HT.sIx xs.length xs.length hi=xs.length)/\P (.tup (J2t xs lo hi))
 | .lst xs=>P (.lst (J2t xs lo hi))
 | .own xs=>P (.lst (J2t xs lo hi))
 | _=>False
noncomputable def dSl (de:DE)(dl dh:DO):DE:=fun ρ P=>de ρ fun x=>dl ρ fun lo=>dh ρ fun hi=>oSl x lo hi P
theorem J4e (K:Fg)(h:X.K=K):SlR X (ZP K):=by subst h;exact J8o
theorem J8p (K:Fg)(h:X.K=K):SlR X (fun x lo hi H Q=>ZP K x lo hi H Q\/ZQ K x lo hi H Q):=(J4e K h).or (WR K h)
theorem J2k {lo hi:Option Expr}{dl dh:DO}{p2:Pos}(hr:SlR X (fun x lo hi H Q=>ZP W.K x lo hi H Q\/ZQ W.K x lo hi H Q))(he:PE X e (dn W de))(hl:PO X lo (dnO W dl))(hu:PO X hi (dnO W dh)):PE X (.Subscript e (.Slice lo hi none p2) pos) (dn W (dSl de dl dh)):=(J0a hr he hl hu).mono fun σ H Q hh=>hh.elim fun pn M b ρ P st h k=>by
 refine ⟨pn,M,b,ρ,_,st,h,fun x v H1 hx rx k1 o1=>?_⟩
 refine ⟨pn,M,b,ρ,_,st.step k1 o1,hx,fun lo H2 hy k2 o2=>?_⟩
 refine ⟨pn,M,b,ρ,_,(st.step k1 o1).step k2 o2,hy,fun hi H3 hz k3 o3=>?_⟩
 have s3:=((st.step k1 o1).step k2 o2).step k3 o3
 have rx:=(rx.step st.bagM k2).step st.bagM k3
 have kk:=(k1.trans k2).trans k3
 cases x<;>first|exact hz.elim|skip
 case tup xs =>
  obtain ⟨a,vs,rfl,hh,r⟩:=rx
  refine .inl ⟨a,vs,rfl,hh.sq,by rw [r.length];exact hz.1,fun p hp=>k _ _ _ hz.2 (FP s3.toHs (r.cut lo hi) hp) (kk.trans (Kp.upd hp)) (s3.okU hp)⟩
 case lst xs =>
  obtain ⟨a,vs,rfl,hh,r⟩:=rx
  refine .inr ⟨a,vs,rfl,SqL.of hh.2,fun p hp=>k _ _ _ hz (DB s3.toHs (r.cut lo hi) hp) (kk.trans (Kp.upd hp)) (s3.okU hp)⟩
 case own xs =>
  obtain ⟨a,vs,rfl,_,_,_,_,hh,r⟩:=rx
  refine .inr ⟨a,vs,rfl,SqL.of hh,fun p hp=>k _ _ _ hz (DB s3.toHs (r.cut lo hi) hp) (kk.trans (Kp.upd hp)) (s3.okU hp)⟩
noncomputable def Q3p:D->D->(D->Prop)->Prop:=fun x y P=>match asL x,asL y with
 | some xs,some ys=>xs.length+ys.length<=1000/\P (.lst (xs++ys))
 | _,_=>False
theorem J9m:OpD W Q3c Q3p:=by
 intro M b H x y v u P Q hs rx ry ho k
 unfold Q3p at ho
 split at ho
 case h_2=>exact ho.elim
 case h_1 xs ys e1 e2 =>
  obtain ⟨a1,vs,rfl,h1,r1⟩:=asL.rep rx e1
  obtain ⟨a2,us,rfl,h2,r2⟩:=asL.rep ry e2
  exact ⟨a1,a2,vs,us,rfl,rfl,h1,h2,by rw [r1.length,r2.length];exact Nat.le_trans ho.1 AT,fun p hp=>k _ _ _ ho.2 (DB hs (Reps.append r1 r2) hp) (Kp.upd hp) (hs.okU hp)⟩
theorem Reps.ne {H:Hp}{ds:List D}{vs:List V}(h:Reps K M H ds vs)(n:ds≠[]):vs≠[]:=fun z=>by
 have:=h.length
 rw [z] at this
 exact n (List.length_eq_zero_iff.mp this.symm)
def SI (K:Fg)(B:BagT)(pre:List D->Prop):Sp:=fun vs H Q _=>∃ (M:Addr->Prop) (b:Option Addr) (ds:List D),RepAs K M b H ds vs/\pre ds/\∀ p H1,H p=none->Same H H1->B.ok p H1->Q (.ref p) H1
def RV (ρ:Ev):Ev:=ρ.map fun o=>match o with|some .bag=>none|o=>o
noncomputable def Q4r (i:Nat)(pre:List D->Prop)(dA:DA):DS:=fun F ρ=>dA ρ fun ds=>ds.all OG=true/\pre ds/\F.nx ((RV ρ).set i (some .bag))
theorem MY {ρ:Ev}{i:Nat}{d:D}(h:(RV ρ)[i]?=some (some d)):ρ[i]?=some (some d)/\d≠.bag:=by
 unfold RV at h
 rw [List.getElem?_map] at h
 cases q:ρ[i]? with
 | none=>rw [q] at h;cases h
 | some o =>
   rw [q] at h
   cases o with
   | none=>cases h
   | some d'=>cases d'<;>simp at h<;>subst h<;>exact ⟨rfl,by intro z;cases z⟩
theorem Q0p {spos:Pos}{x f:Str}{k:Nat}{ps:List Str}{pre:List D->Prop}{i:Nat}{pos':Pos}(hb0:W.b0=none)(hN:X.N.Nodup)(hi:X.N[i]?=some x)(hx:Loc X.env.scope x)(G:Callee X.prog X.w X.K X.mg X.base CX0 f k ps (SI W.K W.B pre))(hr:Room k X.A)(hg:Gl X f)(ha:PA X (e::es) (dnA W dA))
 (hdb:(f==("__debug__" : Str))=false:=by decide) (he:starEach (e::es) X.env=(false,eval e X.env)::starEach es X.env:=by rfl) (hpl:(backTo pos (starEach es X.env)).any (·.1)=false:=by rfl)
 (hs:swapsWith (.Call (.Name f p) (e::es) [] pos) (some (.Name x pos')) spos.line X.env=pure false:=by rfl) (hf:X.fn x=true\/X.env.scope.names.lookup x=some .local:=by first|exact .inl rfl|exact .inr rfl|assumption) :
 PS X (.Assign [.Name x pos'] (.Call (.Name f p) (e::es) [] pos) spos) (sn W (Q4r i pre dA)):=(BX hN hi hx (TJ G hr hg ha hdb he hpl) hs hf).mono fun E σ H hh=>hh.elim fun pn M b ρ F s l h=>by
 refine ⟨pn,M,b,ρ,_,s.toSta,h,fun ds vs H' hx rx k o=>?_⟩
 have s1:=s.step k o
 refine ⟨M,b,ds,by rw [List.append_nil];exact rx.args _ _ hx.1,hx.2.1,fun q H1 hq S ok=>?_⟩
 have rep:∀ d v,Rep W.K M H' d v->Rep W.K (fun c=>M c\/c=q) H1 d v:=fun d v r=>Rep.keep (fun c o _ e=>S c o e) _ _ (Rep.avoid (fun c hc=>hc.imp id fun z=>by rw [z];exact hq) _ _ r)
 have reps:∀ d v,Reps W.K M H' d v->Reps W.K (fun c=>M c\/c=q) H1 d v:=fun d v r=>Reps.keep (fun c o _ e=>S c o e) _ _ (Reps.avoid (fun c hc=>hc.imp id fun z=>by rw [z];exact hq) _ _ r)
 have h0:W.H0 q=none:=by
  cases z:W.H0 q with
  | none=>rfl
  | some o =>
    have:=s1.kp q o (by rw [hb0];intro y;cases y) z
    rw [hq] at this;cases this
 have st1:Sta W pn (fun c=>M c\/c=q) (some q) H1 σ (RV ρ):=by
  refine ⟨⟨fun p e=>by cases e;exact ok,fun p e=>by cases e;exact .inr rfl,fun c hc=>?_,fun c m=>.inl (s1.m0 c m)⟩,fun c o n e=>S c o (s1.kp c o n e),.inr ⟨hb0,fun p e=>by cases e;exact h0⟩,fun j d e=>?_,by simp [RV,s.len],fun q' hq'=>(s1.pin q' hq').to rep reps fun xs a vs _ _ m n hh=>⟨.inl m,(fun z=>by cases z;rw [hq] at hh;cases hh),S _ _ hh⟩⟩
  · rcases hc with hc|hc
    · obtain ⟨o,e⟩:=s1.dom c hc;exact ⟨o,S c o e⟩
    · rw [hc];exact W.B.dm q H1 ok
  · obtain ⟨e1,nb⟩:=MY e
    obtain ⟨v,e2,r⟩:=s1.env j d e1
    refine ⟨v,e2,?_⟩
    cases d
    case own xs =>
     obtain ⟨a,us,rfl,m1,m2,m3,m4,hh,r'⟩:=r
     have nq:some q≠some a:=fun z=>by
      cases z
      rw [hq] at hh
      cases hh
     exact ⟨a,us,rfl,.inl m1,nq,m3,m4,S _ _ hh,reps _ _ r'⟩
    case bag=>exact absurd rfl nb
    case frg f _=>exact RepX.move r (fun c _ m n=>⟨.inl m,fun z=>by cases z;exact s1.toHs.new hq m⟩) (fun c o _ e=>S c o e) fun c hc=>hc.imp id fun z=>by rw [z];exact hq
    all_goals exact rep _ _ r
 refine l.nx _ _ _ _ _ (s1.of (st1.set (x:=.bag) (v:=.ref q) i ⟨q,rfl,rfl⟩) fun j xs hm e=>?_) hx.2.2
 by_cases z:i=j
 · subst z
   rw [List.getElem?_set] at e
   simp at e
   rw [<- e.2] at hm;cases hm
 · rw [List.getElem?_set_ne z] at e
   exact ⟨(MY e).1,by rw [List.getElem?_set_ne z]⟩
end
end L2
namespace K
open PySem L2
theorem _root_.L2.Room.m {k n:Nat}{A:Around}(h:Room n A)(e:k<=n:=by decide):Room k A:=h.mono e
theorem Q4a {a b:Int}(hb:b≠0):(a.fmod b).natAbs<b.natAbs:=by
 by_cases h:0<b
 · rw [Int.fmod_eq_emod_of_nonneg a (by omega)]
   have:=Int.emod_nonneg a hb
   have:=Int.emod_lt_of_pos a h
   omega
 · have e:a.fmod b = -((-a).fmod (-b)):=by grind [Int.neg_fmod_neg]
   rw [e,Int.fmod_eq_emod_of_nonneg (-a) (show 0<=-b by omega)]
   have:=Int.emod_nonneg (-a) (show -b≠0 by omega)
   have:=Int.emod_lt_of_pos (-a) (show 0 < -b by omega)
   omega
theorem J1z {a b:Int}:Int.gcd b (a.fmod b)=Int.gcd a b:=by
 rw [Int.gcd_comm a b,Int.fmod_def]
 apply Nat.dvd_antisymm
 · apply Int.dvd_gcd
   · exact Int.gcd_dvd_left ..
   · have h1:((Int.gcd b (a - b*a.fdiv b):Nat):Int) ∣ b:=Int.gcd_dvd_left ..
     have h2:((Int.gcd b (a - b*a.fdiv b):Nat):Int) ∣ a - b*a.fdiv b:=Int.gcd_dvd_right ..
     have h3:=Int.dvd_add h2 (Int.dvd_trans h1 (Int.dvd_mul_right b (a.fdiv b)))
     have e3:a - b*a.fdiv b+b*a.fdiv b=a:=by omega
     rw [e3] at h3
     exact h3
 · apply Int.dvd_gcd
   · exact Int.gcd_dvd_left ..
   · have h1:((Int.gcd b a:Nat):Int) ∣ b:=Int.gcd_dvd_left ..
     have h2:((Int.gcd b a:Nat):Int) ∣ a:=Int.gcd_dvd_right ..
     exact Int.dvd_sub h2 (Int.dvd_trans h1 (Int.dvd_mul_right b (a.fdiv b)))
def IK (ns:List Int):Int:=ns.foldl (fun g n=>((Int.gcd g n:Nat):Int)) 0
theorem MU (ns:List Int)(n:Int):IK (ns++[n])=((Int.gcd (IK ns) n:Nat):Int):=by unfold IK;rw [List.foldl_append];rfl
theorem FT {ns:List Int}{n:Int}(h:n≠0):0<IK (ns++[n])/\IK (ns++[n])<=n.natAbs:=by
 rw [MU]
 have h1:0<Int.gcd (IK ns) n:=Int.gcd_pos_of_ne_zero_right _ h
 have h2:Int.gcd (IK ns) n ∣ n.natAbs:=Int.gcd_dvd_natAbs_right ..
 have h3:=Nat.le_of_dvd (by omega) h2
 omega
def low (ns:List Int)(last:Int):Int:=if last<0 then -IK (ns++[last]) else IK (ns++[last])
theorem J0x {ns:List Int}{n:Int}(h:n≠0):low ns n≠0:=by
 have:=FT (ns:=ns) h
 unfold low
 split<;>omega
theorem J9s {ns:List Int}{n:Int}(h:n≠0):(low ns n).natAbs<=n.natAbs:=by
 have:=FT (ns:=ns) h
 unfold low
 split<;>omega
theorem Q3v (x y z w:Int):IK ([x,y,z]++[w])=((Nat.gcd (Int.gcd x y) (Int.gcd z w):Nat):Int):=by
 unfold IK Int.gcd
 show ((Nat.gcd (Int.natAbs ((Nat.gcd (Int.natAbs ((Nat.gcd (Int.natAbs ((Nat.gcd (Int.natAbs 0) x.natAbs:Nat):Int)) y.natAbs:Nat):Int)) z.natAbs:Nat):Int)) w.natAbs:Nat):Int)=_
 simp only [Int.natAbs_natCast,Int.natAbs_zero,Nat.gcd_zero_left,Nat.gcd_assoc]
theorem J0y (x y z w:Int):(low [x,y,z] w).natAbs=Nat.gcd (Int.gcd x y) (Int.gcd z w):=by
 unfold low
 split<;>rw [Q3v]<;>omega
theorem J5l {ns:List Int}{n:Int}(h:n≠0):(n<0->low ns n<0)/\(0<n->0<low ns n):=by
 have:=FT (ns:=ns) h
 unfold low
 refine ⟨fun h1=>?_,fun h1=>?_⟩
 · rw [if_pos h1];omega
 · rw [if_neg (by omega)];omega
theorem J0w {x y z w:Int}(h:w≠0):∃ a b c d,x.fdiv (low [x,y,z] w)=a/\y.fdiv (low [x,y,z] w)=b/\z.fdiv (low [x,y,z] w)=c/\w.fdiv (low [x,y,z] w)=d/\0<d/\Nat.gcd (Int.gcd a b) (Int.gcd c d)=1/\(a*w=x*d/\b*w=y*d/\c*w=z*d) /\
 (a.natAbs<=x.natAbs/\b.natAbs<=y.natAbs/\c.natAbs<=z.natAbs/\d.natAbs<=w.natAbs):=by
 have hne:=J0x (ns:=[x,y,z]) h
 have habs:=J0y x y z w
 obtain ⟨s1,s2⟩:=J5l (ns:=[x,y,z]) h
 generalize low [x,y,z] w=L at *
 have g1:Nat.gcd (Int.gcd x y) (Int.gcd z w) ∣ Int.gcd x y:=Nat.gcd_dvd_left ..
 have g2:Nat.gcd (Int.gcd x y) (Int.gcd z w) ∣ Int.gcd z w:=Nat.gcd_dvd_right ..
 have dv:∀ n:Int,L.natAbs ∣ n.natAbs->L ∣ n:=fun n h=>Int.natAbs_dvd_natAbs.mp h
 have d1:L ∣ x:=dv x (by rw [habs];exact Nat.dvd_trans g1 (Nat.gcd_dvd_left ..))
 have d2:L ∣ y:=dv y (by rw [habs];exact Nat.dvd_trans g1 (Nat.gcd_dvd_right ..))
 have d3:L ∣ z:=dv z (by rw [habs];exact Nat.dvd_trans g2 (Nat.gcd_dvd_left ..))
 have d4:L ∣ w:=dv w (by rw [habs];exact Nat.dvd_trans g2 (Nat.gcd_dvd_right ..))
 have e1:=Int.fdiv_mul_cancel d1
 have e2:=Int.fdiv_mul_cancel d2
 have e3:=Int.fdiv_mul_cancel d3
 have e4:=Int.fdiv_mul_cancel d4
 generalize x.fdiv L=a at *
 generalize y.fdiv L=b at *
 generalize z.fdiv L=c at *
 generalize w.fdiv L=d at *
 have bnd:∀ n m:Int,n*L=m->n.natAbs<=m.natAbs:=fun n m e=>by
  rw [<- e,Int.natAbs_mul]
  exact Nat.le_mul_of_pos_right _ (by omega)
 refine ⟨a,b,c,d,rfl,rfl,rfl,rfl,?_,?_,⟨?_,?_,?_⟩,⟨bnd _ _ e1,bnd _ _ e2,bnd _ _ e3,bnd _ _ e4⟩⟩
 · by_cases hd:0<d
   · exact hd
   · rcases Int.lt_or_gt_of_ne h with hw|hw
     · have:=Int.mul_nonneg_of_nonpos_of_nonpos (show d<=0 by omega) (Int.le_of_lt (s1 hw));omega
     · have:=Int.mul_nonpos_of_nonpos_of_nonneg (show d<=0 by omega) (Int.le_of_lt (s2 hw));omega
 · have q1:Int.gcd (a*L) (b*L)=Int.gcd a b*L.natAbs:=Int.gcd_mul_right ..
   have q2:Int.gcd (c*L) (d*L)=Int.gcd c d*L.natAbs:=Int.gcd_mul_right ..
   rw [<- e1,<- e2,<- e3,<- e4,q1,q2,Nat.gcd_mul_right] at habs
   have hp:0<L.natAbs:=by omega
   have:1*L.natAbs=Nat.gcd (Int.gcd a b) (Int.gcd c d)*L.natAbs:=by rw [Nat.one_mul];exact habs
   exact (Nat.eq_of_mul_eq_mul_right hp this).symm
 · rw [<- e1,<- e4];grind
 · rw [<- e2,<- e4];grind
 · rw [<- e3,<- e4];grind
theorem Bd.sum {n:Nat}:∀ (l:List Int),(∀ x∈l,Bd n x)->l.length<=4->Bd (n+3) l.sum:=by
 intro l h hl
 match l,hl with
 | [],_=>exact Nat.lt_of_lt_of_le (show (0:Nat)<1 by decide) (Nat.one_le_two_pow)
 | [a],_=>have:=h a (by simp);simpa using this.mono (by omega)
 | [a,b],_ =>
   have h1:=(Bd.add (h a (by simp)) (h b (by simp))).mono (n:=n+3) (by omega)
   simpa using h1
 | [a,b,c],_ =>
   have h1:=(Bd.add (h a (by simp)) ((Bd.add (h b (by simp)) (h c (by simp))))).mono (n:=n+3) (by omega)
   simpa using h1
 | [a,b,c,d],_ =>
   have h1:=(Bd.add (h a (by simp)) ((Bd.add (h b (by simp)) (Bd.add (h c (by simp)) (h d (by simp)))))).mono (n:=n+3) (by omega)
   simpa using h1
def Mv (n:Nat)(H:Hp)(m:Addr)(M:List (List Int)):Prop:=∃ ps:List Addr,H m=some (.tup (ps.map V.ref))/\ps.length=4/\M.length=4/\∀ (i:Nat) p r,ps[i]?=some p->M[i]?=some r->H p=some (.tup (r.map V.int))/\r.length=4/\∀ x∈r,Bd n x
theorem Mv.same {n:Nat}{H H':Hp}{m:Addr}{M:List (List Int)}(h:Mv n H m M)(S:Same H H'):Mv n H' m M:=by
 obtain ⟨ps,e,l1,l2,q⟩:=h
 exact ⟨ps,S _ _ e,l1,l2,fun i p r h1 h2=>⟨S _ _ (q i p r h1 h2).1,(q i p r h1 h2).2⟩⟩
theorem Mv.of {n:Nat}{H:Hp}{m p0 p1 p2 p3:Addr}{r0 r1 r2 r3:List Int}(e:H m=some (.tup [.ref p0,.ref p1,.ref p2,.ref p3]))(e0:H p0=some (.tup (r0.map V.int)))(e1:H p1=some (.tup (r1.map V.int)))(e2:H p2=some (.tup (r2.map V.int)))(e3:H p3=some (.tup (r3.map V.int)))
 (l:r0.length=4/\r1.length=4/\r2.length=4/\r3.length=4) (b:∀ x∈r0++r1++r2++r3,Bd n x):Mv n H m [r0,r1,r2,r3]:=by
 refine ⟨[p0,p1,p2,p3],e,rfl,rfl,fun i p r h1 h2=>?_⟩
 match i with
 | 0=>cases h1;cases h2;exact ⟨e0,l.1,fun x hx=>b x (by simp [hx])⟩
 | 1=>cases h1;cases h2;exact ⟨e1,l.2.1,fun x hx=>b x (by simp [hx])⟩
 | 2=>cases h1;cases h2;exact ⟨e2,l.2.2.1,fun x hx=>b x (by simp [hx])⟩
 | 3=>cases h1;cases h2;exact ⟨e3,l.2.2.2,fun x hx=>b x (by simp [hx])⟩
 | i+4=>simp at h1
end K
namespace L2
open PySem PySem.Spec PyProof.Rows
theorem J5g {xs:List D}{i:Int}{P:D->Prop}(h0:0<=i)(h1:i<xs.length)(h:∀ d∈xs,P d):oIx (.lst xs) (.int i) P:=by
 obtain ⟨j,rfl⟩:∃ j:Nat,i=j:=⟨i.toNat,by omega⟩
 have hj:j<xs.length:=by omega
 have e:atI xs (j:Int)=some xs[j]:=IV (List.getElem?_eq_getElem hj)
 simp only [oIx,e]
 exact h _ (List.getElem_mem hj)
theorem ixm {xs:List D}{i:Int}{P:D->Prop}(h0:0<=i)(h1:i<xs.length)(h:∀ d∈xs,P d):(atI xs i).elim False P:=J5g (P:=P) h0 h1 h
theorem BK {lo:Int}{n i:Nat}{d:D}(h:(BL lo n)[i]?=some d):d=.int (lo+i)/\i<n:=by
 have hi:i<n:=by
  have:=(List.getElem?_eq_some_iff.mp h).1
  simpa [BL] using this
 simp [BL,hi] at h
 exact ⟨h.symm,hi⟩
theorem rangeD_len (lo:Int)(n:Nat):(BL lo n).length=n:=by simp [BL]
abbrev sp4 (x y z w:Int):D:=.tup [.int x,.int y,.int z,.int w]
abbrev t3 (x y z:Int):D:=.tup [.int x,.int y,.int z]
abbrev t2 (x y:Int):D:=.tup [.int x,.int y]
theorem KR {gd:D->Ev->(Ev->Prop)->Prop}{de:DE}{ρc:Ev}{items:List D}{P:List D->Prop}(Pv:Nat->D->Prop)
 (hs:∀ (i:Nat) x (Q:D->Prop),items[i]?=some x->(∀ y,Pv i y->Q y)->gd x ρc fun ρ1=>de ρ1 Q) (hp:∀ i y,Pv i y->plain y=true)
 (hd:∀ acc:List D,acc.length=items.length->(∀ i y,acc[i]?=some y->Pv i y)->P acc):compI gd MZ de ρc items P:=by
 refine ⟨fun i acc=>acc.length=i/\∀ j y,acc[j]?=some y->Pv j y,⟨rfl,fun j y e=>by simp at e⟩,fun i x acc e ⟨hl,ha⟩=>?_,fun acc ⟨hl,ha⟩=>hd acc hl ha⟩
 have:=hs i x (fun y=>plain y=true/\((acc++[y]).length=i+1/\∀ j z,(acc++[y])[j]?=some z->Pv j z)) e fun y hy=>⟨hp i y hy,by simp [hl],fun j z ez=>?_⟩
 · simpa only [MZ,SJ] using this
 · by_cases hj:j<acc.length
   · rw [List.getElem?_append_left hj] at ez
     exact ha j z ez
   · rw [List.getElem?_append_right (by omega)] at ez
     have:j - acc.length=0:=by
      cases q:j - acc.length with
      | zero=>rfl
      | succ m=>rw [q] at ez;simp at ez
     rw [this] at ez
     simp at ez
     subst ez
     have:j=i:=by omega
     subst this
     exact hy
theorem SB {gd:D->Ev->(Ev->Prop)->Prop}{de:DE}{ρc:Ev}{items:List D}{P:List D->Prop}(f:D->D)
 (hs:∀ x (Q:D->Prop),x∈items->Q (f x)->gd x ρc fun ρ1=>de ρ1 Q) (hp:∀ x∈items,plain (f x)=true) (hd:P (items.map f)):compI gd MZ de ρc items P:=by
 refine KR (fun i y=>∃ x,items[i]?=some x/\y=f x) (fun i x Q e h=>hs x Q (List.mem_of_getElem? e) (h _ ⟨x,e,rfl⟩)) (fun i y ⟨x,e,h⟩=>by rw [h];exact hp x (List.mem_of_getElem? e)) fun acc hl ha=>?_
 have:acc=items.map f:=by
  apply List.ext_getElem?
  intro i
  rw [List.getElem?_map]
  cases q:acc[i]? with
  | none =>
    have:items.length<=i:=by rw [<- hl];exact List.getElem?_eq_none_iff.mp q
    rw [List.getElem?_eq_none_iff.mpr this];rfl
  | some y =>
    obtain ⟨x,e,rfl⟩:=ha i y q
    rw [e];rfl
 rw [this];exact hd
theorem okB.same {B:BagT} {H H':Hp}(o:okB B b H)(S:Same H H'):okB B b H':=fun p e=>B.st p H H' (o p e) fun u h=>S p u h
theorem J6y {α:Type}{l:List α}{x:α}:atI (l++[x]) (-1)=some x:=by
 have e:ixN (l++[x]).length (-1)=some l.length:=by
  unfold ixN
  rw [if_neg (by decide),if_pos (by simp;omega)]
  congr 1
  simp
  omega
 unfold atI
 rw [e]
 simp
structure JE (X:Cx)(W:Wd)(e:Expr)(d:DE):Prop where
 h:PE X e (dn W d)
structure JT (X:Cx)(W:Wd)(e:Expr)(d:DT):Prop where
 h:PT X e (dnT W d)
structure JW (X:Cx)(W:Wd)(e:Expr)(d:DT):Prop where
 h:PW X e (dnT W d)
structure JA (X:Cx)(W:Wd)(es:List Expr)(d:DA):Prop where
 h:PA X es (dnA W d)
structure JO (X:Cx)(W:Wd)(e:Option Expr)(d:DO):Prop where
 h:PO X e (dnO W d)
structure JIf (X:Cx)(W:Wd)(es:List Expr)(d:DT):Prop where
 h:PIf X es (dnT W d)
structure JI (X:Cx)(W:Wd)(fz:Bool)(tg l:Expr)(d:DA):Prop where
 h:PI X tg l (dnI W fz d)
structure JS (X:Cx)(W:Wd)(st:Stmt)(d:DS):Prop where
 h:PS X st (sn W d)
structure JSs (X:Cx)(W:Wd)(st:List Stmt)(d:DS):Prop where
 h:PSs X st (sn W d)
section
variable {X:Cx}{W:Wd}{e a b:Expr}{es:List Expr}{pos:Pos}{da db:DE}{dA:DA}
theorem jdv (i:Nat) {x:Str} {pos:Pos} (hN:X.N[i]?=some x:=by rfl) (hv:Vis X.env.scope x:=by first|exact Or.inl rfl|exact Or.inr (Or.inl rfl)|exact Or.inr (Or.inr rfl)) (hd:(x==("__debug__" : Str))=false:=by decide)
 (hcd:(x==("__classdict__" : Str))=false:=by decide):JE X W (.Name x pos) (YH i):=⟨dv i hN hv hd hcd⟩
theorem J1 {i j pos}:JE X W (.Constant (.int i) j pos) (dC (.int i)):=⟨Q0y ⟩
theorem HQ {i j pos}:JE X W (.Constant (.bool i) j pos) (dC (.bl i)):=⟨Q4h ⟩
theorem V0 {op:Operator}{r:R2}{o:D->D->(D->Prop)->Prop}(ho:OpR X (binaryOp op) r)(hd:OpD W r o)(ha:JE X W a da)(hb:JE X W b db):JE X W (.BinOp a op b pos) (dOp o da db):=⟨Q4e ho hd ha.h hb.h⟩
theorem OL {op:CmpOp}{r:R2}{o:D->D->(D->Prop)->Prop}(ho:OpR X (compareOp op) r)(hd:OpD W r o)(ha:JE X W a da)(hb:JE X W b db)(hm:behindInMarks op b=false):JE X W (.Compare a [op] [b] pos) (dOp o da db):=⟨Q0z ho hd ha.h hb.h hm⟩
theorem Q8 {r:R2}{o:D->D->(D->Prop)->Prop}(hr:IxR X r)(hd:OpD W r o)(ha:JE X W a da)(hb:JE X W b db)(hs:PK b):JE X W (.Subscript a b pos) (dOp o da db):=⟨Q4f hr hd ha.h hb.h hs⟩
theorem FR (ha:JE X W a da):JE X W (.UnaryOp .USub a pos) (dUn J9n da):=⟨Q0w ha.h⟩
theorem Z1 {op:CmpOp}{r:R2}{o:D->D->(D->Prop)->Prop}(ho:OpR X (compareOp op) r)(hd:OpD W r o)(ha:JE X W a da)(hb:JE X W b db)(hm:behindInMarks op b=false):JT X W (.Compare a [op] [b] pos) (J2n (dOp o da db)):=⟨Q0l ho hd ha.h hb.h hm⟩
theorem HN (hK:X.K=W.K)(ha:JE X W a da)(he:∀ whole,isTrue a X.env whole=(do let v <- whole;standAt a.pos;holding [v] (truthy v))):JT X W a (Q4k da):=⟨J2f hK ha.h he⟩
variable {ta:DT}
theorem J1e (ha:JT X W a ta):JW X W (.BoolOp .And [a] pos) ta:=⟨J6b ha.h⟩
theorem J5r (ha:JT X W a ta):JW X W (.BoolOp .Or [a] pos) ta:=⟨Q0i ha.h⟩
theorem OJ (ha:JT X W a ta):JT X W (.UnaryOp .Not a pos) (J7p ta):=⟨Q0k ha.h⟩
theorem J3:JA X W [] Q1v:=⟨Q1a ⟩
theorem J0 {dr:DA}(ha:JE X W e da)(hr:JA X W es dr)(hs:starEach (e::es) X.env=(false,eval e X.env)::starEach es X.env:=by rfl):JA X W (e::es) (J3j da dr):=⟨J6n ha.h hr.h hs⟩
theorem J7 {x1}(h:JA X W es dA):JE X W (.Tuple es x1 pos) (Q4j dA):=⟨Q0u h.h⟩
theorem BQ (h:JA X W es dA):JE X W (.List es pos) (Q4p dA):=⟨Q0x h.h⟩
end
section
variable {X:Cx}{W:Wd}{e:Expr}{es:List Expr}{pos p:Pos}{dA:DA}{x:Str}{k:Nat}{ps:List Str}{S:DSp}
theorem Q5 (G:Callee X.prog X.w X.K X.mg X.base CX0 x k ps (Q4 W.K W.B S))(hr:Room k X.A)(hg:Gl X x)(ha:JA X W (e::es) dA)(hdb:(x==("__debug__" : Str))=false:=by decide) (he:starEach (e::es) X.env=(false,eval e X.env)::starEach es X.env:=by rfl) (hpl:(backTo pos (starEach es X.env)).any (·.1)=false:=by rfl) :
 JE X W (.Call (.Name x p) (e::es) [] pos) (NA S (fun _=>False) dA):=⟨Q0v G hr hg ha.h hdb he hpl⟩
theorem J1n {CX:CXT}{E:XK}{Ed:Addr->Prop}(hE:DY W E Ed)(hp:DL CX X E)(G:Callee X.prog X.w X.K X.mg X.base CX x k ps (Q4 W.K W.B S))(hr:Room k X.A)(hg:Gl X x)(ha:JA X W (e::es) dA)(hdb:(x==("__debug__" : Str))=false:=by decide) (he:starEach (e::es) X.env=(false,eval e X.env)::starEach es X.env:=by rfl) (hpl:(backTo pos (starEach es X.env)).any (·.1)=false:=by rfl) :
 JE X W (.Call (.Name x p) (e::es) [] pos) (NA S Ed dA):=⟨J6l hE hp G hr hg ha.h hdb he hpl⟩
variable {r:List V->Hp->VK->Prop}{o:List D->(D->Prop)->Prop}{id T:String}
theorem Y0 (hc:AW X (.builtin id) r)(hd:GA W r o)(hg:Gl X x)(hm:X.mg x=none)(hv:bootBuiltins x=some (.builtin id))(ha:JA X W (e::es) dA)(hn:x≠"__name__":=by decide) (hdb:(x==("__debug__" : Str))=false:=by decide)
 (he:starEach (e::es) X.env=(false,eval e X.env)::starEach es X.env:=by rfl) (hpl:(backTo pos (starEach es X.env)).any (·.1)=false:=by rfl):JE X W (.Call (.Name x p) (e::es) [] pos) (dCB o dA):=⟨J2l hc hd hg hm hv ha.h hn hdb he hpl⟩
theorem AM (hc:AW X (.type T) r)(hd:GA W r o)(hg:Gl X x)(hm:X.mg x=none)(hv:bootBuiltins x=some (.type T))(ha:JA X W (e::es) dA)(hn:x≠"__name__":=by decide) (hdb:(x==("__debug__" : Str))=false:=by decide)
 (he:starEach (e::es) X.env=(false,eval e X.env)::starEach es X.env:=by rfl) (hpl:(backTo pos (starEach es X.env)).any (·.1)=false:=by rfl):JE X W (.Call (.Name x p) (e::es) [] pos) (dCB o dA):=⟨YG hc hd hg hm hv ha.h hn hdb he hpl⟩
end
section
variable {X:Cx}{W:Wd}{tg l a b:Expr}{pos p:Pos}{dl:DE}{dA:DA}{fz:Bool}
theorem Z3 (hK:X.K=W.K)(hl:JE X W l dl):JI X W fz tg l (Q0e fz dl):=⟨Q0s hK hl.h⟩
theorem Y8 (hg:Gl X "range") (hm:X.mg "range" = none) (ha:JA X W [a] dA) (hs:starEach [a] X.env=[(false,eval a X.env)]:=by rfl):JI X W fz tg (.Call (.Name "range" p) [a] [] pos) (VR dA):=⟨YF hg hm ha.h hs⟩
theorem VN {elts:List Expr}{c1}{tpos:Pos}(hK:X.K=W.K)(t1 t2:Bool)(hg:Gl X "zip") (hm:X.mg "zip" = none) (ha:JA X W [a,b] dA)
 (h:PI X (.Tuple elts c1 tpos) (.Call (.Name "zip" p) [a,b] [] pos) (J1v W.K t1 t2 (dnA W dA))):JI X W fz (.Tuple elts c1 tpos) (.Call (.Name "zip" p) [a,b] [] pos) (J7l fz t1 t2 dA):=⟨Q0r hK t1 t2 hg hm ha.h h⟩
end
section
variable {X:Cx}{W:Wd}{elt iter tg:Expr}{ifs:List Expr}{scope:Scope}{pos:Pos}{N':List Str}{map:List (Option Nat)}{g:TG}{gd:D->Ev->(Ev->Prop)->Prop}{di:DA}{dt:DT}{de:DE}
theorem AC (hG:GD W g gd)(B:Blk X N' scope map tg elt ifs g (dnT W dt) (dn W de))(hi:JI X W false tg iter di)(hs:∀ x,foldedSetIterable iter X.env x=pure x:=by intro _;rfl):JE X W (.ListComp elt [⟨tg,iter,ifs,0⟩] scope pos) (J2s map gd di dt de):=⟨J6m hG B hi.h hs⟩
theorem Y7:JIf X W [] MZ:=⟨J6k ⟩
theorem FE {c:Expr}(hc:JT X W c dt):JIf X W [c] dt:=⟨J6j hc.h⟩
end
section
variable {X:Cx}{W:Wd}{e c tg iter:Expr}{es:List Expr}{pos:Pos}{db de:DE}{dA di:DA}{dt:DT}{st:Stmt}{rest sts:List Stmt}{d1 d2:DS}
theorem AB:JSs X W [] J2r:=⟨J6d ⟩
theorem J9 (h:JS X W st d1):JSs X W [st] d1:=⟨J6c h.h⟩
theorem J5 (h1:JS X W st d1)(h2:JSs X W rest d2):JSs X W (st::rest) (Q1f d1 d2):=⟨J2g h1.h h2.h⟩
theorem V4 (he:JE X W e de):JS X W (.Return (some e) pos) (Q1h de):=⟨Q0n he.h⟩
theorem BM {s1 s2:List Stmt}(hc:JT X W c dt)(ha:JSs X W s1 d1)(hb:JSs X W s2 d2):JS X W (.If c s1 s2 pos) (Q1j dt d1 d2):=⟨Q4c hc.h ha.h hb.h⟩
theorem V5 {i:Nat} {x:Str} {pos':Pos} (hN:X.N.Nodup) (hi:X.N[i]?=some x) (hx:Loc X.env.scope x) (he:JE X W e de) (hs:swapsWith e (some (.Name x pos')) pos.line X.env=pure false:=by rfl) (hf:X.fn x=true\/X.env.scope.names.lookup x=some .local:=by first|exact .inl rfl|exact .inr rfl|assumption) :
 JS X W (.Assign [.Name x pos'] e pos) (YI de (gdN i)):=⟨Q0m hN hi hx he.h hs hf⟩
theorem FQ {g:TG}{gd:D->Ev->(Ev->Prop)->Prop}(hG:GD W g gd)(he:JE X W e de)(hg:PG X tg g)(hs:swapsWithSole [tg] e pos.line X.env=pure false:=by rfl)(hw:swappedStores [tg] e X.env=pure none:=by rfl)
 (h1:(assignEach [tg] X.env).map (·.2)=[assign tg X.env]:=by rfl):JS X W (.Assign [tg] e pos) (YI de gd):=⟨Q0q hG he.h hg hs hw h1⟩
theorem KD {i:Nat} {x:Str} {pos' lpos:Pos} (hN:X.N.Nodup) (hi:X.N[i]?=some x) (hx:Loc X.env.scope x) (ha:JA X W es dA) (hs:swapsWith (.List es lpos) (some (.Name x pos')) pos.line X.env=pure false:=by rfl) (hf:X.fn x=true\/X.env.scope.names.lookup x=some .local:=by first|exact .inl rfl|exact .inr rfl|assumption) :
 JS X W (.Assign [.Name x pos'] (.List es lpos) pos) (J7r i dA):=⟨J6g hN hi hx ha.h hs hf⟩
theorem KC {elt iter tg:Expr}{ifs:List Expr}{scope:Scope}{N':List Str}{map:List (Option Nat)}{g:TG}{gd:D->Ev->(Ev->Prop)->Prop}(own:Bool){i:Nat}{y:Str}{py spos:Pos}(hN:X.N.Nodup)(hiN:X.N[i]?=some y)(hy:Loc X.env.scope y)(hG:GD W g gd)(B:Blk X N' scope map tg elt ifs g (dnT W dt) (dn W de))(hi:JI X W false tg iter di)
 (hsw:swapsWith (.ListComp elt [⟨tg,iter,ifs,0⟩] scope pos) (some (.Name y py)) spos.line X.env=pure true:=by rfl) (hfn:X.fn y=true\/X.env.scope.names.lookup y=some .local:=by first|exact .inl rfl|exact .inr rfl)
 (hs:∀ x,foldedSetIterable iter X.env x=pure x:=by intro _;rfl):JS X W (.Assign [.Name y py] (.ListComp elt [⟨tg,iter,ifs,0⟩] scope pos) spos) (J7q own i map gd di dt de):=⟨J6f own hN hiN hy hG B hi.h hsw hfn hs⟩
theorem CK {g:TG}{gd:D->Ev->(Ev->Prop)->Prop}{db:DS}{body:List Stmt}(hG:GD W g gd)(hp:PassesOwn (model X.prog X.w) X.A X.env X.xe)(hc:X.calm=true)(hi:JI X W true tg iter di)(hg:PG X tg g)(hb:JSs X W body db)
 (hs:∀ x,foldedSetIterable iter X.env x=pure x:=by intro _;rfl):JS X W (.For tg iter body [] pos) (J6p gd di db):=⟨Q0o hG hp hc hi.h hg hb.h hs⟩
theorem RM (i:Nat)(h:JSs X W sts d1):JSs X W sts (Q1k i d1):=⟨J6e i h.h⟩
theorem XW {E:XK}{Ed:Addr->Prop}{C:Addr}(hE:DY W E Ed)(h:PS X st (fun _ _ H1=>E (.ref C) none H1)):JS X W st (J2p Ed C):=⟨J2h hE h⟩
end
section
variable {X:Cx}{W:Wd}{e:Expr}{es:List Expr}{pos p:Pos}{dl de:DE}{dA:DA}
theorem J1j:JO X W none oNo:=⟨J6i ⟩
theorem J1i (h:JE X W e de):JO X W (some e) (oPt de):=⟨J6h h.h⟩
theorem XZ {lo hi:Option Expr}{dl dh:DO}{p2:Pos}(hr:SlR X (fun x lo hi H Q=>ZP W.K x lo hi H Q\/ZQ W.K x lo hi H Q))(he:JE X W e de)(hl:JO X W lo dl)(hu:JO X W hi dh):JE X W (.Subscript e (.Slice lo hi none p2) pos) (dSl de dl dh):=⟨J2k hr he.h hl.h hu.h⟩
theorem J5t {spos:Pos}{x f:Str}{k:Nat}{ps:List Str}{pre:List D->Prop}{i:Nat}{pos':Pos}(hb0:W.b0=none)(hN:X.N.Nodup)(hi:X.N[i]?=some x)(hx:Loc X.env.scope x)(G:Callee X.prog X.w X.K X.mg X.base CX0 f k ps (SI W.K W.B pre))(hr:Room k X.A)(hg:Gl X f)(ha:JA X W (e::es) dA)
 (hdb:(f==("__debug__" : Str))=false:=by decide) (he:starEach (e::es) X.env=(false,eval e X.env)::starEach es X.env:=by rfl) (hpl:(backTo pos (starEach es X.env)).any (·.1)=false:=by rfl)
 (hs:swapsWith (.Call (.Name f p) (e::es) [] pos) (some (.Name x pos')) spos.line X.env=pure false:=by rfl) (hf:X.fn x=true\/X.env.scope.names.lookup x=some .local:=by first|exact .inl rfl|exact .inr rfl|assumption) :
 JS X W (.Assign [.Name x pos'] (.Call (.Name f p) (e::es) [] pos) spos) (Q4r i pre dA):=⟨Q0p hb0 hN hi hx G hr hg ha.h hdb he hpl hs hf⟩
end
section
variable {X:Cx}{W:Wd}{a b:Expr}{rest:List Expr}{pos:Pos}{ta tb:DT}
theorem J5s (ha:JT X W a ta)(hb:JW X W (.BoolOp .And (b::rest) pos) tb):JT X W (.BoolOp .And (a::b::rest) pos) (J2o ta tb):=⟨(Q0j ha.h hb.h).pt⟩
theorem J9x (ha:JT X W a ta)(hb:JW X W (.BoolOp .Or (b::rest) pos) tb):JT X W (.BoolOp .Or (a::b::rest) pos) (Q1b ta tb):=⟨(Q4b ha.h hb.h).pt⟩
end
theorem EO {X:Cx} {W:Wd} {N':List Str} {scope:Scope} {map:List (Option Nat)} {tg elt:Expr} {ifs:List Expr} {g:TG} {dt:DT} {de:DE} (calm:X.calm=true) (kind:scope.kind=.function) (loc:∀ x∈scope.names,x.2=.local->scope.names.lookup x.1=some .local) (free:(scope.names.all fun p=>!(p.2==NameKind.free)||(X.env.kindOf p.1==some .cell||X.env.kindOf p.1==some .free))=true) (cap:CapOk X scope map N') (keep:FJ g map)
 (run:∀ cells C fp s H,PG (J6 X N' scope cells C fp s H) tg g/\JIf (J6 X N' scope cells C fp s H) W ifs dt/\JE (J6 X N' scope cells C fp s H) W elt de):Blk X N' scope map tg elt ifs g (dnT W dt) (dn W de) :=
 ⟨calm,kind,loc,free,cap,keep,fun cells C fp s H _=>⟨(run cells C fp s H).1,(run cells C fp s H).2.1.h,(run cells C fp s H).2.2.h⟩⟩
theorem Fun.okD {P:Program}{w:World} {mg:Str->Option Value}{base:Heap}{x qual:Str}{st:Stmt}{f:Addr} {N ps:List Str}{k:Nat}{B:BagT}{Sd:DSp}(F:Fun K x qual st f fd)(S:FnScope N ps (J4 st))(len:∀ ds PP Ed,Sd ds PP Ed->ds.length=ps.length)
 (hbody:∀ (cdv:Value) (A:Around) (outer:List Env) (s:Shared) (H:Hp) (E:XK) (M:Addr->Prop) (bg:Option Addr) (ds:List D) (PP:D->Prop) (Ed:Addr->Prop),Room k (A.deeper (envOfC qual (J4 st) s.heap.objs.size f cdv))->Sd ds PP Ed ->
  ∃ d,JSs (Z8 CX0 P w K mg base N qual (J4 st) f cdv A outer s H E).nox ⟨K,B,H,M,bg⟩ (AH st) d/\d { nx:=fun _=>PP .non,rt:=PP } (AJ N ds)):FnOk P w K mg base CX0 (k+1) f fd ps (Q4 K B Sd) :=
 F.ok S (Q4.len len) fun cdv A outer s H vs Q E hr h=>by
  obtain ⟨M,bg,ds,PP,Ed,hS,hR,ho,hb,hd,hq,hx⟩:=h
  obtain ⟨d,J,q⟩:=hbody cdv A outer s H E M bg ds PP Ed hr hS
  exact ⟨_,J.h,run hR ho hb hd hq q⟩
theorem Fun.okDX {P:Program}{w:World} {mg:Str->Option Value}{base:Heap}{CX:CXT}{x qual:Str}{st:Stmt}{f:Addr} {N ps:List Str}{k:Nat}{B:BagT}{Sd:DSp}(F:Fun K x qual st f fd)(S:FnScope N ps (J4 st))(len:∀ ds PP Ed,Sd ds PP Ed->ds.length=ps.length)
 (hbody:∀ (cdv:Value) (A:Around) (outer:List Env) (s:Shared) (H:Hp) (E:XK) (M:Addr->Prop) (bg:Option Addr) (ds:List D) (PP:D->Prop) (Ed:Addr->Prop),Room k (A.deeper (envOfC qual (J4 st) s.heap.objs.size f cdv))->DY ⟨K,B,H,M,bg⟩ E Ed->Sd ds PP Ed ->
  ∃ d,JSs (Z8 CX P w K mg base N qual (J4 st) f cdv A outer s H E) ⟨K,B,H,M,bg⟩ (AH st) d/\d { nx:=fun _=>PP .non,rt:=PP } (AJ N ds)):FnOk P w K mg base CX (k+1) f fd ps (Q4 K B Sd) :=
 F.okX S (Q4.len len) fun cdv A outer s H vs Q E hr h=>by
  obtain ⟨M,bg,ds,PP,Ed,hS,hR,ho,hb,hd,hq,hx⟩:=h
  obtain ⟨d,J,q⟩:=hbody cdv A outer s H E M bg ds PP Ed hr (fun C H' e k o=>hx C H' e k o) hS
  exact ⟨_,J.h,run hR ho hb hd hq q⟩
theorem Fun.okL {P:Program}{w:World} {mg:Str->Option Value}{base:Heap}{x qual:Str}{st:Stmt}{f:Addr} {N:List Str}{p:Str}{k:Nat}(B:BagT)(F:Fun K x qual st f fd)(S:FnScope N [p] (J4 st))
 (hbody:∀ (cdv:Value) (A:Around) (outer:List Env) (s:Shared) (H:Hp) (E:XK) (ns:List Int),Room k (A.deeper (envOfC qual (J4 st) s.heap.objs.size f cdv))->ns.length<=63 ->
  ∃ d,JSs (Z8 CX0 P w K mg base N qual (J4 st) f cdv A outer s H E).nox ⟨K,B,H,fun _=>False,none⟩ (AH st) d/\d { nx:=fun _=>D.non=.bl true,rt:=fun d=>d=.bl true } (AJ N [.scr ns])) :
 FnOk P w K mg base CX0 (k+1) f fd [p] (fun vs H Q _=>∃ (a:Addr) (ns:List Int),vs=[.ref a]/\SqL K H a (ns.map V.int)/\ns.length<=63/\∀ H',Q (.bl true) H') :=
 F.ok S (fun vs H Q E h=>by obtain ⟨a,ns,rfl,_⟩:=h;rfl) fun cdv A outer s H vs Q E hr h=>by
  obtain ⟨a,ns,rfl,hS,hlen,k⟩:=h
  have hR:RepAs K (fun _=>False) none H [.scr ns] [.ref a]:=⟨.ref a,[],rfl,⟨a,rfl,hS.imp (fun q=>⟨id,q⟩) id⟩,rfl⟩
  obtain ⟨d,J,q⟩:=hbody cdv A outer s H E ns hr hlen
  exact ⟨_,J.h,run (P:=fun d=>d=.bl true) hR (fun p e=>by cases e) (fun p e=>by cases e) (fun c m=>m.elim) (fun d v H' hd r _ _=>by cases hd;cases (show _=_ from r);exact k H') q⟩
mutual
def V6:D->Option PyData
 | .non=>some .none
 | .bl b=>some (.bool b)
 | .int i=>some (.int i)
 | .str x=>if PyData.strOk x then some (.str x) else none
 | .tup xs=>(BA xs).map .tuple
 | .lst xs=>(BA xs).map .list
 | .own xs=>(BA xs).map .list
 | .ty _=>none
 | .adr _=>none
 | .bag=>none
 | .frg _ d=>V6 d
 | .scr _=>none
 | .dct _ _ _=>none
def BA:List D->Option (List PyData)
 | []=>some []
 | d::ds=>(V6 d).bind fun p=>(BA ds).map (p::·)
end
mutual
theorem V6.lay:∀ (d:D) (p:PyData),V6 d=some p->p.canLay0=true
 | .non,p,h=>by cases h;rfl
 | .bl b,p,h=>by cases h;rfl
 | .int i,p,h=>by cases h;rfl
 | .str x,p,h=>by
   unfold V6 at h
   split at h
   · cases h;unfold PyData.canLay0;assumption
   · cases h
 | .tup xs,p,h=>by
   unfold V6 at h
   obtain ⟨ps,e,rfl⟩:=Option.map_eq_some_iff.mp h
   unfold PyData.canLay0
   exact BA.lay xs ps e
 | .lst xs,p,h=>by
   unfold V6 at h
   obtain ⟨ps,e,rfl⟩:=Option.map_eq_some_iff.mp h
   unfold PyData.canLay0
   exact BA.lay xs ps e
 | .own xs,p,h=>by
   unfold V6 at h
   obtain ⟨ps,e,rfl⟩:=Option.map_eq_some_iff.mp h
   unfold PyData.canLay0
   exact BA.lay xs ps e
 | .ty _,p,h=>by unfold V6 at h;cases h
 | .adr _,p,h=>by unfold V6 at h;cases h
 | .bag,p,h=>by unfold V6 at h;cases h
 | .frg _ d,p,h=>by unfold V6 at h;exact V6.lay d p h
 | .scr _,p,h=>by unfold V6 at h;cases h
 | .dct _ _ _,p,h=>by unfold V6 at h;cases h
theorem BA.lay:∀ (ds:List D) (ps:List PyData),BA ds=some ps->PyData.canLayAll0 ps=true
 | [],ps,h=>by cases h;rfl
 | d::ds,ps,h=>by
   unfold BA at h
   obtain ⟨p,e1,h⟩:=Option.bind_eq_some_iff.mp h
   obtain ⟨qs,e2,rfl⟩:=Option.map_eq_some_iff.mp h
   unfold PyData.canLayAll0
   rw [V6.lay d p e1,BA.lay ds qs e2];rfl
end
section
variable {X:Cx}{pins:List (Addr×Obj)}{σ:St}{H:Hp}{s:Shared}{M:Addr->Prop}
mutual
theorem HH (I:Inv X pins σ H s):∀ (d:D) (v:V) (u:Value) (p:PyData),Rep X.K M H d v->RelV v u->V6 d=some p->∃ as,Reads s.heap u p as
 | .non,v,u,p,r,q,h=>by cases h;cases (show _=_ from r);cases (show u=Value.none from q);exact ⟨_,.none⟩
 | .bl b,v,u,p,r,q,h=>by cases h;cases (show _=_ from r);cases (show u=Value.bool b from q);exact ⟨_,.bool _⟩
 | .int i,v,u,p,r,q,h=>by
   cases h;cases (show _=_ from r)
   obtain ⟨t,rfl⟩:=(show ∃ t,u=Value.int i t from q)
   exact ⟨_,.int _ _⟩
 | .str x,v,u,p,r,q,h=>by
   unfold V6 at h
   split at h
   · cases h;cases (show _=_ from r)
     obtain ⟨t,rfl⟩:=(show ∃ t,u=Value.str x t from q)
     exact ⟨_,.str _ _⟩
   · cases h
 | .tup xs,v,u,p,r,q,h=>by
   unfold V6 at h
   obtain ⟨ps,e,rfl⟩:=Option.map_eq_some_iff.mp h
   obtain ⟨a,vs,rfl,z,rs⟩:=r
   cases (show u=Value.ref a from q)
   obtain ⟨its,r1,⟨o,h1,h2,n,h3⟩,_⟩:=I.tuple z.sq
   obtain ⟨as,ra⟩:=EC I xs vs its ps rs r1 e
   exact ⟨as,.tuple h1 h2 h3 (by simpa using ra)⟩
 | .lst xs,v,u,p,r,q,h=>by
   unfold V6 at h
   obtain ⟨ps,e,rfl⟩:=Option.map_eq_some_iff.mp h
   obtain ⟨a,vs,rfl,z,rs⟩:=r
   cases (show u=Value.ref a from q)
   obtain ⟨its,r1,⟨o,n,h1,h2,_,h3⟩,_⟩:=I.list (SqL.of z.2)
   obtain ⟨as,ra⟩:=EC I xs vs its ps rs r1 e
   exact ⟨a::as,.list h1 h2 h3 (by simpa using ra)⟩
 | .own xs,v,u,p,r,q,h=>r.elim
 | .ty _,_,_,p,_,_,h=>by unfold V6 at h;cases h
 | .adr _,_,_,p,_,_,h=>by unfold V6 at h;cases h
 | .bag,_,_,p,_,_,h=>by unfold V6 at h;cases h
 | .frg _ _,_,_,p,r,_,h=>r.elim
 | .scr _,_,_,p,_,_,h=>by unfold V6 at h;cases h
 | .dct _ _ _,_,_,p,_,_,h=>by unfold V6 at h;cases h
theorem EC (I:Inv X pins σ H s):∀ (ds:List D) (vs:List V) (us:List Value) (ps:List PyData),Reps X.K M H ds vs->Vals vs us->BA ds=some ps->∃ as,ReadsAll s.heap us ps as
 | [],vs,us,ps,r,q,h=>by
   cases h
   cases (show vs=[] from r)
   cases q
   exact ⟨[],.nil⟩
 | d::ds,vs,us,ps,r,q,h=>by
   unfold BA at h
   obtain ⟨p,e1,h⟩:=Option.bind_eq_some_iff.mp h
   obtain ⟨qs,e2,rfl⟩:=Option.map_eq_some_iff.mp h
   obtain ⟨v,rv,rfl,r1,r2⟩:=r
   cases q with
   | cons q1 q2 =>
     obtain ⟨as,a1⟩:=HH I d v _ p r1 q1 e1
     obtain ⟨bs,a2⟩:=EC I ds rv _ qs r2 q2 e2
     exact ⟨as++bs,.cons a1 a2⟩
end
end
def YO (K:Fg)(M:Addr->Prop)(H:Hp):D->V->Prop
 | .own xs,v=>∃ a vs,v=.ref a/\H a=some (.lst vs)/\Reps K M H xs vs
 | .frg _ d,v=>∃ M',Rep K M' H d v
 | d,v=>Rep K M H d v
theorem RepX.g {W:Wd} {H:Hp}{d:D}{v:V}{p:PyData}(h:RepX W M b H d v)(e:V6 d=some p):YO W.K M H d v:=by
 cases d
 case own xs=>obtain ⟨a,vs,rfl,_,_,_,_,hh,r⟩:=h;exact ⟨a,vs,rfl,hh,r⟩
 case bag=>unfold V6 at e;cases e
 case frg f d=>exact ⟨_,h.2.2⟩
 all_goals exact h
theorem AL {X:Cx}{pins:List (Addr×Obj)}{σ:St}{H:Hp}{s:Shared} (I:Inv X pins σ H s){d:D}{v:V}{u:Value}{p:PyData}(r:YO X.K M H d v)(q:RelV v u)(h:V6 d=some p):∃ as,Reads s.heap u p as:=by
 cases d
 case own xs =>
  obtain ⟨a,vs,rfl,hh,r⟩:=r
  unfold V6 at h
  obtain ⟨ps,e,rfl⟩:=Option.map_eq_some_iff.mp h
  cases (show u=Value.ref a from q)
  obtain ⟨its,r1,⟨o,n,h1,h2,_,h3⟩,_⟩:=I.list (SqL.of hh)
  obtain ⟨as,ra⟩:=EC I xs vs its ps r r1 e
  exact ⟨a::as,.list h1 h2 h3 (by simpa using ra)⟩
 case frg f d =>
  obtain ⟨M',r⟩:=r
  exact HH (M:=M') I d _ _ _ r q (by unfold V6 at h;exact h)
 all_goals exact HH I _ _ _ _ r q h
noncomputable def J8v (K:Fg)(neg:Bool):R2:=fun x y H Q=>∃ M dx dy p q,YO K M H dx x/\YO K M H dy y/\V6 dx=some p/\V6 dy=some q/\min p.depth q.depth<=60/\Q (.bl (PyData.eqv p q != neg)) H
theorem J9g {X:Cx}(K:Fg)(hK:X.K=K)(hu:X.A.units+64<cLine):OpR X (compareOp .Eq) (J8v K false):=by
 subst hK
 intro pins s σ H x y v u Q I rx ry h
 obtain ⟨M,dx,dy,p,q,r1,r2,e1,e2,hd,hq⟩:=h
 obtain ⟨as,a1⟩:=AL I r1 rx e1
 obtain ⟨bs,a2⟩:=AL I r2 ry e2
 refine SeqAt.compareEq_reads a1 a2 (V6.lay _ _ e1) (V6.lay _ _ e2) (by omega) ?_
 exact ⟨.bl _,H,I,rfl,by simpa using hq⟩
theorem J9e {X:Cx}(K:Fg)(hK:X.K=K)(hu:X.A.units+64<cLine):OpR X (compareOp .NotEq) (J8v K true):=by
 subst hK
 intro pins s σ H x y v u Q I rx ry h
 obtain ⟨M,dx,dy,p,q,r1,r2,e1,e2,hd,hq⟩:=h
 obtain ⟨as,a1⟩:=AL I r1 rx e1
 obtain ⟨bs,a2⟩:=AL I r2 ry e2
 refine SeqAt.compareNe_reads a1 a2 (V6.lay _ _ e1) (V6.lay _ _ e2) (by omega) ?_
 exact ⟨.bl _,H,I,rfl,by simpa using hq⟩
inductive EqG (neg:Bool)(x y:D)(P:D->Prop):Prop
 | mk (p q:PyData) (e1:V6 x=some p) (e2:V6 y=some q) (hd:min p.depth q.depth<=60) (h:P (.bl (PyData.eqv p q != neg))):EqG neg x y P
noncomputable def Q5r (neg:Bool):D->D->(D->Prop)->Prop:=fun x y P=>EqG neg x y P
theorem J0m {W:Wd}{neg:Bool}:OpD W (J8v W.K neg) (Q5r neg):=by
 intro M b H x y v u P Q hs rx ry ho k
 obtain ⟨p,q,e1,e2,hd,hp⟩:=ho
 exact ⟨M,x,y,p,q,rx.g e1,ry.g e2,e1,e2,hd,k _ _ H hp (show _=_ from rfl) (Kp.refl _ _) hs.ok⟩
mutual
def AV:Nat->D->Bool
 | _,.non=>true
 | _,.bl _=>true
 | _,.int _=>true
 | _,.str x=>PyData.strOk x
 | n+1,.tup xs=>BZ n xs
 | n+1,.lst xs=>BZ n xs
 | n+1,.own xs=>BZ n xs
 | n,.frg _ d=>AV n d
 | _,_=>false
def BZ:Nat->List D->Bool
 | _,[]=>true
 | n,d::ds=>AV n d&&BZ n ds
end
mutual
theorem IT:∀ (n:Nat) (d:D),AV n d=true->∃ p,V6 d=some p/\p.depth<=n/\PyData.eqv p p=true
 | n,.non,h=>⟨_,rfl,Nat.zero_le _,rfl⟩
 | n,.bl b,h=>⟨_,rfl,Nat.zero_le _,by simp [PyData.eqv]⟩
 | n,.int i,h=>⟨_,rfl,Nat.zero_le _,by simp [PyData.eqv]⟩
 | n,.str x,h=>by
   have h:PyData.strOk x=true:=by cases n<;>simpa [AV] using h
   exact ⟨.str x,by unfold V6;rw [if_pos h],Nat.zero_le _,by simp [PyData.eqv]⟩
 | 0,.tup xs,h=>by simp [AV] at h
 | 0,.lst xs,h=>by simp [AV] at h
 | 0,.own xs,h=>by simp [AV] at h
 | n+1,.tup xs,h=>by
   obtain ⟨ps,e,hd,hq⟩:=FH n xs (by simpa [AV] using h)
   exact ⟨.tuple ps,by unfold V6;rw [e];rfl,by unfold PyData.depth;omega,by unfold PyData.eqv;exact hq⟩
 | n+1,.lst xs,h=>by
   obtain ⟨ps,e,hd,hq⟩:=FH n xs (by simpa [AV] using h)
   exact ⟨.list ps,by unfold V6;rw [e];rfl,by unfold PyData.depth;omega,by unfold PyData.eqv;exact hq⟩
 | n+1,.own xs,h=>by
   obtain ⟨ps,e,hd,hq⟩:=FH n xs (by simpa [AV] using h)
   exact ⟨.list ps,by unfold V6;rw [e];rfl,by unfold PyData.depth;omega,by unfold PyData.eqv;exact hq⟩
 | n,.ty _,h=>by cases n<;>simp [AV] at h
 | n,.adr _,h=>by cases n<;>simp [AV] at h
 | n,.bag,h=>by cases n<;>simp [AV] at h
 | n,.frg _ d,h=>by
   obtain ⟨p,e,h1,h2⟩:=IT n d (by cases n<;>simpa [AV] using h)
   exact ⟨p,by unfold V6;exact e,h1,h2⟩
 | n,.scr _,h=>by cases n<;>simp [AV] at h
 | n,.dct _ _ _,h=>by cases n<;>simp [AV] at h
theorem FH:∀ (n:Nat) (ds:List D),BZ n ds=true->∃ ps,BA ds=some ps/\PyData.depthAll ps<=n/\PyData.eqvAll ps ps=true
 | n,[],h=>⟨[],rfl,Nat.zero_le _,rfl⟩
 | n,d::ds,h=>by
   unfold BZ at h
   obtain ⟨h1,h2⟩:=(Bool.and_eq_true _ _).mp h
   obtain ⟨p,e1,d1,q1⟩:=IT n d h1
   obtain ⟨ps,e2,d2,q2⟩:=FH n ds h2
   exact ⟨p::ps,by unfold BA;rw [e1,e2];rfl,by unfold PyData.depthAll;omega,by unfold PyData.eqvAll;rw [q1,q2];rfl⟩
end
theorem J2b {x y:D}{neg:Bool}{P:D->Prop}(n:Nat)(h:AV n x=true)(e:V6 y=V6 x)(hn:n<=60)(hp:P (.bl (!neg))):EqG neg x y P:=by
 obtain ⟨p,e1,d1,q1⟩:=IT n x h
 refine ⟨p,p,e1,e.trans e1,by omega,?_⟩
 rw [q1]
 simpa using hp
section
variable {e:Expr}{p:Pos}{d:DE}{x:Str}{ps:List Str}
def bor:D->D
 | .own xs=>.lst xs
 | .frg _ d=>d
 | d=>d
theorem J5z {xs:List D}{neg:Bool}{P:D->Prop}(n:Nat)(h:BZ n xs=true)(hp:P (.bl (xs.isEmpty != neg))):EqG neg (.own xs) (.lst []) P:=by
 obtain ⟨ps,e,hd,hq⟩:=FH n xs h
 refine ⟨.list ps,.list [],by unfold V6;rw [e];rfl,rfl,Nat.le_trans (Nat.min_le_right _ _) (by decide),?_⟩
 have:PyData.eqv (.list ps) (.list [])=xs.isEmpty:=by
  cases xs with
  | nil=>cases e;rfl
  | cons x xs =>
    unfold BA at e
    obtain ⟨p,e1,e⟩:=Option.bind_eq_some_iff.mp e
    obtain ⟨qs,e2,rfl⟩:=Option.map_eq_some_iff.mp e
    rfl
 rw [this]
 exact hp
end
abbrev DSO:=List D->(List D->Prop)->(Addr->Prop)->Prop
def Y6 (K:Fg)(B:BagT)(S:DSO):Sp:=fun vs H Q E=>∃ (M:Addr->Prop) (b:Option Addr) (ds:List D) (P:List D->Prop) (Ed:Addr->Prop),S ds P Ed/\RepAs K M b H ds vs/\okB B b H/\(∀ p,b=some p->M p)/\(∀ c,M c->∃ o,H c=some o) /\
 (∀ xs a us H',P xs->H a=none->H' a=some (.lst us)->Reps K (fun c=>M c\/c=a) H' xs us->Kp b H H'->okB B b H'->Q (.ref a) H')/\∀ C H',Ed C->Kp b H H'->okB B b H'->E (.ref C) none H'
theorem Y6.len {B:BagT}{S:DSO}{n:Nat}(h:∀ ds P Ed,S ds P Ed->ds.length=n):∀ vs H Q E,Y6 K B S vs H Q E->vs.length=n:=fun vs H Q E ⟨M,b,ds,P,Ed,hS,hr,_⟩=>by rw [hr.length];exact h _ _ _ hS
theorem Q2y {B:BagT} {N:List Str}{ds:List D}{vs:List V}{H:Hp}{Q:VK}{P:List D->Prop}{d:DS}(hr:RepAs K M b H ds vs)(ho:okB B b H)(hb:∀ p,b=some p->M p)(hd:∀ c,M c->∃ o,H c=some o)(hq:∀ xs a us H',P xs->H a=none->H' a=some (.lst us)->Reps K (fun c=>M c\/c=a) H' xs us->Kp b H H'->okB B b H'->Q (.ref a) H')
 (h:d { nx:=fun _=>False,rt:=fun _=>False,ro:=P } (AJ N ds)):sn ⟨K,B,H,M,b⟩ d { nx:=fun _ H'=>Q .non H',rt:=Q } (CV N vs) H :=
 ⟨[],M,b,AJ N ds,{ nx:=fun _=>False,rt:=fun _=>False,ro:=P },J2d hr ho hb hd,⟨fun _ _ _ _ _ _ h=>h.elim,fun _ _ _ h=>h.elim,fun _ _ _ _ _ _ h=>h.elim,fun _ _ _ _ _ _ h=>h.elim,fun xs a us H' hp h0 _ hh r k o=>hq xs a us H' hp h0 hh r k o⟩,h⟩
theorem Fun.okDO {P:Program}{w:World} {mg:Str->Option Value}{base:Heap}{x qual:Str}{st:Stmt}{f:Addr} {N ps:List Str}{k:Nat}{B:BagT}{Sd:DSO}(F:Fun K x qual st f fd)(S:FnScope N ps (J4 st))(len:∀ ds PP Ed,Sd ds PP Ed->ds.length=ps.length)
 (hbody:∀ (cdv:Value) (A:Around) (outer:List Env) (s:Shared) (H:Hp) (E:XK) (M:Addr->Prop) (bg:Option Addr) (ds:List D) (PP:List D->Prop) (Ed:Addr->Prop),Room k (A.deeper (envOfC qual (J4 st) s.heap.objs.size f cdv))->Sd ds PP Ed ->
  ∃ d,JSs (Z8 CX0 P w K mg base N qual (J4 st) f cdv A outer s H E).nox ⟨K,B,H,M,bg⟩ (AH st) d/\d { nx:=fun _=>False,rt:=fun _=>False,ro:=PP } (AJ N ds)):FnOk P w K mg base CX0 (k+1) f fd ps (Y6 K B Sd) :=
 F.ok S (Y6.len len) fun cdv A outer s H vs Q E hr h=>by
  obtain ⟨M,bg,ds,PP,Ed,hS,hR,ho,hb,hd,hq,hx⟩:=h
  obtain ⟨d,J,q⟩:=hbody cdv A outer s H E M bg ds PP Ed hr hS
  exact ⟨_,J.h,Q2y hR ho hb hd hq q⟩
section
variable {X:Cx}{W:Wd}{e a b c tg iter l:Expr}{es:List Expr}{pos p:Pos}{d de:DE}{dA di:DA}{dt:DT}{x:Str}{k:Nat}{ps:List Str}{S:DSO}
theorem Sta.fresh0 {pn:List (D×V)} {b:Option Addr}{H:Hp}{σ:St}{ρ:Ev}{p:Addr}(s:Sta W pn M b H σ ρ)(h:H p=none):W.H0 p=none/\¬ W.M0 p:=by
 have hbp:b≠some p:=fun z=>by
  obtain ⟨o,e⟩:=W.B.dm p H (s.ok p z)
  rw [h] at e;cases e
 refine ⟨?_,fun z=>s.toHs.new h (s.m0 p z)⟩
 cases q:W.H0 p with
 | none=>rfl
 | some o =>
   by_cases z:W.b0=some p
   · rcases s.new with y|⟨y,_⟩
     · exact absurd (y.trans z) hbp
     · rw [y] at z;cases z
   · have:=s.kp p o z q
     rw [h] at this;cases this
theorem J4i {pn:List (D×V)} {b:Option Addr}{H:Hp}{σ:St}{ρ:Ev}{p:Addr}{E:Ends}{F:DEnds}{xs:List D}{vs:List V}(s:Sta W pn M b H σ ρ)(l:Link W pn E F)(h:H p=none)(r:Reps W.K M H xs vs)(hx:F.ro xs):E.rt (.ref p) (upd H p (.lst vs)):=by
 obtain ⟨h0,m0⟩:=s.fresh0 h
 have s':=s.step (Kp.upd (o:=HO.lst vs) h) (s.toHs.okU h)
 exact l.ro xs p vs _ hx h0 m0 Q6 (Reps.keep (fun c o _ e=>Same.upd h c o e) _ _ (Reps.avoid (fun c z=>z.elim (fun y=>.inl (s.m0 c y)) fun y=>.inr (by rw [y];exact h)) _ _ r)) s'.kp s'.ok0
noncomputable def Q4o (map:List (Option Nat))(gd:D->Ev->(Ev->Prop)->Prop)(di:DA)(dt:DT)(de:DE):DS:=fun F ρ=>di ρ fun items=>items.length<=1000/\compI gd dt de (DW ρ map) items fun acc=>F.ro acc
theorem J1g {elt iter tg:Expr}{ifs:List Expr}{scope:Scope}{N':List Str}{map:List (Option Nat)}{g:TG}{gd:D->Ev->(Ev->Prop)->Prop}{cpos:Pos}(hG:GD W g gd)(B:Blk X N' scope map tg elt ifs g (dnT W dt) (dn W de))(hi:JI X W false tg iter di)
 (hs:∀ x,foldedSetIterable iter X.env x=pure x:=by intro _;rfl):JS X W (.Return (some (.ListComp elt [⟨tg,iter,ifs,0⟩] scope cpos)) pos) (Q4o map gd di dt de):=⟨(EW (NY B hi.h hs)).mono fun E σ H hh=>hh.elim fun pn M b ρ F s l h=>by
 refine ⟨pn,M,b,ρ,_,s.toSta,h,fun items J need H1 hx hp hI hn k1 o1=>?_⟩
 have s1:=s.step k1 o1
 refine EI hG (s1.toSta.capt map) hp hI (fun q hq=>(hn q hq).1) hx.1 hx.2 fun ds acc H' hP r hl k2 o2 q hq=>?_
 exact J4i (s1.step k2 o2).toSta l hq r hP⟩
mutual
def noL:D->Bool
 | .tup xs=>EF xs
 | .lst _=>false
 | .own _=>false
 | .bag=>false
 | .frg _ _=>false
 | .scr _=>false
 | .dct _ _ _=>false
 | .non=>true
 | .bl _=>true
 | .int _=>true
 | .str _=>true
 | .ty _=>true
 | .adr _=>true
def EF:List D->Bool
 | []=>true
 | d::ds=>noL d&&EF ds
end
theorem noLs_all:∀ {ds:List D},(∀ d∈ds,noL d=true)->EF ds=true
 | [],_=>by unfold EF;rfl
 | d::ds,h=>by
   unfold EF
   rw [h d (List.mem_cons_self ..),noLs_all fun e he=>h e (List.mem_cons_of_mem _ he)];rfl
section
variable {K:Fg}{M M':Addr->Prop}{H:Hp}
mutual
theorem Rep.unbor (k:∀ c,M c->M' c\/∃ o,H c=some o/\∀ vs,o≠.tup vs):∀ (d:D) (v:V),noL d=true->Rep K M' H d v->Rep K M H d v
 | .non,_,_,h=>h
 | .bl _,_,_,h=>h
 | .int _,_,_,h=>h
 | .str _,_,_,h=>h
 | .ty _,_,_,h=>h
 | .adr _,_,_,h=>h
 | .tup xs,v,n,h=>by
   obtain ⟨a,vs,e,z,r⟩:=h
   refine ⟨a,vs,e,z.imp (fun q=>⟨fun m=>?_,q.2⟩) id,Reps.unbor k xs vs (by unfold noL at n;exact n) r⟩
   rcases k a m with y|⟨us,y,nt⟩
   · exact q.1 y
   · rw [q.2] at y;cases y;exact nt _ rfl
 | .lst _,_,n,_=>by unfold noL at n;cases n
 | .own _,_,n,_=>by unfold noL at n;cases n
 | .bag,_,n,_=>by unfold noL at n;cases n
 | .frg _ _,_,n,_=>by unfold noL at n;cases n
 | .scr _,_,n,_=>by unfold noL at n;cases n
 | .dct _ _ _,_,n,_=>by unfold noL at n;cases n
theorem Reps.unbor (k:∀ c,M c->M' c\/∃ o,H c=some o/\∀ vs,o≠.tup vs):∀ (ds:List D) (vs:List V),EF ds=true->Reps K M' H ds vs->Reps K M H ds vs
 | [],_,_,h=>h
 | d::ds,vs,n,h=>by
   obtain ⟨v,r,e,h1,h2⟩:=h
   unfold EF at n
   obtain ⟨n1,n2⟩:=(Bool.and_eq_true _ _).mp n
   exact ⟨v,r,e,Rep.unbor k d v n1 h1,Reps.unbor k ds r n2 h2⟩
end
end
def BorAt:List D->List V->Addr->Prop
 | .own _::ds,v::vs,c=>v=.ref c\/BorAt ds vs c
 | .frg f _::ds,_::vs,c=>c∈f.ads\/BorAt ds vs c
 | _::ds,_::vs,c=>BorAt ds vs c
 | _,_,_=>False
theorem BorAt.lst {b:Option Addr}{H:Hp}{c:Addr}:∀ (ds:List D) (vs:List V),RepXs W M b H ds vs->BorAt ds vs c->b≠some c/\∃ o,H c=some o/\∀ vs,o≠.tup vs
 | [],vs,h,q=>by cases (show vs=[] from h);exact q.elim
 | d::ds,vs,h,q=>by
   obtain ⟨v,r,rfl,h1,h2⟩:=h
   cases d
   case own xs =>
    rcases q with z|z
    · obtain ⟨a,us,e,m1,m2,m3,m4,hh,r'⟩:=h1
      rw [z] at e;cases e
      exact ⟨m2,_,hh,fun _ y=>by cases y⟩
    · exact BorAt.lst ds r h2 z
   case frg f d =>
    rcases q with z|z
    · exact ⟨(h1.1 c z).2.1,f.nt _ _ _ h1.2.1 c z⟩
    · exact BorAt.lst ds r h2 z
   all_goals exact BorAt.lst ds r h2 q
theorem RepXs.bor2 {M M':Addr->Prop}{b:Option Addr}{H:Hp}(sub:∀ c,M' c->M c):∀ (ds:List D) (vs:List V),(∀ c,BorAt ds vs c->¬ M' c)->RepXs W M b H ds vs->RepAs W.K M' b H (ds.map L2.bor) vs
 | [],_,_,h=>h
 | d::ds,vs,nb,h=>by
   obtain ⟨v,r,rfl,h1,h2⟩:=h
   have av:∀ c,M' c->M c\/H c=none:=fun c hc=>.inl (sub c hc)
   have nb2:∀ c,BorAt ds r c->¬ M' c:=fun c hc=>nb c (by cases d<;>first|exact hc|exact .inr hc)
   refine ⟨v,r,rfl,?_,RepXs.bor2 sub ds r nb2 h2⟩
   cases d
   case own xs =>
    obtain ⟨a,us,rfl,m1,m2,m3,m4,hh,r'⟩:=h1
    exact ⟨a,us,rfl,⟨nb a (.inl rfl),hh⟩,Reps.avoid av _ _ r'⟩
   case bag=>exact h1
   case frg f d =>
    have r:=Rep.avoid (M':=M') (fun c hc=>.inl ⟨sub c hc,fun m=>nb c (.inl m) hc⟩) _ _ h1.2.2
    show Q1z W.K _ b H d v
    cases d<;>first|exact r|exact r.elim
   all_goals exact Rep.avoid av _ _ h1
theorem J2w {pn:List (D×V)} {b:Option Addr}{H1:Hp}{σ:St}{ρ:Ev}{xs:List D}{vs:List V}{P:List D->Prop}{Q:VK}(st1:Sta W pn M b H1 σ ρ)(rx:RepXs W M b H1 xs vs)(hS:S (xs.map bor) (fun ys=>EF ys=true/\P ys) (fun _=>False))
 (k:∀ ys a us H',P ys->H1 a=none->H' a=some (.lst us)->Reps W.K M H' ys us->Kp b H1 H'->okB W.B b H'->Q (.ref a) H'):Y6 W.K W.B S vs H1 Q E0:=by
 refine ⟨fun c=>M c/\¬ BorAt xs vs c,b,xs.map bor,_,fun _=>False,hS,RepXs.bor2 (fun c h=>h.1) _ _ (fun c h z=>z.2 h) rx,st1.ok,fun p h=>⟨st1.bagM p h,fun z=>(BorAt.lst xs vs rx z).1 h⟩,fun c hc=>st1.dom c hc.1,fun ys a us H' hp h0 hh r k2 o2=>?_,fun C H' hC=>hC.elim⟩
 refine k ys a us H' hp.2 h0 hh (Reps.unbor (fun c m=>?_) _ _ hp.1 (Reps.avoid (fun c m=>.inl (.inl m)) _ _ r)) k2 o2
 by_cases z:BorAt xs vs c
 · obtain ⟨nb,us',e,nt⟩:=BorAt.lst xs vs rx z
   exact .inr ⟨us',k2 c _ nb e,nt⟩
 · exact .inl ⟨m,z⟩
noncomputable def Q1p (S:DSO)(dA:DA):DE:=fun ρ P=>dA ρ fun ds=>S (ds.map bor) (fun ys=>EF ys=true/\P (.lst ys)) (fun _=>False)
theorem KE (G:Callee X.prog X.w X.K X.mg X.base CX0 x k ps (Y6 W.K W.B S))(hr:Room k X.A)(hg:Gl X x)(ha:JA X W (e::es) dA)(hdb:(x==("__debug__" : Str))=false:=by decide) (he:starEach (e::es) X.env=(false,eval e X.env)::starEach es X.env:=by rfl) (hpl:(backTo pos (starEach es X.env)).any (·.1)=false:=by rfl) :
 JE X W (.Call (.Name x p) (e::es) [] pos) (Q1p S dA):=⟨(TJ G hr hg ha.h hdb he hpl).mono fun σ H Q hh=>hh.elim fun pn M b ρ P st h k=>by
 refine ⟨pn,M,b,ρ,_,st,h,fun xs vs H1 hx rx k1 o1=>?_⟩
 have st1:=st.step k1 o1
 show Y6 W.K W.B S (vs++[]) H1 Q E0
 rw [List.append_nil]
 exact J2w (P:=fun ys=>P (.lst ys)) st1 rx hx fun ys a us H' hp h0 hh r k2 o2=>k _ _ H' hp ⟨a,us,rfl,⟨st1.toHs.new h0,hh⟩,r⟩ (k1.trans k2) o2⟩
end
theorem HT.cat_tup0 {prog:Program}{w:World}{A:Around}{E:Value->Shared->Prop}{s:Shared}{t b:Addr}{ws:List Value}{Q:Value->Shared->Prop}(ht:IsTup s.heap t ([]:List Value).toArray)(hb:IsTup s.heap b ws.toArray)(h1:Q (.ref b) s):wpAny (model prog w) A (binaryOp .Add (.ref t) (.ref b)) Q E s:=by
 obtain ⟨⟨cls,dd,data,sl⟩,ho,hc,n,hd⟩:=id ht
 obtain ⟨⟨cls2,dd2,data2,sl2⟩,ho2,hc2,n2,hd2⟩:=id hb
 simp only at hc hd hc2 hd2
 subst hc hd hc2 hd2
 exact concat_meets ⟨_,ho,rfl⟩ ⟨_,ho2,rfl⟩ noFill_tuple_add seq_tuple_add PySem.F.slot_tuple_add PySem.F.entry_tuple_add (PySem.F.args_tuple_add_2 _ _)
  (tuple_addW0 t b _ ws.toArray n n2 dd dd2 sl sl2 rfl) ⟨ho,ho2,h1⟩
noncomputable def ZR (K:Fg):R2:=fun x y H Q=>(∃ a b ys,x=.ref a/\y=.ref b/\SqT K H a []/\SqT K H b ys/\Q (.ref b) H)\/J7f K x y H Q
theorem J0j {X:Cx}(K:Fg)(h:X.K=K):OpR X (binaryOp .Add) (ZR K):=by
 subst h
 intro pins s σ H x y v u Q I rx ry h
 rcases h with ⟨a,b,ys,rfl,rfl,ha,hb,q⟩|h
 · cases rx
   cases ry
   obtain ⟨its,r1,p1,_⟩:=I.tuple ha
   obtain ⟨its2,r2,p2,_⟩:=I.tuple hb
   cases r1
   exact HT.cat_tup0 p1 p2 ⟨.ref b,H,I,rfl,q⟩
 · exact J5c pins s σ H x y v u Q I rx ry h
noncomputable def J9o:D->D->(D->Prop)->Prop
 | .tup xs,.tup ys,P=>xs.length+ys.length<=1000/\P (.tup (xs++ys))
 | _,_,_=>False
theorem J0n {W:Wd}:OpD W (ZR W.K) J9o:=by
 intro M b H x y v u P Q hs rx ry ho k
 cases x<;>first|exact ho.elim|skip
 cases y<;>first|exact ho.elim|skip
 rename_i xs ys
 have rx0:=rx
 have ry0:=ry
 obtain ⟨a1,vs,rfl,h1,r1⟩:=rx
 obtain ⟨a2,us,rfl,h2,r2⟩:=ry
 obtain ⟨hl,hp⟩:=ho
 by_cases n1:xs=[]
 · subst n1
   cases (show vs=[] from r1)
   exact .inl ⟨a1,a2,us,rfl,rfl,h1.sq,h2.sq,k _ _ H hp ry0 (Kp.refl _ _) hs.ok⟩
 · refine .inr ⟨a1,a2,vs,us,rfl,rfl,h1.sq,h2.sq,r1.ne n1,by rw [r1.length,r2.length];exact Nat.le_trans hl AT,fun z=>?_,fun _ p hp'=>k _ _ _ hp (FP hs (Reps.append r1 r2) hp') (Kp.upd hp') (hs.okU hp')⟩
   have:ys=[]:=by
    have:=r2.length
    rw [z] at this
    exact List.length_eq_zero_iff.mp this.symm
   subst this
   rw [List.append_nil] at hp
   exact k _ _ H hp rx0 (Kp.refl _ _) hs.ok
theorem Fun.okDXO {P:Program}{w:World} {mg:Str->Option Value}{base:Heap}{CX:CXT}{x qual:Str}{st:Stmt}{f:Addr} {N ps:List Str}{k:Nat}{B:BagT}{Sd:DSO}(F:Fun K x qual st f fd)(S:FnScope N ps (J4 st))(len:∀ ds PP Ed,Sd ds PP Ed->ds.length=ps.length)
 (hbody:∀ (cdv:Value) (A:Around) (outer:List Env) (s:Shared) (H:Hp) (E:XK) (M:Addr->Prop) (bg:Option Addr) (ds:List D) (PP:List D->Prop) (Ed:Addr->Prop),Room k (A.deeper (envOfC qual (J4 st) s.heap.objs.size f cdv))->DY ⟨K,B,H,M,bg⟩ E Ed->Sd ds PP Ed ->
  ∃ d,JSs (Z8 CX P w K mg base N qual (J4 st) f cdv A outer s H E) ⟨K,B,H,M,bg⟩ (AH st) d/\d { nx:=fun _=>False,rt:=fun _=>False,ro:=PP } (AJ N ds)):FnOk P w K mg base CX (k+1) f fd ps (Y6 K B Sd) :=
 F.okX S (Y6.len len) fun cdv A outer s H vs Q E hr h=>by
  obtain ⟨M,bg,ds,PP,Ed,hS,hR,ho,hb,hd,hq,hx⟩:=h
  obtain ⟨d,J,q⟩:=hbody cdv A outer s H E M bg ds PP Ed hr (fun C H' e k o=>hx C H' e k o) hS
  exact ⟨_,J.h,Q2y hR ho hb hd hq q⟩
section
variable {X:Cx}{W:Wd}{e a b c:Expr}{es:List Expr}{pos p:Pos}{dA:DA}{x:Str}{k:Nat}{ps:List Str}{S:DSO}
theorem YN {pn:List (D×V)} {b:Option Addr}{H1:Hp}{σ:St}{ρ:Ev}{xs:List D}{vs:List V}{P:List D->Prop}{Q:VK}{E:XK}{Ed:Addr->Prop}(hE:DY W E Ed)(st1:Sta W pn M b H1 σ ρ)(rx:RepXs W M b H1 xs vs)(hS:S (xs.map bor) (fun ys=>EF ys=true/\P ys) Ed)
 (k:∀ ys a us H',P ys->H1 a=none->H' a=some (.lst us)->Reps W.K M H' ys us->Kp b H1 H'->okB W.B b H'->Q (.ref a) H'):Y6 W.K W.B S vs H1 Q E:=by
 refine ⟨fun c=>M c/\¬ BorAt xs vs c,b,xs.map bor,_,Ed,hS,RepXs.bor2 (fun c h=>h.1) _ _ (fun c h z=>z.2 h) rx,st1.ok,fun p h=>⟨st1.bagM p h,fun z=>(BorAt.lst xs vs rx z).1 h⟩,fun c hc=>st1.dom c hc.1,fun ys a us H' hp h0 hh r k2 o2=>?_,fun C H' hC k2 o2=>?_⟩
 · refine k ys a us H' hp.2 h0 hh (Reps.unbor (fun c m=>?_) _ _ hp.1 (Reps.avoid (fun c m=>.inl (.inl m)) _ _ r)) k2 o2
   by_cases z:BorAt xs vs c
   · obtain ⟨nb,us',e,nt⟩:=BorAt.lst xs vs rx z
     exact .inr ⟨us',k2 c _ nb e,nt⟩
   · exact .inl ⟨m,z⟩
 · have st2:=st1.step k2 o2
   exact hE C H' hC st2.kp st2.ok0
noncomputable def J6r (S:DSO)(Ed:Addr->Prop)(dA:DA):DE:=fun ρ P=>dA ρ fun ds=>S (ds.map bor) (fun ys=>EF ys=true/\P (.lst ys)) Ed
theorem HP {CX:CXT}{E:XK}{Ed:Addr->Prop}(hE:DY W E Ed)(hp:DL CX X E)(G:Callee X.prog X.w X.K X.mg X.base CX x k ps (Y6 W.K W.B S))(hr:Room k X.A)(hg:Gl X x)(ha:JA X W (e::es) dA)(hdb:(x==("__debug__" : Str))=false:=by decide) (he:starEach (e::es) X.env=(false,eval e X.env)::starEach es X.env:=by rfl) (hpl:(backTo pos (starEach es X.env)).any (·.1)=false:=by rfl) :
 JE X W (.Call (.Name x p) (e::es) [] pos) (J6r S Ed dA):=⟨(NX hp G hr hg ha.h hdb he hpl).mono fun σ H Q hh=>hh.elim fun pn M b ρ P st h k=>by
 refine ⟨pn,M,b,ρ,_,st,h,fun xs vs H1 hx rx k1 o1=>?_⟩
 have st1:=st.step k1 o1
 show Y6 W.K W.B S (vs++[]) H1 Q E
 rw [List.append_nil]
 exact YN (P:=fun ys=>P (.lst ys)) hE st1 rx hx fun ys a us H' hp h0 hh r k2 o2=>k _ _ H' hp ⟨a,us,rfl,⟨st1.toHs.new h0,hh⟩,r⟩ (k1.trans k2) o2⟩
end
section
theorem ZJ {σ:St}{i:Nat}{v:V}(e:σ[i]?=some (some v)):σ.set i (some v)=σ:=by
 apply List.ext_getElem?
 intro n
 by_cases z:i=n
 · subst z;rw [List.getElem?_set,e];simp;exact (List.getElem?_eq_some_iff.mp e).1
 · rw [List.getElem?_set_ne z]
end
section
theorem J2c {xs:List D}{neg:Bool}{P:D->Prop}(n:Nat)(h:BZ n xs=true)(hp:P (.bl (xs.isEmpty != neg))):EqG neg (.lst xs) (.lst []) P:=by
 obtain ⟨a,b,e1,e2,r,r2⟩:=J5z n h hp
 exact ⟨a,b,by unfold V6 at e1 ⊢;exact e1,e2,r,r2⟩
end
section
variable {X:Cx}{W:Wd}{pos:Pos}{dA:DA}
noncomputable def Q1l (i:Nat)(dA:DA):DS:=fun F ρ=>match ρ[i]? with
 | some (some (.own ys))=>dA ρ fun xs=>(match xs with | [.lst zs]=>ys.length+zs.length<=1000/\F.nx (ρ.set i (some (.own (ys++zs))))|_=>False)
 | _=>False
theorem J8e {i:Nat}:∀ E σ H,sn W (Q1l i dA) E σ H->J7d (tBM W.K "list" NU (SO i) (dnA W dA)) E σ H:=fun E σ H hh=>hh.elim fun pn M b ρ F s l h=>by
 unfold Q1l at h
 split at h
 case h_2=>exact h.elim
 case h_1 ys e =>
  obtain ⟨a,vs,ea,nb,hh,r⟩:=OB s.toSta e
  refine ⟨.ref a,ea,.inl ⟨rfl,vs,SqL.of hh⟩,pn,M,b,ρ,_,s.toSta,h,fun xs us H' hx rx k o=>?_⟩
  match xs,hx with
  | [.lst zs],hx =>
    obtain ⟨u,rfl,ru⟩:=rx1 rx
    obtain ⟨a2,ws,rfl,⟨n2,h2⟩,r2⟩:=(show ∃ a vs,u=.ref a/\(¬ M a/\H' a=some (.lst vs))/\Reps W.K M H' zs vs from ru)
    have s':=s.step k o
    obtain ⟨a',vs',ea',nb',hh',r'⟩:=OB s'.toSta e
    rw [ea] at ea';cases ea'
    exact ⟨a,a2,vs',ws,rfl,rfl,hh',h2,by rw [r'.length,r2.length];exact Nat.le_trans hx.1 AT,l.nx _ _ _ _ _ (s'.setOwn i e ea (Reps.append r' r2)) hx.2⟩
theorem GL {i:Nat}{x:Str}{e:Expr}{npos apos cpos:Pos}(hK:X.K=W.K)(ha:JA X W [e] dA)
 (h:PE X (.Call (.Attribute (.Name x npos) "extend" apos) [e] [] cpos) (tBM X.K "list" NU (SO i) (dnA W dA))) (hs:swapsWith (.Call (.Attribute (.Name x npos) "extend" apos) [e] [] cpos) none pos.line X.env=pure false:=by rfl) :
 JS X W (.Expr (.Call (.Attribute (.Name x npos) "extend" apos) [e] [] cpos) pos) (Q1l i dA):=⟨(J4q (by rw [hK] at h;exact h) hs).mono J8e⟩
end
section
variable {κ:Type} [DecidableEq κ]
def IX (kvs:List (κ×V))(k:κ):Option V:=(kvs.find? fun kv=>decide (kv.1=k)).map (·.2)
def J4p (kvs:List (κ×V))(k:κ)(v:V):List (κ×V) :=
 if (kvs.any fun kv=>decide (kv.1=k))=true then kvs.map (fun kv=>if kv.1=k then (kv.1,v) else kv) else kvs++[(k,v)]
theorem PX {p:κ×V}{r:List (κ×V)}{k:κ}(e:p.1=k):IX (p::r) k=some p.2:=by simp [IX,List.find?_cons,e]
theorem PY {p:κ×V}{r:List (κ×V)}{k:κ}(e:¬ p.1=k):IX (p::r) k=IX r k:=by simp [IX,List.find?_cons,e]
theorem KV.val {kvs:List (κ×V)}{vs:List (κ×Value)}(r:KV kvs vs)(k:κ):J7a (IX kvs k) (valueAt vs k):=by
 unfold KV at r
 induction r with
 | nil=>exact True.intro
 | @cons p q ps qs h t ih =>
   obtain ⟨h1,h2⟩:=h
   by_cases e:p.1=k
   · have e':q.1=k:=h1.symm.trans e
     have b:valueAt (q::qs) k=some q.2:=by simp [valueAt,List.find?_cons,e']
     rw [PX e,b];exact h2
   · have e':¬ q.1=k:=fun z=>e (h1.trans z)
     have b:valueAt (q::qs) k=valueAt qs k:=by simp [valueAt,List.find?_cons,e']
     rw [PY e,b];exact ih
theorem KV.any {kvs:List (κ×V)}{vs:List (κ×Value)}(r:KV kvs vs)(k:κ):(kvs.any fun kv=>decide (kv.1=k))=vs.any fun kv=>decide (kv.1=k):=by
 unfold KV at r
 induction r with
 | nil=>rfl
 | cons h t ih=>rw [List.any_cons,List.any_cons,ih,h.1]
theorem KV.keys {kvs:List (κ×V)}{vs:List (κ×Value)}(r:KV kvs vs):kvs.map (·.1)=vs.map (·.1):=by
 unfold KV at r
 induction r with
 | nil=>rfl
 | cons h t ih=>rw [List.map_cons,List.map_cons,ih,h.1]
theorem KV.length {kvs:List (κ×V)}{vs:List (κ×Value)}(r:KV kvs vs):kvs.length=vs.length:=Paired.length r
end
abbrev KT (H:Hp):List (List Key×V)->List (List Key×Addr×Value)->Prop:=Paired fun p q=>p.1=q.1/\H q.2.1=some (.tup (p.1.map kV))/\RelV p.2 q.2.2
theorem KT.val {H:Hp}{kvs:List (List Key×V)}{xs:List (List Key×Addr×Value)}(r:KT H kvs xs)(k:List Key):J7a (IX kvs k) ((atKey xs k).map (·.2)):=by
 induction r with
 | nil=>exact True.intro
 | @cons p q ps qs h t ih =>
   obtain ⟨h1,_,h2⟩:=h
   by_cases e:p.1=k
   · have e':q.1=k:=h1.symm.trans e
     have b:atKey (q::qs) k=some q.2:=by simp [atKey,List.find?_cons,e']
     rw [PX e,b];exact h2
   · have e':¬ q.1=k:=fun z=>e (h1.trans z)
     have b:atKey (q::qs) k=atKey qs k:=by simp [atKey,List.find?_cons,e']
     rw [PY e,b];exact ih
def DGet (H:Hp)(a:Addr)(y:V)(r:Option V):Prop :=
 (∃ kvs k,Rd H a (.dK kvs)/\y=kV k/\r=IX kvs k)\/∃ kvs k b,Rd H a (.dT kvs)/\y=.ref b/\H b=some (.tup (k.map kV))/\r=IX kvs k
def DPut (H:Hp)(a:Addr)(y v:V)(H':Hp):Prop :=
 (∃ kvs k,H a=some (.dK kvs)/\y=kV k/\kvs.length<sizeLine/\H'=upd H a (.dK (J4p kvs k v))) \/
 ∃ kvs k b,H a=some (.dT kvs)/\y=.ref b/\H b=some (.tup (k.map kV))/\kvs.length<sizeLine/\H'=upd H a (.dT (J4p kvs k v))
theorem DGet.k {H:Hp}{a:Addr}{kvs:List (Key×V)}{k:Key}(e:H a=some (.dK kvs)):DGet H a (kV k) (IX kvs k):=.inl ⟨kvs,k,.inl e,rfl,rfl⟩
theorem DGet.t {H:Hp}{a b:Addr}{kvs:List (List Key×V)}{k:List Key}(e:H a=some (.dT kvs))(eb:H b=some (.tup (k.map kV))):DGet H a (.ref b) (IX kvs k):=.inr ⟨kvs,k,b,.inl e,rfl,eb,rfl⟩
theorem DPut.k {H:Hp}{a:Addr}{kvs:List (Key×V)}{k:Key}{v:V}(e:H a=some (.dK kvs))(hl:kvs.length<sizeLine):DPut H a (kV k) v (upd H a (.dK (J4p kvs k v))):=.inl ⟨kvs,k,e,rfl,hl,rfl⟩
theorem DPut.t {H:Hp}{a b:Addr}{kvs:List (List Key×V)}{k:List Key}{v:V}(e:H a=some (.dT kvs))(eb:H b=some (.tup (k.map kV)))(hl:kvs.length<sizeLine) :
 DPut H a (.ref b) v (upd H a (.dT (J4p kvs k v))):=.inr ⟨kvs,k,b,e,rfl,eb,hl,rfl⟩
section
variable {X:Cx}{pins:List (Addr×Obj)}{σ:St}{H:Hp}{s:Shared}{a:Addr}
theorem Inv.big (I:Inv X pins σ H s):sysModules<s.heap.objs.size:=by
 have h:mainGlobals<s.heap.objs.size:=(I.mod.glob.keeps I.bk).lt
 exact Nat.lt_trans (by decide) h
theorem J6o {h':Heap}{t':Nat}{ob:HO}(I:Inv X pins σ H s)(mu:Mut (H a))(hs:Heap.SameBut a s.heap h')(he:∃ q,h'.get? a=some q)(new:ObjOk X.prog X.w (upd H a ob) h' a ob) :
 Inv X pins σ (upd H a ob) { s with heap:=h',toks:=t' } :=
 I.write (x:=a) (e:=a) mu (.inl rfl) (fun b q hb z=>(hs.2 b hb).trans z) he new
end
structure M2 (X:Cx)(o:Expr)(m:Str)(apos:Pos)(e f:Expr)(cpos:Pos):Prop where
 base:attributeBase o m X.env (eval o X.env)=eval o X.env
 few:((backTo cpos (starEach [e,f] X.env)).all (fun x=>!x.1)&&(backToKw cpos (keywordEach [] X.env)).all (fun x=>x.1.isSome)
  && decide (([e,f]:List Expr).length+([]:List Keyword).length+(if ([]:List Keyword).isEmpty then 0 else 1)<30))=true
 line:(apos.endLine==cpos.line)=true
 trees:backTo cpos (starEach [e,f] X.env)=[(false,eval e X.env),(false,eval f X.env)]
abbrev Ens:=List (List Int×Addr×Value)
abbrev tiK (P:Program)(w:World):=tupleKind (intKind P w)
theorem MS {w:World}:∀ {ns:List Int} {us:List Value},Vals (ns.map V.int) us->ItemsAre (intKind P w) ns us
 | [],_,h=>by cases h;exact .nil
 | n::ns,_,h=>by
   cases h with
   | cons h t =>
     obtain ⟨t',rfl⟩:=h
     exact .cons (by simp [intKind,Value.isInt]) (MS t)
def NM (K:Fg)(H:Hp)(es:Ens):Prop:=∀ e∈es,SqT K H e.2.1 (e.1.map V.int)
section
variable {X:Cx}{pins:List (Addr×Obj)}{σ:St}{H:Hp}{s:Shared}{a b:Addr}{es:Ens}{ep:Nat}{ns:List Int}
theorem Inv.tkey (I:Inv X pins σ H s)(h:SqT X.K H b (ns.map V.int)):(tiK X.prog X.w).is s.heap ns b:=by
 obtain ⟨its,r,⟨o,h1,h2,n,h3⟩,_⟩:=I.tuple h
 exact ⟨o,its.toArray,n,h1,h2,h3,MS r⟩
theorem Inv.dct (I:Inv X pins σ H s)(h:H a=some (DOb a es ep))(hk:NM X.K H es):((a==sysModules)=false/\es.length<=sizeLine)/\s.heap.DictOfH (tiK X.prog X.w) a es:=by
 obtain ⟨⟨⟨h1,h2,h3⟩,o,ds,e1,e2,e3,e4⟩,_⟩:=I.hok a _ h
 exact ⟨⟨h1,h2⟩,o,ds,ep,e1,e2,e3,e4,fun x hx=>I.tkey (hk x hx),h3⟩
theorem J3p {w:World}{H:Hp}{h:Heap}(h1:(a==sysModules)=false)(h2:es.length<=sizeLine)(h3:(es.map (·.1)).Nodup){o:Obj}{ds:Array DictEntry}(e1:h.get? a=some o)(e2:o.ExactDict)(e3:o.data=.dict ds ep)(e4:ds.toList=es.map Q1m):ObjOk P w H h a (DOb a es ep) :=
 ⟨⟨⟨h1,h2,h3⟩,o,ds,e1,e2,e3,e4⟩,⟨o,e1⟩,fun g1 g2 ⟨q,o,ds,f1,f2⟩ k=>⟨q,o,ds,k o f1,f2⟩⟩
theorem JZ (es:Ens)(k:List Int)(b:Addr)(v:Value):(storedH es k b v).length<=es.length+1:=by
 unfold storedH
 split
 · rw [List.length_map];omega
 · simp
noncomputable def J8t (K:Fg):R2:=fun x y H Q=>∃ a b es ep ns p v,x=.ref a/\y=.ref b/\H a=some (DOb a es ep)/\NM K H es/\SqT K H b (ns.map V.int)/\atKey es ns=some p/\RelV v p.2/\Q v H
theorem Q0a (hu:X.A.units+1<cLine):IxR X (J8t X.K):=by
 intro value slice pins s σ H x y v u Q I rx ry h hs
 obtain ⟨a,b,es,ep,ns,p,z,rfl,rfl,hd,hk,hb,hp,rz,q⟩:=h
 cases rx;cases ry
 obtain ⟨⟨h1,h2⟩,dd⟩:=I.dct hd hk
 exact tail_any dd.typeIs PySem.F.slot_dict_getitem.lookup (wpAny_getItem_heap (tupleKind_room_in1 hu) (I.tkey hb) dd hp ⟨z,H,I.tok _,rz,q⟩) hs
noncomputable def J7e (K:Fg):V->V->V->Hp->(Hp->Prop)->Prop:=fun o i v H Q=>∃ a b es ep ns,o=.ref a/\i=.ref b/\H a=some (DOb a es ep)/\NM K H es/\SqT K H b (ns.map V.int)/\es.length<sizeLine/\∀ u ep',RelV v u->Q (upd H a (DOb a (storedH es ns b u) ep'))
theorem J4g (K:Fg)(hK:X.K=K)(hu:X.A.units+64<cLine):Q2a X (J7e K):=by
 subst hK
 intro pins s σ H o i v ov iv u Q I ro ri rv h
 obtain ⟨a,b,es,ep,ns,rfl,rfl,hd,hk,hb,hl,q⟩:=h
 cases ro;cases ri
 obtain ⟨⟨h1,h2⟩,dd⟩:=I.dct hd hk
 refine wpAny_setItem_heap (hsz:=h2) (tupleKind_room_in1 (by omega)) (I.tkey hb) dd fun h' dd' hs=>?_
 obtain ⟨o,ds,ep',e1,e2,e3,e4,_,e5⟩:=dd'
 exact ⟨_,J6o I (by rw [hd];exact True.intro) hs ⟨o,e1⟩ (J3p h1 (Nat.le_trans (JZ es ns b u) hl) e5 e1 e2 e3 e4),q u ep' rv⟩
noncomputable def Q2q:TE:=fun _ H Q=>∀ p,H p=none->Q (.ref p) (upd H p (DOb p [] 0))
theorem J4z {pos:Pos}:PE X (.Dict [] [] pos) Q2q:=fun pins s σ H Q I h =>
 wpAny_Dict_empty ⟨.ref s.heap.objs.size,_,I.laid (a:=s.heap.objs.size) (o:=DOb s.heap.objs.size [] 0) (t':=s.toks) (fun _ _ q=>Heap.get?_push_of_some _ q) (Nat.le_refl _) (J3p (beq_eq_false_iff_ne.mpr (Ne.symm (Nat.ne_of_lt I.big))) (Nat.zero_le _) List.nodup_nil (Heap.get?_push_size _ rfl) ⟨rfl,rfl,rfl⟩ rfl rfl),rfl,h _ (I.hok.fresh (Nat.le_refl _))⟩
noncomputable def J8n (K:Fg)(td ty tx:TE):TE:=fun σ H Q=>td σ H fun x H1=>∃ a es ep,x=.ref a/\H1 a=some (DOb a es ep)/\NM K H1 es/\ty σ H1 fun y H2=>tx σ H2 fun z H3=>∃ b ns,y=.ref b/\H3 a=some (DOb a es ep)/\NM K H3 es/\SqT K H3 b (ns.map V.int) /\
 (atKey es ns=none->Q z H3)/\∀ p,atKey es ns=some p->∃ v,RelV v p.2/\Q v H3
theorem J0c {o e f:Expr}{apos cpos:Pos}{td ty tx:TE}(hu:X.A.units+1<cLine)(ho:PE X o td)(he:PE X e ty)(hf:PE X f tx)(m:M2 X o "get" apos e f cpos):PE X (.Call (.Attribute o "get" apos) [e,f] [] cpos) (J8n X.K td ty tx):=by
 intro pins s σ H Q I h
 refine wpAny_Call_method m.base m.few m.line PySem.F.plainAttrs_dict PySem.F.slot_dict_get PySem.F.type_dict_get (thn (ho pins s σ H _ I h) fun u s1 hx=>?_)
 obtain ⟨x,H1,I1,rx,a,es,ep,rfl,hd,hk,q1⟩:=hx
 cases rx
 obtain ⟨_,dd1⟩:=I1.dct hd hk
 refine ⟨dd1.typeIs,dictOfH_noDict dd1,?_⟩
 rw [m.trees]
 refine Calls.callWith_builtin rfl (Calls.evalArgs_plain (Calls.spliced_cons (thn (he pins s1 σ H1 _ I1 q1) fun iv s2 hy=>?_)))
 obtain ⟨y,H2,I2,ry,q2⟩:=hy
 refine Calls.spliced_cons (thn (hf pins s2 σ H2 _ I2 q2) fun fv s3 hz=>Calls.spliced_nil ?_)
 obtain ⟨z,H3,I3,rz,b,ns,rfl,hd3,hk3,hb,qn,qs⟩:=hz
 cases ry
 obtain ⟨⟨h1,h2⟩,dd⟩:=I3.dct hd3 hk3
 refine call_meetsIn PySem.F.slot_dict_get dd.typeIs PySem.F.entry_dict_get (PySem.F.args_dict_get_3 _ _ _) (meetsH_dict_get_default (tiK X.prog X.w) a b h1 fv) ⟨tupleKind_room_in1 hu,ns,es,I3.tkey hb,dd,?_⟩
 cases hat:atKey es ns with
 | none=>exact ⟨z,H3,I3.tok _,rz,qn hat⟩
 | some p=>obtain ⟨v,rv,qv⟩:=qs p hat;exact ⟨v,H3,I3.tok _,rv,qv⟩
end
def AN:List (List Int)->List D->List Int->Option D
 | k::ks,x::xs,n=>if k=n then some x else AN ks xs n
 | _,_,_=>none
theorem KW {e:List Int×Addr×Value}{es:Ens}{n:List Int}:atKey (e::es) n=if e.1=n then some e.2 else atKey es n:=by
 unfold atKey
 rw [List.find?_cons]
 by_cases z:e.1=n
 · simp [z]
 · simp [z]
theorem HV {H:Hp}:∀ {es:Ens} {ks:List (List Int)} {vs:List V} {xs:List D} (n:List Int),es.map (·.1)=ks->Vals vs (es.map (·.2.2))->Reps K M H xs vs ->
 match AN ks xs n with|some d=>∃ p v,atKey es n=some p/\RelV v p.2/\Rep K M H d v|none=>atKey es n=none
 | [],ks,vs,xs,n,e,hv,r=>by
   subst e
   unfold AN;rfl
 | e::es,ks,vs,[],n,ek,hv,r=>by
   rw [show vs=[] from r] at hv
   cases hv
 | e::es,ks,vs,x::xs,n,ek,hv,r=>by
   subst ek
   obtain ⟨v,vs,rfl,rx,rr⟩:=r
   rw [List.map_cons] at hv
   cases hv with
   | cons h1 h2 =>
   have ih:=HV (ks:=es.map (·.1)) (xs:=xs) n rfl h2 rr
   rw [KW,List.map_cons]
   unfold AN
   by_cases z:e.1=n
   · rw [if_pos z,if_pos z]
     exact ⟨e.2,v,rfl,h1,rx⟩
   · rw [if_neg z,if_neg z]
     exact ih
theorem DctE.keys {H:Hp}{es:Ens}{ks:List (List Int)}{vs:List V}(h:DctE K M H es ks vs):NM K H es:=fun e m=>(h.2.1 e m).sq
theorem Reps.erase {H:Hp}:∀ {ds:List D} {vs:List V} (j:Nat),Reps K M H ds vs->Reps K M H (ds.eraseIdx j) (vs.eraseIdx j)
 | [],_,_,h=>by cases (show _=_ from h);exact rfl
 | d::ds,_,0,h=>by
   obtain ⟨v,r,rfl,h1,h2⟩:=h
   exact h2
 | d::ds,_,j+1,h=>by
   obtain ⟨v,r,rfl,h1,h2⟩:=h
   exact ⟨v,_,rfl,h1,Reps.erase j h2⟩
section
variable {W:Wd}{e:Expr}{dA:DA}
noncomputable def J2q (i:Nat)(gd:D->Ev->(Ev->Prop)->Prop)(dA:DA):DS:=fun F ρ=>match ρ[i]? with
 | some (some (.own ys))=>dA ρ fun xs=>(match xs with
   | [.int k]=>(0<=k/\k<ys.length/\ys.length<=1000)/\(ys[k.toNat]?).elim False fun y=>gd y (ρ.set i (some (.own (ys.eraseIdx k.toNat)))) F.nx
   | _=>False)
 | _=>False
theorem J3y {i:Nat}{g:TG}{gd:D->Ev->(Ev->Prop)->Prop}(hG:GD W g gd):∀ E σ H,sn W (J2q i gd dA) E σ H->J4c (tBM W.K "list" SV (SO i) (dnA W dA)) g E σ H:=fun E σ H hh=>hh.elim fun pn M b ρ F s l h=>by
 unfold J2q at h
 split at h
 case h_2=>exact h.elim
 case h_1 ys e =>
  obtain ⟨a,vs,ea,nb,hh,r⟩:=OB s.toSta e
  refine ⟨.ref a,ea,.inl ⟨rfl,vs,SqL.of hh⟩,pn,M,b,ρ,_,s.toSta,h,fun xs us H' hx rx k o=>?_⟩
  match xs,hx with
  | [.int n],hx =>
    obtain ⟨u,rfl,ru⟩:=rx1 rx
    cases (show _=_ from ru)
    obtain ⟨⟨h0,h1,h2⟩,hx⟩:=hx
    have s':=s.step k o
    obtain ⟨a',vs',ea',nb',hh',r'⟩:=OB s'.toSta e
    rw [ea] at ea';cases ea'
    have hl:=r'.length
    cases ey:ys[n.toNat]? with
    | none=>rw [ey] at hx;exact hx.elim
    | some y =>
      rw [ey] at hx
      obtain ⟨v,ev,rv⟩:=r'.get ey
      have st2:=s'.setOwn i e ea (r'.erase n.toNat)
      have rv2:Rep W.K M (upd H' a (.lst (vs'.eraseIdx n.toNat))) y v:=Rep.keep (fun c oo nn q=>by
       obtain ⟨v0,e1,a',us,evv,m1,_⟩:=s'.env i _ e
       rw [ea] at e1;cases e1;cases evv
       rw [Q3 (show c≠a from fun z=>nn (by rw [z];exact m1))]
       exact q) _ _ rv
      have pl:plain y=true:=by
       cases y<;>first|rfl|exact rv.elim
      refine ⟨a,vs',n,n.toNat,v,rfl,rfl,hh',by omega,by omega,?_,ev,?_⟩
      · have hn:n.toNat<vs'.length:=by rw [hl];omega
        have e1:(if n<0 then n+(vs'.length:Int) else n)=n:=if_neg (by omega)
        have hz:n<(vs'.length:Int):=by omega
        unfold seqIndex?
        simp [e1,h0,hz]
      · exact hG pn M b _ σ _ y v _ _ st2.toSta rv2.x pl hx fun ρ' σ' hq st3 ho=>l.nx _ _ _ _ _ (st2.of st3 ho) hq
end
def MT:Nat->List (Option Nat)->Bool
 | _,[]=>true
 | n,none::m=>MT (n+1) m
 | n,some i::m=>(i==n)&&MT (n+1) m
theorem FS:∀ {m:List (Option Nat)} {n:Nat},MT n m=true->∀ j i:Nat,m[j]?=some (some i)->i=n+j
 | [],_,_,j,i,e=>by simp at e
 | none::m,n,h,0,i,e=>by simp at e
 | none::m,n,h,j+1,i,e=>by
   have:=FS (n:=n+1) h j i (by simpa using e)
   omega
 | some a::m,n,h,j,i,e=>by
   unfold MT at h
   rw [Bool.and_eq_true,beq_iff_eq] at h
   cases j with
   | zero=>simp at e;omega
   | succ j =>
     have:=FS h.2 j i (by simpa using e)
     omega
def DD:List (Option Nat)->List (Option Nat)->Bool
 | [],[]=>true
 | none::m,_::n=>DD m n
 | some _::m,some _::n=>DD m n
 | _,_=>false
theorem GB:∀ {m n:List (Option Nat)},DD m n=true->m.length=n.length
 | [],[],_=>rfl
 | none::m,_::n,h=>congrArg Nat.succ (GB (m:=m) (n:=n) (by unfold DD at h;exact h))
 | some _::m,some _::n,h=>congrArg Nat.succ (GB (m:=m) (n:=n) (by unfold DD at h;exact h))
 | [],_::_,h=>by cases h
 | none::_,[],h=>by cases h
 | some _::_,[],h=>by cases h
 | some _::_,none::_,h=>by cases h
theorem GC:∀ {m n:List (Option Nat)},DD m n=true->∀ j i:Nat,m[j]?=some (some i)->∃ i',n[j]?=some (some i')
 | [],[],_,j,i,e=>by simp at e
 | none::m,_::n,h,0,i,e=>by simp at e
 | none::m,_::n,h,j+1,i,e=>by
   obtain ⟨i',q⟩:=GC (m:=m) (n:=n) (by unfold DD at h;exact h) j i (by simpa using e)
   exact ⟨i',by simpa using q⟩
 | some _::m,some b::n,h,0,i,e=>⟨b,rfl⟩
 | some _::m,some _::n,h,j+1,i,e=>by
   obtain ⟨i',q⟩:=GC (m:=m) (n:=n) (by unfold DD at h;exact h) j i (by simpa using e)
   exact ⟨i',by simpa using q⟩
 | [],_::_,h,_,_,_=>by cases h
 | none::_,[],h,_,_,_=>by cases h
 | some _::_,[],h,_,_,_=>by cases h
 | some _::_,none::_,h,_,_,_=>by cases h
theorem KU {σ:St}{map:List (Option Nat)}{j:Nat}{v:V}(e:(capt σ map)[j]?=some (some v)):∃ i,map[j]?=some (some i)/\σ[i]?=some (some v):=by
 unfold capt at e
 rw [List.getElem?_map] at e
 cases hm:map[j]? with
 | none=>rw [hm] at e;cases e
 | some o =>
   rw [hm] at e
   cases o with
   | none=>simp at e
   | some i =>
     refine ⟨i,rfl,?_⟩
     have e':(σ[i]?).join=some v:=by simpa using e
     cases q:σ[i]? with
     | none=>rw [q] at e';cases e'
     | some o'=>rw [q] at e';exact congrArg some e'
theorem J6t {σ:St}{map:List (Option Nat)}{j i:Nat}{v:V}(hm:map[j]?=some (some i))(e:σ[i]?=some (some v)):(capt σ map)[j]?=some (some v):=by
 unfold capt
 rw [List.getElem?_map,hm]
 simp [e]
structure DOk (X:Cx)(P0:List (Addr×Obj))(D:Addr):Prop where
 loc:D≠X.env.locals
 fs:D∉X.fs
 cell:∀ x c,X.env.cells.lookup x=some c->c≠D
 sz:X.s₀.heap.objs.size<=D
 pn:∀ p∈X.pn++P0,p.1≠D
structure Blk2 (X:Cx)(N':List Str)(scope:Scope)(map mp2:List (Option Nat))(tg tg2 iter2 elt:Expr)(ifs:List Expr)(g:TG)(wi2:TI)(g2:TG)(tt:TT)(te:TE):Prop where
 calm:X.calm=true
 kind:scope.kind=.function
 loc:∀ x∈scope.names,x.2=.local->scope.names.lookup x.1=some .local
 free:(scope.names.all fun p=>!(p.2==NameKind.free)||(X.env.kindOf p.1==some .cell||X.env.kindOf p.1==some .free))=true
 cap:CapOk X scope map N'
 keep:FJ g map
 keep2:FJ g2 mp2
 ids:MT 0 mp2=true
 sub:DD map mp2=true
 fold:∀ env x,foldedSetIterable iter2 env x=pure x
 run:∀ cells C fp s H,PG (J6 X N' scope cells C fp s H).nox tg g/\PI (J6 X N' scope cells C fp s H).nox tg2 iter2 wi2/\PG (J6 X N' scope cells C fp s H).nox tg2 g2/\PIf (J6 X N' scope cells C fp s H).nox ifs tt/\PE (J6 X N' scope cells C fp s H).nox elt te
section
variable {X:Cx}{elt tg tg2 iter2:Expr}{ifs:List Expr}{scope:Scope}{N':List Str}{map mp2:List (Option Nat)}{wi2:TI}{g g2:TG}{tt:TT}{te:TE}
theorem Blk2.one (B:Blk2 X N' scope map mp2 tg tg2 iter2 elt ifs g wi2 g2 tt te):Blk X N' scope map tg elt ifs (fun _ _ _ _=>False) (fun _ _ _=>False) (fun _ _ _=>False) :=
 ⟨B.calm,B.kind,B.loc,B.free,B.cap,fun _ _ _ _ z=>z.elim,fun _ _ _ _ _ _=>⟨fun _ _ _ _ _ _ _ _ _ z=>z.elim,fun _ _ _ _ _ _ z=>z.elim,fun _ _ _ _ _ _ z=>z.elim⟩⟩
theorem Blk2.clos {pins:List (Addr×Obj)}{σ:St}{H:Hp}{s:Shared}(B:Blk2 X N' scope map mp2 tg tg2 iter2 elt ifs g wi2 g2 tt te)(I:Inv X pins σ H s) :
 ∃ cl,closureFor scope X.env=pure cl/\(∀ x c,cl.lookup x=some c->X.env.cells.lookup x=some c)/\∀ x,(x,NameKind.free)∈scope.names->(cl.lookup x).isSome=true:=B.one.clos I
end
theorem OP (elt:Expr)(g1:Comprehension)(target iter:Expr)(ifs:List Expr)(scope:Scope)(pos:Pos)(it acc:Value)(env:Env) :
 compTurn (.SetComp elt [g1,⟨target,iter,ifs,0⟩] scope pos) 1 it acc env=(do
  standAt iter.pos
  match <- pyNext it with
  | none=>pure (.done .next)
  | some v =>
    letOwnedTupleGo target it v
    assign target env v
    let mut ok:=true
    for c in ifs do
     if ok then ok <- isTrue c env (eval c env)
    if ok then
     (do let v <- eval elt env;standAt elt.pos;let _ <- call (.builtin "set.add") [acc,v])
    again (.compLoop (.SetComp elt [g1,⟨target,iter,ifs,0⟩] scope pos) 1 it acc env)):=by rfl
theorem LN (elt target iter target' iter':Expr)(ifs:List Expr)(scope:Scope)(pos:Pos)(it acc:Value)(env:Env) :
 compTurn (.SetComp elt [⟨target,iter,[],0⟩,⟨target',iter',ifs,0⟩] scope pos) 0 it acc env=(do
  standAt iter.pos
  match <- pyNext it with
  | none=>pure (.done .next)
  | some v =>
    letOwnedTupleGo target it v
    assign target env v
    let mut ok:=true
    for c in ([]:List Expr) do
     if ok then ok <- isTrue c env (eval c env)
    if ok then
     let x <- eval iter' env
     standAt iter'.pos
     let x <- foldedSetIterable iter' env x
     let _ <- runOwn (.compStart (.SetComp elt [⟨target,iter,[],0⟩,⟨target',iter',ifs,0⟩] scope pos) 1 (<- holding [x] (pyIter x)) acc env) env
    again (.compLoop (.SetComp elt [⟨target,iter,[],0⟩,⟨target',iter',ifs,0⟩] scope pos) 0 it acc env)):=by rfl
theorem OU {prog:Program}{w:World}{A:Around}{R:Result->Shared->Prop}{s:Shared}{elt target iter:Expr}{g1:Comprehension}{ifs:List Expr}{scope:Scope}{pos:Pos}{it acc:Value}{env:Env}(J:Nat->Shared->Prop)
 (turn:∀ n s,J n s->wpAny (model prog w) A (pyNext it) (fun r s₁=>match r with
  | none=>R (.ok .next) s₁
  | some v=>wpAny (model prog w) A (letOwnedTupleGo target it v) (fun _ s₁'=>wpAny (model prog w) A (assign target env v) (fun _ s₂=>wpAny (model prog w) A (MB ifs env) (fun ok s₃ =>
   if ok=true then wpAny (model prog w) A (eval elt env) (fun x s₄=>wpAny (model prog w) A (call (.builtin "set.add") [acc,x]) (fun _ s₅=>∃ m,m<n/\J m s₅) (notedBy (model prog w) A env fun e s'=>R (.error e) s') s₄)
    (notedBy (model prog w) A env fun e s'=>R (.error e) s') s₃
   else ∃ m,m<n/\J m s₃) (notedBy (model prog w) A env fun e s'=>R (.error e) s') s₂) (notedBy (model prog w) A env fun e s'=>R (.error e) s') s₁') (notedBy (model prog w) A env fun e s'=>R (.error e) s') s₁)
   (notedBy (model prog w) A env fun e s'=>R (.error e) s') s) (n:Nat) (h:J n s) :
 codeAny (model prog w) A (.compLoop (.SetComp elt [g1,⟨target,iter,ifs,0⟩] scope pos) 1 it acc env) R s:=by
 refine codeAny_loop rfl J (fun n s hJ=>?_) n h
 show wpAny _ _ (Sem.onRaise (compTurn (.SetComp elt [g1,⟨target,iter,ifs,0⟩] scope pos) 1 it acc env) fun x=>do noteFrame x env;theTreesLotGoes x) _ _ _
 refine wpAny_noted ?_
 rw [OP]
 refine wpAny_bind (wpAny_standAt (wpAny_bind (thn (turn n s hJ) fun r s₁ h₁=>?_)))
 cases r with
 | none=>exact wpAny_pure h₁
 | some v =>
   refine wpAny_bind (thn h₁ fun _ s₁' h₁'=>wpAny_bind (thn h₁' fun _ s₂ h₂=>wpAny_bind (thn h₂ fun ok s₃ h₃=>?_)))
   cases ok with
   | true=>exact wpAny_bind (wpAny_bind (thn h₃ fun x s₄ h₄=>wpAny_bind (wpAny_standAt (wpAny_bind (thn h₄ fun _ s₅ h₅=>wpAny_pure (wpAny_pure ⟨rfl,h₅⟩))))))
   | false=>exact wpAny_pure ⟨rfl,h₃⟩
theorem LO {prog:Program}{w:World}{A:Around}{R:Result->Shared->Prop}{s:Shared}{elt target iter:Expr}{g1:Comprehension}{ifs:List Expr}{scope:Scope}{pos:Pos}{it acc:Value}{env:Env}
 (h0:codeAny (model prog w) A (.compLoop (.SetComp elt [g1,⟨target,iter,ifs,0⟩] scope pos) 1 it acc env) R s)
 (h:wpAny (model prog w) A (pyIter it) (fun it' s'=>codeAny (model prog w) A (.compLoop (.SetComp elt [g1,⟨target,iter,ifs,0⟩] scope pos) 1 it' acc env) R s')
  (notedBy (model prog w) A env fun x s'=>R (.error x) s') s) :
 codeAny (model prog w) A (.compStart (.SetComp elt [g1,⟨target,iter,ifs,0⟩] scope pos) 1 it acc env) R s:=by
 refine codeAny_of_tree ?_
 show wpAny _ _ ((compStart (.SetComp elt [g1,⟨target,iter,ifs,0⟩] scope pos) 1 it acc env).onRaise (fun x=>do noteFrame x env;standAt theWindowsPlace)) _ _ s
 refine wpAny_notedAt ?_
 unfold compStart
 show wpAny _ _ (ask >>= _) _ _ s
 refine wpAny_bind (wpAny_askSetting (wpAny_ite ?_))
 split
 · first
    | exact wpAny_bind (wpAny_pure (wpAny_pure (And.intro rfl h0)))
    | exact wpAny_pure (And.intro rfl h0)
 · first
    | exact wpAny_bind (wpAny_rule (wpAny_bind (wpAny_standAt (wpAny_bind (wpAny_mono h (fun it' s' h'=>wpAny_pure (And.intro rfl h')) fun _ _ x=>x)))))
    | (refine wpAny_bind (wpAny_rule ?_);show wpAny _ _ (standAt iter.pos >>= _) _ _ s;exact wpAny_bind (wpAny_standAt (wpAny_bind (wpAny_mono h (fun it' s' h'=>wpAny_pure (And.intro rfl h')) fun _ _ x=>x))))
theorem LQ {prog:Program}{w:World}{A:Around}{R:Result->Shared->Prop}{s:Shared}{elt target iter target' iter':Expr}{ifs:List Expr}{scope:Scope}{pos:Pos}{it acc:Value}{env:Env}(J:Nat->Shared->Prop)
 (hs:∀ x,foldedSetIterable iter' env x=pure x)
 (turn:∀ n s,J n s->wpAny (model prog w) A (pyNext it) (fun r s₁=>match r with
  | none=>R (.ok .next) s₁
  | some v=>wpAny (model prog w) A (letOwnedTupleGo target it v) (fun _ s₁'=>wpAny (model prog w) A (assign target env v) (fun _ s₂=>wpAny (model prog w) A (eval iter' env) (fun x s₃=>wpAny (model prog w) A (pyIter x) (fun it' s₄ =>
   codeAny (model prog w) A (.compStart (.SetComp elt [⟨target,iter,[],0⟩,⟨target',iter',ifs,0⟩] scope pos) 1 it' acc env) (fun r s'=>r=.ok .next/\∃ m,m<n/\J m s') s₄)
    (fun _ _=>False) s₃) (fun _ _=>False) s₂) (fun _ _=>False) s₁') (fun _ _=>False) s₁)
   (fun _ _=>False) s) (n:Nat) (h:J n s) :
 codeAny (model prog w) A (.compLoop (.SetComp elt [⟨target,iter,[],0⟩,⟨target',iter',ifs,0⟩] scope pos) 0 it acc env) R s:=by
 refine codeAny_loop rfl J (fun n s hJ=>?_) n h
 show wpAny _ _ (Sem.onRaise (compTurn (.SetComp elt [⟨target,iter,[],0⟩,⟨target',iter',ifs,0⟩] scope pos) 0 it acc env) fun x=>do noteFrame x env;theTreesLotGoes x) _ _ _
 refine wpAny_noted ?_
 rw [LN]
 refine wpAny_bind (wpAny_standAt (wpAny_bind (wpAny_mono (turn n s hJ) (fun r s₁ h₁=>?_) fun _ _ z=>False.elim z)))
 cases r with
 | none=>exact wpAny_pure h₁
 | some v =>
   refine wpAny_bind (wpAny_mono h₁ (fun _ s₁' h₁'=>wpAny_bind (wpAny_mono h₁' (fun _ s₂ h₂=>wpAny_bind (wpAny_tests_nil ?_)) fun _ _ z=>False.elim z)) fun _ _ z=>False.elim z)
   refine wpAny_bind (wpAny_mono h₂ (fun x s₃ h₃=>?_) fun _ _ z=>False.elim z)
   refine wpAny_bind (wpAny_standAt (wpAny_bind (wpAny_of_eq (hs x) (wpAny_bind (wpAny_holding (wpAny_mono h₃ (fun it' s₄ h₄=>?_) fun _ _ z=>False.elim z))))))
   refine wpAny_bind (wpAny_runOwn (codeAny_mono h₄ fun r s' q=>?_))
   obtain ⟨rfl,q⟩:=q
   exact wpAny_pure ⟨rfl,q⟩
theorem OR {prog:Program}{w:World}{A:Around}{R:Result->Shared->Prop}{s:Shared}{elt target iter:Expr}{g1:Comprehension}{ifs:List Expr}{scope:Scope}{pos:Pos}{it acc:Value}{env:Env}
 (h0:codeAny (model prog w) A (.compLoop (.SetComp elt [⟨target,iter,ifs,0⟩,g1] scope pos) 0 it acc env) R s)
 (h:wpAny (model prog w) A (pyIter it) (fun it' s'=>codeAny (model prog w) A (.compLoop (.SetComp elt [⟨target,iter,ifs,0⟩,g1] scope pos) 0 it' acc env) R s')
  (notedBy (model prog w) A env fun x s'=>R (.error x) s') s) :
 codeAny (model prog w) A (.compStart (.SetComp elt [⟨target,iter,ifs,0⟩,g1] scope pos) 0 it acc env) R s:=by
 refine codeAny_of_tree ?_
 show wpAny _ _ ((compStart (.SetComp elt [⟨target,iter,ifs,0⟩,g1] scope pos) 0 it acc env).onRaise (fun x=>do noteFrame x env;standAt theWindowsPlace)) _ _ s
 refine wpAny_notedAt ?_
 unfold compStart
 show wpAny _ _ (ask >>= _) _ _ s
 refine wpAny_bind (wpAny_askSetting (wpAny_ite ?_))
 split
 · first
    | exact wpAny_bind (wpAny_pure (wpAny_pure (And.intro rfl h0)))
    | exact wpAny_pure (And.intro rfl h0)
 · first
    | exact wpAny_bind (wpAny_rule (wpAny_bind (wpAny_standAt (wpAny_bind (wpAny_mono h (fun it' s' h'=>wpAny_pure (And.intro rfl h')) fun _ _ x=>x)))))
    | (refine wpAny_bind (wpAny_rule ?_);show wpAny _ _ (standAt iter.pos >>= _) _ _ s;exact wpAny_bind (wpAny_standAt (wpAny_bind (wpAny_mono h (fun it' s' h'=>wpAny_pure (And.intro rfl h')) fun _ _ x=>x))))
def okA (acc:List V):Prop:=(∃ ns:List Int,acc=ns.map V.int)/\acc.length<=2000
def SG (prog:Program)(w:World)(acc:List V)(o:Obj):Prop:=∃ ns es ep t,acc=ns.map V.int/\ISo prog w ns o es ep t
theorem SG.nc {prog:Program}{w:World}{acc:List V}{o:Obj}(h:SG prog w acc o)(v:Option Value):o.data≠.cell v:=fun z=>by
 obtain ⟨ns,es,ep,t,_,I⟩:=h
 rw [I.da] at z
 cases z
def SOb (prog:Program)(w:World)(ns:List Int)(D:Addr):HO:=.ext fun h=>ISet prog w ns D h
theorem J8q {prog:Program}{w:World}{A:Around}{E:Value->Shared->Prop}{s:Shared}{D:Addr}{o:Obj}{acc:List V}{y:V}{v:Value}{Q:Value->Shared->Prop}(g:s.heap.get? D=some o)(S:SG prog w acc o)(ok:okA (acc++[y]))(r:RelV y v)
 (fin:∀ h' o' tk,Heap.SameBut D s.heap h'->h'.get? D=some o'->SG prog w (acc++[y]) o'->Q .none { s with heap:=h',toks:=tk }):wpAny (model prog w) A (call (.builtin "set.add") [.ref D,v]) Q E s:=by
 obtain ⟨ns,es,ep,t,e,I⟩:=S
 obtain ⟨⟨ms,em⟩,hl⟩:=ok
 subst e
 obtain ⟨n,rfl⟩:∃ n,y=.int n:=by
  have:y∈ms.map V.int:=by rw [<- em];simp
  obtain ⟨n,_,q⟩:=List.mem_map.mp this
  exact ⟨n,q.symm⟩
 obtain ⟨k,rfl⟩:∃ k,v=.int n k:=r
 refine J1s ⟨o,es,ep,t,g,I⟩ (by rw [List.length_append,List.length_map] at hl;simp only [List.length_cons,List.length_nil] at hl;omega) fun h' sb h=>?_
 obtain ⟨o',es',ep',t',g',I'⟩:=h
 exact fin h' o' _ sb g' ⟨ns++[n],es',ep',t',by rw [List.map_append];rfl,I'⟩
theorem UB {X:Cx}{P0:List (Addr×Obj)}{σ:St}{map:List (Option Nat)}{H1:Hp}{s:Shared}{D:Addr}{acc0:List V}{o0:Obj}{tg elt iter:Expr}{g1:Comprehension}{ifs:List Expr}{scope:Scope}{pos:Pos}{fp:List Addr}{it:Addr}{tn:Nat->Heap->Prop}{J:It}{g:TG}{tt:TT}{te:TE}{W:Nat->Nat->List V->Hp->Prop}{m0:Nat}{Fin:List V->Hp->Prop}
 (calm:X.calm=true) (d:DOk X P0 D) (I:Inv X P0 (capt σ map) H1 s) (hD:H1 D=none) (oD:s.heap.get? D=some o0) (rv:SG X.prog X.w acc0 o0)
 (T:Turn X.prog X.w X.K tg J fp it tn) (st:tn 0 s.heap) (hf:∀ b∈fp,CU X P0 H1 b) (nD:∀ b∈fp,b≠D)
 (pg:PG X tg g) (pif:PIf X ifs tt) (pel:PE X elt te) (nx:X.xe=fun _ _=>False) (keep:FJ g map) (w0:W 0 m0 acc0 H1) (ht:KZ J g tt te (capt σ map) Fin W) (hW:∀ i m acc H,W i m acc H->okA acc) :
 codeAny (model X.prog X.w) X.A (.compLoop (.SetComp elt [g1,⟨tg,iter,ifs,0⟩] scope pos) 1 (.ref it) (.ref D) X.env) (fun r s'=>r=.ok .next/\∃ acc o H',Inv X P0 (capt σ map) H' s'/\H' D=none/\s'.heap.get? D=some o/\SG X.prog X.w acc o/\Fin acc H') s:=by
 refine OU (fun n s'=>∃ i acc H' o,Inv X P0 (capt σ map) H' s'/\tn i s'.heap/\(∀ b∈fp,H' b=none)/\H' D=none/\s'.heap.get? D=some o/\SG X.prog X.w acc o/\W i n acc H') ?_ m0 ⟨0,acc0,H1,o0,I,st,fun b hb=>(hf b hb).1,hD,oD,rv,w0⟩
 rintro n s5 ⟨i,acc,H5,oS,I5,st5,fr5,hD5,oD5,rv5,w5⟩
 have pinD:Inv X ((D,oS)::P0) (capt σ map) H5 s5:=I5.pins_of fun p hp=>by
  rcases List.mem_cons.mp hp with e|e
  · subst e;exact ⟨oD5,hD5,d.loc,d.fs,fun v=>rv5.nc v⟩
  · exact I5.pin p (List.mem_append_right _ e)
 have f4:∀ {H':Hp},(∀ b∈fp,H' b=none)->∀ b∈fp,CU X ((D,oS)::P0) H' b:=fun {H'} hn b hb=>by
  obtain ⟨_,f1,f2,f3,f4,f5⟩:=hf b hb
  refine ⟨hn b hb,f1,f2,f3,f4,fun p hp=>?_⟩
  rcases List.mem_append.mp hp with z|z
  · exact f5 p (List.mem_append_left _ z)
  · rcases List.mem_cons.mp z with e|e
    · rw [e];exact (nD b hb).symm
    · exact f5 p (List.mem_append_right _ e)
 have err:∀ {Z:Prop} e s',X.xe e s'->Z:=fun {Z} e s' z=>by rw [nx] at z;exact z.elim
 rcases ht i n acc H5 w5 with ⟨stop,hsz,fin⟩|⟨go,hsz,NN,hNN,step⟩
 · refine thn (T.done X rfl rfl rfl calm i _ s5 (capt σ map) H5 _ pinD (f4 fr5) st5 stop) fun r s6 ⟨hr,I6⟩=>?_
   subst hr
   have pD:=I6.pin (D,oS) (List.mem_append_right _ List.mem_cons_self)
   exact ⟨rfl,acc,oS,H5,I6.pins_of (fun p hp=>I6.pin p (List.mem_append_right _ (List.mem_cons_of_mem _ hp))),pD.2.1,pD.1,rv5,fin⟩
 · refine thn (T.item X rfl rfl rfl calm i _ s5 (capt σ map) H5 _ pinD (f4 fr5) st5 go) fun r s6 ⟨u,hr,h6⟩=>?_
   subst hr
   refine thn h6 fun _ s7 ⟨x,H7,I7,r7,y7,st7,fr7⟩=>?_
   have I7':=I7.pinned (f4 fr7) (T.obj _ _ st7)
   have stp:=keep _ _ _ _ (step x H7 y7)
   refine wpAny_mono (pg _ s7 (capt σ map) H7 x u _ I7' r7 stp) (fun _ s8 ⟨σ8,H8,I8,⟨kl,k8⟩,q8⟩=>?_) fun e s' z=>err e s' z
   refine wpAny_mono (pif _ s8 σ8 H8 _ I8 q8) (fun b s9 ⟨H9,I9,q9⟩=>?_) fun e s' z=>err e s' z
   have wk:∀ {σa:St} {Ha:Hp} {sa:Shared},σa=σ8->Inv X (((D,oS)::P0)++CO fp s7.heap) σa Ha sa ->
    Inv X P0 (capt σ map) Ha sa/\tn (i+1) sa.heap/\(∀ b∈fp,Ha b=none)/\Ha D=none/\sa.heap.get? D=some oS:=fun {σa Ha sa} ea Ia=>by
    subst ea
    refine ⟨(Ia.pins_of (pins':=P0) fun p hp=>Ia.pin p (List.mem_append_right _ (List.mem_append_left _ (List.mem_cons_of_mem _ hp)))).weak kl.symm fun j v e=>?_,T.keep _ _ _ st7 fun b hb o e=>(Ia.pin (b,o) (List.mem_append_right _ (List.mem_append_right _ (Y3 hb e)))).1,fun b hb=>?_,?_,?_⟩
    · obtain ⟨i',hm,_⟩:=KU e
      rw [k8 j i' hm];exact e
    · obtain ⟨o,e,d⟩:=T.obj _ _ st7 b hb
      exact (Ia.pin (b,o) (List.mem_append_right _ (List.mem_append_right _ (Y3 hb e)))).2.1
    · exact (Ia.pin (D,oS) (List.mem_append_right _ (List.mem_append_left _ List.mem_cons_self))).2.1
    · exact (Ia.pin (D,oS) (List.mem_append_right _ (List.mem_append_left _ List.mem_cons_self))).1
   cases b with
   | false =>
     rw [if_neg Bool.false_ne_true] at q9 ⊢
     obtain ⟨m',hm',w9⟩:=hNN _ _ q9
     obtain ⟨a1,a2,a3,a4,a5⟩:=wk rfl I9
     exact ⟨m',hm',i+1,acc,H9,oS,a1,a2,a3,a4,a5,rv5,w9⟩
   | true =>
     rw [if_pos rfl] at q9 ⊢
     refine wpAny_mono (pel _ s9 σ8 H9 _ I9 q9) (fun v s10 ⟨y,H10,I10,r10,q10⟩=>?_) fun e s' z=>err e s' z
     obtain ⟨m',hm',w10⟩:=hNN _ _ q10
     obtain ⟨a1,a2,a3,a4,a5⟩:=wk rfl I10
     refine J8q a5 rv5 (hW _ _ _ _ w10) r10 fun h11 o' tk sb11 e11 sg11=>?_
     exact ⟨m',hm',i+1,acc++[y],H10,o',a1.turned (t':=tk) (it:=D) (fun b o hb e=>(sb11.2 b hb).trans e) a4 d.loc (.inr d.sz) d.cell d.pn,T.keep _ _ _ a2 fun b hb o e=>(sb11.2 b (nD b hb)).trans e,a3,a4,e11,sg11,w10⟩
theorem ISo.new {prog:Program}{w:World}:ISo prog w [] (J0t (!w.params.followText "set-order")) #[] 0 (.fresh 0 0 (!w.params.followText "set-order")):=⟨⟨rfl,rfl,rfl⟩,rfl,fun e he=>by simp at he,List.nodup_nil,fun z=>Iff.rfl,Nat.le_refl 0,rfl,Tb.fresh w⟩
theorem MN {prog:Program}{w:World}{A:Around}{E:Value->Shared->Prop}{s:Shared}{Q:Value->Shared->Prop}(h:Q (.ref s.heap.objs.size) { s with heap:=s.heap.push (J0t (!w.params.followText "set-order")) }):wpAny (model prog w) A (newSet (.type "set")) Q E s:=by
 unfold newSet setsByText
 refine wpAny_bind (wpAny_bind (wpAny_askSetting (wpAny_pure ?_)))
 dsimp only
 simp only [newObj]
 exact wpAny_bind (wpAny_alloc (wpAny_pure h))
def UO (J:It)(g:TG)(mp2:List (Option Nat))(wi2:TI)(g2:TG)(tt:TT)(te:TE)(σc:St)(Fin:List V->Hp->Prop)(W:Nat->Nat->List V->Hp->Prop):Prop :=
 ∀ i m acc H2,W i m acc H2->(J.stop i H2/\Fin acc H2) \/
  (J.go i H2/\∃ N:List V->Hp->Prop,(∀ acc' H',N acc' H'->∃ m',m'<m/\W (i+1) m' acc' H')/\∀ x H3,J.yld i H2 x H3->g x σc H3 fun σ4 H4=>wi2 σ4 H4 fun J2 H5=>∃ W2:Nat->Nat->List V->Hp->Prop,(∀ i m acc H,W2 i m acc H->okA acc)/\(∃ m,W2 0 m acc H5)/\KZ J2 g2 tt te (capt σ4 mp2) N W2)
section
variable {X:Cx}{elt iter tg tg2 iter2:Expr}{ifs:List Expr}{scope:Scope}{pos:Pos}{N':List Str}{map mp2:List (Option Nat)}{wi wi2:TI}{g g2:TG}{tt:TT}{te:TE}
theorem J3c {pins:List (Addr×Obj)}{σ:St}{H1:Hp}{s2:Shared}{cl:List (Str×Addr)}{fp:List Addr}{it:Addr}{tn:Nat->Heap->Prop}{J:It}{E:Value->Shared->Prop}(I:Inv X pins σ H1 s2)(B:Blk2 X N' scope map mp2 tg tg2 iter2 elt ifs g wi2 g2 tt te)
 (hsub:∀ x c,cl.lookup x=some c->X.env.cells.lookup x=some c) (hhas:∀ x,(x,NameKind.free)∈scope.names->(cl.lookup x).isSome=true)
 (T:Turn X.prog X.w X.K tg J fp it tn) (st:tn 0 s2.heap) (hf:∀ b∈fp,CU X pins H1 b) {Fin:List V->Hp->Prop} {W:Nat->Nat->List V->Hp->Prop} {m0:Nat} (w0:W 0 m0 [] H1) (ht:UO J g mp2 wi2 g2 tt te (capt σ map) Fin W)
 {RR:Value->Addr->Result->Shared->Prop}
 (hOk:∀ D C ns acc H' s' m,acc=ns.map V.int->Inv X pins σ (upd H' D (SOb X.prog X.w ns D)) s'->H' D=none->s'.heap.Ns C m->upd H' D (SOb X.prog X.w ns D) C=none->C≠X.env.locals->X.s₀.heap.objs.size<=C->(∀ x c,X.env.cells.lookup x=some c->c≠C)->(∀ p∈X.pn++pins,p.1≠C)->Fin acc H'->RR (.ref D) C (.ok .next) s') :
 wpAny (model X.prog X.w) X.A (newSet (.type "set")) (fun acc s3=>wpAny (model X.prog X.w) X.A (newFunctionEnv scope X.env.globals cl [] X.env.qual none .none (some X.env)) (fun cenv s4 =>
  codeAny (model X.prog X.w) X.A (.compStart (.SetComp elt [⟨tg,iter,[],0⟩,⟨tg2,iter2,ifs,0⟩] scope pos) 0 (.ref it) acc { cenv with scope:=relabel scope X.env }) (RR acc cenv.locals) s4) E s3) E s2:=by
 have fo:∀ b∈fp,∃ o,s2.heap.get? b=some o:=fun b hb=>by obtain ⟨o,e,_⟩:=T.obj 0 _ st b hb;exact ⟨o,e⟩
 refine MN ?_
 generalize hoN:J0t (!X.w.params.followText "set-order")=oN
 have sgN:SG X.prog X.w [] oN:=⟨[],#[],0,_,rfl,by rw [<- hoN];exact ISo.new⟩
 have frN:oN.isFreed=false:=by rw [<- hoN];rfl
 generalize hH2:s2.heap.push oN=H2
 have szD:H2.objs.size=s2.heap.objs.size+1:=by rw [<- hH2,Heap.size_push]
 have kD:∀ b o,s2.heap.get? b=some o->H2.get? b=some o:=fun b o e=>hH2▸Heap.get?_push_of_some _ e
 simp only [newFunctionEnv,Option.isSome_some,if_true]
 refine wpAny_bind (wpAny_alloc ?_)
 refine wpAny_bind (wpAny_layCells _ (fun name kind cells=>by cases hkc:kind==NameKind.cell<;>simp [hkc]) _ _ _ _ ?_)
 dsimp only
 generalize hH3:H2.push { cls:=.type "dict",dict:=none,data:=.dict #[] }=h3
 have sz3:h3.objs.size=H2.objs.size+1:=by rw [<- hH3,Heap.size_push]
 have kC:∀ b o,H2.get? b=some o->h3.get? b=some o:=fun b o e=>hH3▸Heap.get?_push_of_some _ e
 have nsC:h3.Ns H2.objs.size fun _=>none:=hH3▸Heap.Ns.new H2 (.type "dict")
 refine wpAny_bind (wpAny_pure (wpAny_pure ?_))
 show codeAny _ _ (.compStart (.SetComp elt [⟨tg,iter,[],0⟩,⟨tg2,iter2,ifs,0⟩] scope pos) 0 (.ref it) (.ref s2.heap.objs.size) (compEnvC scope (cellsFrom h3.objs.size scope.names cl) H2.objs.size X.env)) _ _
 generalize hX':(J6 X N' scope (cellsFrom h3.objs.size scope.names cl) H2.objs.size fp s2 H1).nox=X'
 have I4:Inv X' [] (capt σ map) H1 { s2 with heap:=pushCells h3 scope.names }:=hX'▸(IU I B.one.m hsub hhas hf fo H2.objs.size h3 (by rw [szD];exact Nat.le_succ _) (fun b o e=>kC b o (kD b o e)) (by rw [sz3];exact Nat.lt_succ_self _) nsC s2.toks).wish _
 obtain ⟨pg,pi2,pg2,pif,pel⟩:=B.run (cellsFrom h3.objs.size scope.names cl) H2.objs.size fp s2 H1
 rw [hX'] at pg pi2 pg2 pif pel
 have eprog:X'.prog=X.prog:=by rw [<- hX'];rfl
 have ew:X'.w=X.w:=by rw [<- hX'];rfl
 have eK:X'.K=X.K:=by rw [<- hX'];rfl
 have eA:X'.A=X.A:=by rw [<- hX'];rfl
 have ecalm:X'.calm=true:=by rw [<- hX'];exact B.calm
 have eenv:X'.env=compEnvC scope (cellsFrom h3.objs.size scope.names cl) H2.objs.size X.env:=by rw [<- hX'];rfl
 have exe:X'.xe=fun _ _=>False:=by rw [<- hX']
 have es0:X'.s₀=s2:=by rw [<- hX'];rfl
 have eH0:X'.H₀=H1:=by rw [<- hX'];rfl
 have eex:X'.ex=fp:=by rw [<- hX'];rfl
 have efs:X'.fs=frs X.stack:=by rw [<- hX'];rfl
 have epn:X'.pn=[]:=by rw [<- hX'];rfl
 have eL:X'.env.locals=H2.objs.size:=by rw [eenv];rfl
 generalize hDd:s2.heap.objs.size=D at *
 have fD:∀ b∈fp,b≠D:=fun b hb=>by obtain ⟨o,e⟩:=fo b hb;exact Nat.ne_of_lt (hDd▸Heap.lt_size e)
 have nfsD:D∉X'.fs:=fun hb=>by
  rw [efs] at hb
  have h1:=I.stkSub D hb
  rcases List.mem_cons.mp h1 with z|z
  · have:=I.lt;rw [hDd,<- z] at this;exact Nat.lt_irrefl _ this
  · exact I.nofs (by rw [hDd];exact Nat.le_refl _) z
 have ncD:∀ x c,X'.env.cells.lookup x=some c->c≠D:=fun x c e z=>by
  rw [eenv] at e
  rcases KS _ _ _ x c e with q|q
  · obtain ⟨v,o,ho,_⟩:=I.cell x c (hsub x c q)
    have:=Heap.lt_size ho
    rw [hDd,z] at this
    exact Nat.lt_irrefl _ this
  · rw [z,sz3,szD] at q
    exact absurd (Nat.lt_of_lt_of_le (Nat.lt_succ_of_lt (Nat.lt_succ_self D)) q) (Nat.lt_irrefl _)
 have f4:∀ {H':Hp} {pl:List (Addr×Obj)},(∀ b∈fp,H' b=none)->(∀ p∈pl,p.1=D)->∀ b∈fp,CU X' pl H' b:=fun {H' pl} hn hpl b hb=>by
  have q:=hf b hb
  refine ⟨hn b hb,?_,?_,.inl (by rw [eex];exact hb),fun x c e=>?_,fun p hp=>?_⟩
  · rw [eL]
    obtain ⟨o,e⟩:=fo b hb
    have:=Heap.lt_size e
    rw [hDd] at this
    intro z
    rw [z,szD] at this
    exact absurd (Nat.lt_of_succ_lt this) (Nat.lt_irrefl _)
  · have:=I4.ok.exfs b (by rw [eex];exact hb)
    exact this
  · exact (I4.ok.exf b (by rw [eex];exact hb)).2 x c e
  · rw [epn] at hp
    have hp:p∈pl:=by simpa using hp
    rw [hpl p hp]
    exact (fD b hb).symm
 have hD4:(pushCells h3 scope.names).get? D=some oN:=pushCells_keeps _ _ _ _ (kC _ _ (by rw [<- hH2,<- hDd];exact Heap.get?_push_size _ frN))
 have loop:codeAny (model X.prog X.w) X.A (.compLoop (.SetComp elt [⟨tg,iter,[],0⟩,⟨tg2,iter2,ifs,0⟩] scope pos) 0 (.ref it) (.ref D) (compEnvC scope (cellsFrom h3.objs.size scope.names cl) H2.objs.size X.env)) (RR (.ref D) H2.objs.size) { s2 with heap:=pushCells h3 scope.names }:=by
  refine LQ (fun n s'=>∃ i acc H' o,Inv X' [] (capt σ map) H' s'/\tn i s'.heap/\(∀ b∈fp,H' b=none)/\H' D=none/\s'.heap.get? D=some o/\SG X.prog X.w acc o/\W i n acc H') (B.fold _) ?_ m0
   ⟨0,[],H1,oN,I4,T.keep _ _ _ st fun b hb o e=>pushCells_keeps _ _ _ _ (kC _ _ (kD _ _ e)),fun b hb=>(hf b hb).1,I.hok.fresh (by rw [hDd];exact Nat.le_refl _),hD4,sgN,w0⟩
  rintro n s5 ⟨i,acc,H5,oS,I5,st5,fr5,hD5,oD5,rv5,w5⟩
  have pinD:Inv X' [(D,oS)] (capt σ map) H5 s5:=I5.pins_of fun p hp=>by
   have e:p=(D,oS):=by simpa using hp
   subst e
   refine ⟨oD5,hD5,?_,nfsD,fun v=>rv5.nc v⟩
   rw [eL,szD]
   exact Nat.ne_of_lt (Nat.lt_succ_self _)
  have plD:∀ p∈[(D,oS)],p.1=D:=fun p hp=>by
   have e:p=(D,oS):=by simpa using hp
   rw [e]
  have err:∀ {Z:Prop} e s',X'.xe e s'->Z:=fun {Z} e s' z=>by rw [exe] at z;exact z.elim
  rcases ht i n acc H5 w5 with ⟨stop,fin⟩|⟨go,NN,hNN,step⟩
  · have dn:=T.done X' eprog ew eK ecalm i _ s5 (capt σ map) H5 (fun _ _=>False) pinD (f4 fr5 plD) st5 stop
    rw [eA] at dn
    refine thn dn fun r s6 ⟨hr,I6⟩=>?_
    subst hr
    obtain ⟨oD6,hD6,_⟩:=I6.pin (D,_) (by rw [epn];exact List.mem_cons_self)
    obtain ⟨m,nsm,_⟩:=I6.loc
    rw [eL] at nsm
    have un:=I6.base
    rw [efs,eex,eH0,es0] at un
    have hok:=I6.hok
    rw [eprog,ew] at hok
    have os6:=I6.os
    rw [es0] at os6
    have fC:H5 H2.objs.size=none:=by rw [<- eL];exact I6.free
    have nDC:H2.objs.size≠D:=by rw [szD];exact Nat.ne_of_gt (Nat.lt_succ_self _)
    obtain ⟨ns,es,ep,t,eacc,IS⟩:=id rv5
    refine hOk D H2.objs.size ns acc H5 s6 m eacc (I.call' (ch:=fp) os6 ?_ ?_ I6.bare fun b hb=>?_) hD5 nsm (by rw [Q3 nDC];exact fC) ?_ ?_ ?_ ?_ fin
    · refine ⟨un.keep,un.slot,fun b o e n hx=>?_,un.there,fun b xs e=>?_,fun b o u e=>?_,fun b ps e=>?_⟩
      · rw [Q3 (Nat.ne_of_lt (hDd▸Heap.lt_size e))]
        exact un.free b o e n hx
      · have:=un.tups b xs e
        rw [Q3 (Q0 this hD5)]
        exact this
      · have:=un.frzs b o u e
        rw [Q3 (Q0 this hD5)]
        exact this
      · obtain ⟨more,this⟩:=un.tbls b ps e
        exact ⟨more,by rw [Q3 (Q0 this hD5)];exact this⟩
    · intro b o e
      by_cases hb:b=D
      · subst hb
        rw [Q6] at e
        cases e
        exact ⟨⟨oS,es,ep,t,oD6,IS⟩,⟨oS,oD6⟩,fun h1 h2 ⟨o,es,ep,t,g,I⟩ k=>⟨o,es,ep,t,k o g,I⟩⟩
      · rw [Q3 hb] at e
        exact (hok b o e).stay (fun _ _ _ q=>q) (fun c q=>by rw [Q3 (Q0 q hD5)];exact q) fun c xs q=>by rw [Q3 (Q0 q hD5)];exact q
    · obtain ⟨f0,f1,f2,f3,f4',f5⟩:=hf b hb
      exact ⟨f3,f1,f4',f5⟩
    · have:=I.lt
      rw [hDd] at this
      intro z
      rw [<- z,szD] at this
      exact absurd (Nat.lt_of_succ_lt this) (Nat.lt_irrefl _)
    · have:=I.sz
      rw [hDd] at this
      omega
    · intro x c e z
      obtain ⟨v,o,ho,_⟩:=I.cell x c e
      have:=Heap.lt_size ho
      rw [hDd,z,szD] at this
      exact absurd (Nat.lt_of_succ_lt this) (Nat.lt_irrefl _)
    · intro p hp z
      have:=Heap.lt_size (I.pin p hp).1
      rw [hDd,z,szD] at this
      exact absurd (Nat.lt_of_succ_lt this) (Nat.lt_irrefl _)
  · have im:=T.item X' eprog ew eK ecalm i _ s5 (capt σ map) H5 (fun _ _=>False) pinD (f4 fr5 plD) st5 go
    rw [eA] at im
    refine thn im fun r s6 ⟨u,hr,h6⟩=>?_
    subst hr
    refine thn h6 fun _ s7 ⟨x,H7,I7,r7,y7,st7,fr7⟩=>?_
    have I7':=I7.pinned (f4 fr7 plD) (T.obj _ _ st7)
    have stp:=B.keep _ _ _ _ (step x H7 y7)
    have pgx:=pg _ s7 (capt σ map) H7 x u _ I7' r7 stp
    rw [eprog,ew,eA,eenv] at pgx
    refine wpAny_mono pgx (fun _ s8 ⟨σ8,H8,I8,⟨kl,k8⟩,q8⟩=>?_) fun e s' z=>err e s' z
    have pix:=pi2 _ s8 σ8 H8 _ I8 q8
    rw [eprog,ew,eA,eenv] at pix
    refine wpAny_mono pix (fun v s9 h9=>wpAny_mono h9 (fun itv s10 h10=>?_) fun e s' z=>err e s' z) fun e s' z=>err e s' z
    obtain ⟨it2,fp2,tn2,J2,H10,e,I10,T2,st10,f10,W2,ok2,⟨m2,w10⟩,tr2⟩:=h10
    subst e
    have pD10:=I10.pin (D,oS) (List.mem_append_right _ (List.mem_append_left _ List.mem_cons_self))
    have dk:DOk X' (CO fp s7.heap) D:=⟨by rw [eL,szD];exact Nat.ne_of_lt (Nat.lt_succ_self _),nfsD,ncD,by rw [es0,hDd];exact Nat.le_refl _,fun p hp=>by
     rw [epn] at hp
     exact fD p.1 (MM (by simpa using hp)).1⟩
    have len8:(capt σ8 mp2).length=σ8.length:=by
     have h1:=GB B.sub
     have h2:(capt σ map).length=map.length:=by unfold capt;rw [List.length_map]
     have h3:(capt σ8 mp2).length=mp2.length:=by unfold capt;rw [List.length_map]
     omega
    have I11:Inv X' (CO fp s7.heap) (capt σ8 mp2) H10 s10:=(I10.pins_of (pins':=CO fp s7.heap) fun p hp=>I10.pin p (List.mem_append_right _ (List.mem_append_right _ hp))).weak len8 fun j v e=>by
     obtain ⟨i',hm,e'⟩:=KU e
     have:i'=j:=by have:=FS B.ids j i' hm;omega
     rw [<- this];exact e'
    have run:=UB (g1:=⟨tg,iter,[],0⟩) (iter:=iter2) (scope:=scope) (pos:=pos) (X:=X') (σ:=σ8) (map:=mp2) (by rw [ecalm]) dk I11 pD10.2.1 pD10.1 (by rw [eprog,ew];exact rv5) T2 st10 (fun b hb=>by
     obtain ⟨z0,z1,z2,z3,z4,z5⟩:=f10 b hb
     exact ⟨z0,z1,z2,z3,z4,fun p hp=>(List.mem_append.mp hp).elim (fun q=>z5 p (List.mem_append_left _ q)) fun q=>z5 p (List.mem_append_right _ (List.mem_append_right _ q))⟩) (fun b hb=>by
     obtain ⟨z0,z1,z2,z3,z4,z5⟩:=f10 b hb
     exact (z5 (D,oS) (List.mem_append_right _ (List.mem_append_left _ List.mem_cons_self))).symm) pg2 pif pel exe B.keep2 w10 tr2 ok2
    rw [eprog,ew,eA,eenv] at run
    have run':=codeAny_mono (R':=fun r s'=>r=.ok .next/\∃ m,m<n/\∃ i acc H' o,Inv X' [] (capt σ map) H' s'/\tn i s'.heap/\(∀ b∈fp,H' b=none)/\H' D=none/\s'.heap.get? D=some o/\SG X.prog X.w acc o/\W i m acc H') run fun r s' q=>by
     obtain ⟨rfl,acc',o',H',I',hD',oD',rv',nn⟩:=q
     obtain ⟨m',hm',w'⟩:=hNN _ _ nn
     refine ⟨rfl,m',hm',i+1,acc',H',o',(I'.pins_of (pins':=[]) fun p hp=>absurd hp (by simp)).weak (by rw [len8,kl]) fun j v e=>?_,T.keep _ _ _ st7 fun b hb o e=>(I'.pin (b,o) (List.mem_append_right _ (Y3 hb e))).1,fun b hb=>?_,hD',oD',rv',w'⟩
     · obtain ⟨i',hm,_⟩:=KU e
       obtain ⟨i2,hm2⟩:=GC B.sub j i' hm
       have:i2=j:=by have:=FS B.ids j i2 hm2;omega
       subst this
       exact J6t hm2 (by rw [k8 _ i' hm];exact e)
     · obtain ⟨o,e,d⟩:=T.obj _ _ st7 b hb
       exact (I'.pin (b,o) (List.mem_append_right _ (Y3 hb e))).2.1
    have sf:=fun Q E=>T2.self X'.A 0 s10 Q E st10
    rw [eprog,ew,eA] at sf
    exact LO run' (sf _ _ run')
 exact OR loop (T.self _ 0 _ _ _ (T.keep _ _ _ st fun b hb o e=>pushCells_keeps _ _ _ _ (kC _ _ (kD _ _ e))) loop)
noncomputable def Q2l (wi:TI)(map mp2:List (Option Nat))(g:TG)(wi2:TI)(g2:TG)(tt:TT)(te:TE)(K:Program×World):TE:=fun σ H Q=>wi σ H fun J H1=>∃ W:Nat->Nat->List V->Hp->Prop,(∃ m,W 0 m [] H1) /\
 UO J g mp2 wi2 g2 tt te (capt σ map) (fun acc H'=>∀ D ns,acc=ns.map V.int->H' D=none->Q (.ref D) (upd H' D (SOb K.1 K.2 ns D))) W
theorem J4y (B:Blk2 X N' scope map mp2 tg tg2 iter2 elt ifs g wi2 g2 tt te)(hi:PI X tg iter wi)(hs:∀ x,foldedSetIterable iter X.env x=pure x:=by intro _;rfl):PE X (.SetComp elt [⟨tg,iter,[],0⟩,⟨tg2,iter2,ifs,0⟩] scope pos) (Q2l wi map mp2 g wi2 g2 tt te (X.prog,X.w)):=by
 intro pins s σ H Q I h
 obtain ⟨cl,hcl,hsub,hhas⟩:=B.clos I
 rw [arm_eval_SetComp]
 refine wpAny_comprehension_free (use:=none) rfl hs hcl B.kind B.loc (thn (hi pins s σ H _ I h) fun v s1 h1=>thn h1 fun itv s2 h2=>?_)
 obtain ⟨it,fp,tn,J,H2,e,I2,T,st2,f2,W,⟨m0,w0⟩,turn⟩:=h2
 subst e
 refine J3c (RR:=fun acc C=>compPost (model X.prog X.w) X.A X.xe none (EP X pins σ Q) acc C) I2 B hsub hhas T st2 f2 w0 turn fun D C ns acc H' s' m ea I' hD nsm fC c1 c2 c3 c4 fin=>?_
 refine ⟨m,nsm,fun h' sb=>⟨.ref D,_,?_,rfl,fin D ns ea hD⟩⟩
 exact I'.turned (t':=s'.toks) (fun b o hb e=>(sb.2 b hb).trans e) fC c1 (.inr c2) c3 c4
end
theorem YL (ke ve target iter:Expr)(ifs:List Expr)(scope:Scope)(pos:Pos)(it:Value)(d:Addr)(env:Env) :
 compTurn (.DictComp ke ve [⟨target,iter,ifs,0⟩] scope pos) 0 it (.ref d) env=(do
  standAt iter.pos
  match <- pyNext it with
  | none=>pure (.done .next)
  | some v =>
    letOwnedTupleGo target it v
    assign target env v
    let mut ok:=true
    for c in ifs do
     if ok then ok <- isTrue c env (eval c env)
    if ok then
     (do
      let kv <- eval ke env
      let vv <- holding [kv] (eval ve env)
      standAt { ke.pos with endLine:=ve.pos.endLine,endCol:=ve.pos.endCol }
      holding [kv,vv] (dictSet d kv vv))
    again (.compLoop (.DictComp ke ve [⟨target,iter,ifs,0⟩] scope pos) 0 it (.ref d) env)):=by rfl
theorem LR {prog:Program}{w:World}{A:Around}{R:Result->Shared->Prop}{s:Shared}{ke ve target iter:Expr}{ifs:List Expr}{scope:Scope}{pos:Pos}{it:Value}{d:Addr}{env:Env}(J:Nat->Shared->Prop)
 (turn:∀ n s,J n s->wpAny (model prog w) A (pyNext it) (fun r s₁=>match r with
  | none=>R (.ok .next) s₁
  | some v=>wpAny (model prog w) A (letOwnedTupleGo target it v) (fun _ s₁'=>wpAny (model prog w) A (assign target env v) (fun _ s₂=>wpAny (model prog w) A (MB ifs env) (fun ok s₃ =>
   if ok=true then wpAny (model prog w) A (eval ke env) (fun x s₄=>wpAny (model prog w) A (eval ve env) (fun y s₅=>wpAny (model prog w) A (dictSet d x y) (fun _ s₆=>∃ m,m<n/\J m s₆) (notedBy (model prog w) A env fun e s'=>R (.error e) s') s₅) (notedBy (model prog w) A env fun e s'=>R (.error e) s') s₄)
    (notedBy (model prog w) A env fun e s'=>R (.error e) s') s₃
   else ∃ m,m<n/\J m s₃) (notedBy (model prog w) A env fun e s'=>R (.error e) s') s₂) (notedBy (model prog w) A env fun e s'=>R (.error e) s') s₁') (notedBy (model prog w) A env fun e s'=>R (.error e) s') s₁)
   (notedBy (model prog w) A env fun e s'=>R (.error e) s') s) (n:Nat) (h:J n s) :
 codeAny (model prog w) A (.compLoop (.DictComp ke ve [⟨target,iter,ifs,0⟩] scope pos) 0 it (.ref d) env) R s:=by
 refine codeAny_loop rfl J (fun n s hJ=>?_) n h
 show wpAny _ _ (Sem.onRaise (compTurn (.DictComp ke ve [⟨target,iter,ifs,0⟩] scope pos) 0 it (.ref d) env) fun x=>do noteFrame x env;theTreesLotGoes x) _ _ _
 refine wpAny_noted ?_
 rw [YL]
 refine wpAny_bind (wpAny_standAt (wpAny_bind (thn (turn n s hJ) fun r s₁ h₁=>?_)))
 cases r with
 | none=>exact wpAny_pure h₁
 | some v =>
   refine wpAny_bind (thn h₁ fun _ s₁' h₁'=>wpAny_bind (thn h₁' fun _ s₂ h₂=>wpAny_bind (thn h₂ fun ok s₃ h₃=>?_)))
   cases ok with
   | true=>exact wpAny_bind (wpAny_bind (thn h₃ fun x s₄ h₄=>wpAny_bind (wpAny_holding (thn h₄ fun y s₅ h₅=>wpAny_bind (wpAny_standAt (wpAny_holding (thn h₅ fun _ s₆ h₆=>wpAny_pure ⟨rfl,h₆⟩)))))))
   | false=>exact wpAny_pure ⟨rfl,h₃⟩
theorem OS {prog:Program}{w:World}{A:Around}{R:Result->Shared->Prop}{s:Shared}{ke ve target iter:Expr}{ifs:List Expr}{scope:Scope}{pos:Pos}{it acc:Value}{env:Env}
 (h0:codeAny (model prog w) A (.compLoop (.DictComp ke ve [⟨target,iter,ifs,0⟩] scope pos) 0 it acc env) R s)
 (h:wpAny (model prog w) A (pyIter it) (fun it' s'=>codeAny (model prog w) A (.compLoop (.DictComp ke ve [⟨target,iter,ifs,0⟩] scope pos) 0 it' acc env) R s')
  (notedBy (model prog w) A env fun x s'=>R (.error x) s') s) :
 codeAny (model prog w) A (.compStart (.DictComp ke ve [⟨target,iter,ifs,0⟩] scope pos) 0 it acc env) R s:=by
 refine codeAny_of_tree ?_
 show wpAny _ _ ((compStart (.DictComp ke ve [⟨target,iter,ifs,0⟩] scope pos) 0 it acc env).onRaise (fun x=>do noteFrame x env;standAt theWindowsPlace)) _ _ s
 refine wpAny_notedAt ?_
 unfold compStart
 show wpAny _ _ (ask >>= _) _ _ s
 refine wpAny_bind (wpAny_askSetting (wpAny_ite ?_))
 split
 · first
    | exact wpAny_bind (wpAny_pure (wpAny_pure (And.intro rfl h0)))
    | exact wpAny_pure (And.intro rfl h0)
 · first
    | exact wpAny_bind (wpAny_rule (wpAny_bind (wpAny_standAt (wpAny_bind (wpAny_mono h (fun it' s' h'=>wpAny_pure (And.intro rfl h')) fun _ _ x=>x)))))
    | (refine wpAny_bind (wpAny_rule ?_);show wpAny _ _ (standAt iter.pos >>= _) _ _ s;exact wpAny_bind (wpAny_standAt (wpAny_bind (wpAny_mono h (fun it' s' h'=>wpAny_pure (And.intro rfl h')) fun _ _ x=>x))))
def DGo (prog:Program)(w:World)(acc:List (Int×V))(o:Obj):Prop:=∃ vs,KV acc vs/\o.IsDictOf (intKind prog w) vs
theorem DGo.nc {prog:Program}{w:World}{acc:List (Int×V)}{o:Obj}(h:DGo prog w acc o)(v:Option Value):o.data≠.cell v:=fun z=>by
 obtain ⟨vs,_,es,ep,_,d,_⟩:=h
 rw [d] at z
 cases z
def IDb (prog:Program)(w:World)(acc:List (Int×V))(D:Addr):HO:=.ext fun h=>∃ o,h.get? D=some o/\DGo prog w acc o
theorem KV.keyz {κ:Type}:∀ {a:List (κ×V)} {b:List (κ×Value)},KV a b->b.map (·.1)=a.map (·.1):=fun {a b} h=>by
 induction h with
 | nil=>rfl
 | cons p _ ih=>rw [List.map_cons,List.map_cons,ih,p.1]
theorem KV.snoc {κ:Type}{k:κ}{y:V}{v:Value}(r:RelV y v):∀ {a:List (κ×V)} {b:List (κ×Value)},KV a b->KV (a++[(k,y)]) (b++[(k,v)]):=fun {a b} h=>by
 induction h with
 | nil=>exact .cons ⟨rfl,r⟩ .nil
 | cons p _ ih=>exact .cons p ih
theorem Q0t {prog:Program}{w:World}{A:Around}{E:Value->Shared->Prop}{s:Shared}{D:Addr}{o:Obj}{acc:List (Int×V)}{k:Int}{t:Tok}{y:V}{v:Value}{Q:Unit->Shared->Prop}(g:s.heap.get? D=some o)(S:DGo prog w acc o)(hk:k∉acc.map (·.1))(hl:acc.length<=1000)(r:RelV y v)
 (fin:∀ h' o' tk,Heap.SameBut D s.heap h'->h'.get? D=some o'->DGo prog w (acc++[(k,y)]) o'->Q () { s with heap:=h',toks:=tk }):wpAny (model prog w) A (dictSet D (.int k t) v) Q E s:=by
 obtain ⟨vs,kv,dd⟩:=S
 have ks:=KV.keyz kv
 have len:vs.length=acc.length:=by have:=congrArg List.length ks;simpa using this
 have ns:stored vs k v=vs++[(k,v)]:=by
  unfold stored
  rw [if_neg]
  intro z
  obtain ⟨p,hp,e⟩:=List.any_eq_true.mp z
  exact hk (ks▸List.mem_map.mpr ⟨p,hp,of_decide_eq_true e⟩)
 refine wpAny_dictSet_pairs (knd:=intKind prog w) (k:=k) (by simp [intKind,Value.isInt]) (Heap.dictOf_iff.mpr ⟨o,g,dd⟩) (fun h' d' sb=>?_) (by rw [sizeLine_eq];omega)
 rw [ns] at d'
 obtain ⟨o',g',dd'⟩:=Heap.dictOf_iff.mp d'
 exact fin h' o' _ sb g' ⟨_,KV.snoc r kv,dd'⟩
structure BlkD (X:Cx)(N':List Str)(scope:Scope)(map:List (Option Nat))(tg ke ve:Expr)(ifs:List Expr)(g:TG)(tt:TT)(tk te:TE):Prop where
 m:BlkM X N' scope map tg ve ifs g tt te
 key:∀ cells C fp s H,LB X C fp s H->PE (J6 X N' scope cells C fp s H) ke tk
def UP (J:It)(g:TG)(tt:TT)(tk te:TE)(σc:St)(Fin:List (Int×V)->Hp->Prop)(W:Nat->Nat->List (Int×V)->Hp->Prop):Prop :=
 ∀ i m acc H2,W i m acc H2->(J.stop i H2/\Fin acc H2) \/
  (J.go i H2/\∃ N:List (Int×V)->Hp->Prop,(∀ acc' H',N acc' H'->∃ m',m'<m/\W (i+1) m' acc' H')/\∀ x H3,J.yld i H2 x H3->g x σc H3 fun σ4 H4=>tt σ4 H4 fun b H5=>if b=true then tk σ4 H5 fun y H6=>∃ k,y=.int k/\k∉acc.map (·.1)/\acc.length<=1000/\te σ4 H6 fun v H7=>N (acc++[(k,v)]) H7 else N acc H5)
section
variable {X:Cx}{ke ve iter tg:Expr}{ifs:List Expr}{scope:Scope}{pos:Pos}{N':List Str}{map:List (Option Nat)}{wi:TI}{g:TG}{tt:TT}{tk te:TE}
theorem J3d {pins:List (Addr×Obj)}{σ:St}{H1:Hp}{s2:Shared}{cl:List (Str×Addr)}{fp:List Addr}{it:Addr}{tn:Nat->Heap->Prop}{J:It}{E:Value->Shared->Prop}(I:Inv X pins σ H1 s2)(BD:BlkD X N' scope map tg ke ve ifs g tt tk te)
 (hsub:∀ x c,cl.lookup x=some c->X.env.cells.lookup x=some c) (hhas:∀ x,(x,NameKind.free)∈scope.names->(cl.lookup x).isSome=true)
 {R:Cx->Prop} (hR:∀ cells C fp s H,R (J6 X N' scope cells C fp s H)) (T:TurnG R X.prog X.w X.K tg J fp it tn) (st:tn 0 s2.heap) (hf:∀ b∈fp,CU X pins H1 b) {Fin:List (Int×V)->Hp->Prop} {W:Nat->Nat->List (Int×V)->Hp->Prop} {m0:Nat} (w0:W 0 m0 [] H1) (ht:UP J g tt tk te (capt σ map) Fin W)
 {RR:Value->Addr->Result->Shared->Prop}
 (hOk:∀ D C acc H' s' m,Inv X pins σ (upd H' D (IDb X.prog X.w acc D)) s'->H' D=none->s'.heap.Ns C m->upd H' D (IDb X.prog X.w acc D) C=none->C≠X.env.locals->X.s₀.heap.objs.size<=C->(∀ x c,X.env.cells.lookup x=some c->c≠C)->(∀ p∈X.pn++pins,p.1≠C)->Fin acc H'->RR (.ref D) C (.ok .next) s')
 (hErr:∀ D C e s',SK X C e s'->RR (.ref D) C (.error e) s') :
 wpAny (model X.prog X.w) X.A newDict (fun acc s3=>wpAny (model X.prog X.w) X.A (newFunctionEnv scope X.env.globals cl [] X.env.qual none .none (some X.env)) (fun cenv s4 =>
  codeAny (model X.prog X.w) X.A (.compStart (.DictComp ke ve [⟨tg,iter,ifs,0⟩] scope pos) 0 (.ref it) acc { cenv with scope:=relabel scope X.env }) (RR acc cenv.locals) s4) E s3) E s2:=by
 have B:=BD.m
 have fo:∀ b∈fp,∃ o,s2.heap.get? b=some o:=fun b hb=>by obtain ⟨o,e,_⟩:=T.obj 0 _ st b hb;exact ⟨o,e⟩
 refine wpAny_newObj_type ?_
 generalize hoN:({ cls:=.type "dict",dict:=none,data:=.dict #[] }:Obj)=oN
 have dgN:DGo X.prog X.w [] oN:=⟨[],.nil,by
  rw [<- hoN]
  obtain ⟨o,g,dd⟩:=Heap.dictOf_iff.mp (Heap.DictOf.new (knd:=intKind X.prog X.w) s2.heap)
  rw [Heap.get?_push_size _ rfl] at g
  cases g
  exact dd⟩
 have frN:oN.isFreed=false:=by rw [<- hoN];rfl
 generalize hH2:s2.heap.push oN=H2
 have szD:H2.objs.size=s2.heap.objs.size+1:=by rw [<- hH2,Heap.size_push]
 have kD:∀ b o,s2.heap.get? b=some o->H2.get? b=some o:=fun b o e=>hH2▸Heap.get?_push_of_some _ e
 simp only [newFunctionEnv,Option.isSome_some,if_true]
 refine wpAny_bind (wpAny_alloc ?_)
 refine wpAny_bind (wpAny_layCells _ (fun name kind cells=>by cases hkc:kind==NameKind.cell<;>simp [hkc]) _ _ _ _ ?_)
 dsimp only
 generalize hH3:H2.push { cls:=.type "dict",dict:=none,data:=.dict #[] }=h3
 have sz3:h3.objs.size=H2.objs.size+1:=by rw [<- hH3,Heap.size_push]
 have kC:∀ b o,H2.get? b=some o->h3.get? b=some o:=fun b o e=>hH3▸Heap.get?_push_of_some _ e
 have nsC:h3.Ns H2.objs.size fun _=>none:=hH3▸Heap.Ns.new H2 (.type "dict")
 refine wpAny_bind (wpAny_pure (wpAny_pure ?_))
 show codeAny _ _ (.compStart (.DictComp ke ve [⟨tg,iter,ifs,0⟩] scope pos) 0 (.ref it) (.ref s2.heap.objs.size) (compEnvC scope (cellsFrom h3.objs.size scope.names cl) H2.objs.size X.env)) _ _
 generalize hX':J6 X N' scope (cellsFrom h3.objs.size scope.names cl) H2.objs.size fp s2 H1=X'
 have I4:Inv X' [] (capt σ map) H1 { s2 with heap:=pushCells h3 scope.names }:=hX'▸IU I B hsub hhas hf fo H2.objs.size h3 (by rw [szD];exact Nat.le_succ _) (fun b o e=>kC b o (kD b o e)) (by rw [sz3];exact Nat.lt_succ_self _) nsC s2.toks
 obtain ⟨pg,pif,pel⟩:=B.run (cellsFrom h3.objs.size scope.names cl) H2.objs.size fp s2 H1 ⟨pins,σ,I,hf,by rw [szD];exact Nat.le_succ _⟩
 have pky:=BD.key (cellsFrom h3.objs.size scope.names cl) H2.objs.size fp s2 H1 ⟨pins,σ,I,hf,by rw [szD];exact Nat.le_succ _⟩
 rw [hX'] at pg pif pel pky
 have eprog:X'.prog=X.prog:=by rw [<- hX'];rfl
 have ew:X'.w=X.w:=by rw [<- hX'];rfl
 have eK:X'.K=X.K:=by rw [<- hX'];rfl
 have eA:X'.A=X.A:=by rw [<- hX'];rfl
 have ecalm:R X':=by rw [<- hX'];exact hR _ _ _ _ _
 have eenv:X'.env=compEnvC scope (cellsFrom h3.objs.size scope.names cl) H2.objs.size X.env:=by rw [<- hX'];rfl
 have exe:X'.xe=notedBy (model X.prog X.w) X.A (compEnvC scope (cellsFrom h3.objs.size scope.names cl) H2.objs.size X.env) (SK X H2.objs.size):=by rw [<- hX'];rfl
 have es0:X'.s₀=s2:=by rw [<- hX'];rfl
 have eH0:X'.H₀=H1:=by rw [<- hX'];rfl
 have eex:X'.ex=fp:=by rw [<- hX'];rfl
 have efs:X'.fs=frs X.stack:=by rw [<- hX'];rfl
 have epn:X'.pn=[]:=by rw [<- hX'];rfl
 have eL:X'.env.locals=H2.objs.size:=by rw [eenv];rfl
 generalize hDd:s2.heap.objs.size=D at *
 have fD:∀ b∈fp,b≠D:=fun b hb=>by obtain ⟨o,e⟩:=fo b hb;exact Nat.ne_of_lt (hDd▸Heap.lt_size e)
 have nfsD:D∉X'.fs:=fun hb=>by
  rw [efs] at hb
  have h1:=I.stkSub D hb
  rcases List.mem_cons.mp h1 with z|z
  · have:=I.lt;rw [hDd,<- z] at this;exact Nat.lt_irrefl _ this
  · exact I.nofs (by rw [hDd];exact Nat.le_refl _) z
 have ncD:∀ x c,X'.env.cells.lookup x=some c->c≠D:=fun x c e z=>by
  rw [eenv] at e
  rcases KS _ _ _ x c e with q|q
  · obtain ⟨v,o,ho,_⟩:=I.cell x c (hsub x c q)
    have:=Heap.lt_size ho
    rw [hDd,z] at this
    exact Nat.lt_irrefl _ this
  · rw [z,sz3,szD] at q
    exact absurd (Nat.lt_of_lt_of_le (Nat.lt_succ_of_lt (Nat.lt_succ_self D)) q) (Nat.lt_irrefl _)
 have f4:∀ {H':Hp} {pl:List (Addr×Obj)},(∀ b∈fp,H' b=none)->(∀ p∈pl,p.1=D)->∀ b∈fp,CU X' pl H' b:=fun {H' pl} hn hpl b hb=>by
  have q:=hf b hb
  refine ⟨hn b hb,?_,?_,.inl (by rw [eex];exact hb),fun x c e=>?_,fun p hp=>?_⟩
  · rw [eL]
    obtain ⟨o,e⟩:=fo b hb
    have:=Heap.lt_size e
    rw [hDd] at this
    intro z
    rw [z,szD] at this
    exact absurd (Nat.lt_of_succ_lt this) (Nat.lt_irrefl _)
  · have:=I4.ok.exfs b (by rw [eex];exact hb)
    exact this
  · exact (I4.ok.exf b (by rw [eex];exact hb)).2 x c e
  · rw [epn] at hp
    have hp:p∈pl:=by simpa using hp
    rw [hpl p hp]
    exact (fD b hb).symm
 have hD4:(pushCells h3 scope.names).get? D=some oN:=pushCells_keeps _ _ _ _ (kC _ _ (by rw [<- hH2,<- hDd];exact Heap.get?_push_size _ frN))
 have loop:codeAny (model X.prog X.w) X.A (.compLoop (.DictComp ke ve [⟨tg,iter,ifs,0⟩] scope pos) 0 (.ref it) (.ref D) (compEnvC scope (cellsFrom h3.objs.size scope.names cl) H2.objs.size X.env)) (RR (.ref D) H2.objs.size) { s2 with heap:=pushCells h3 scope.names }:=by
  refine LR (fun n s'=>∃ i acc H' o,Inv X' [] (capt σ map) H' s'/\tn i s'.heap/\(∀ b∈fp,H' b=none)/\H' D=none/\s'.heap.get? D=some o/\DGo X.prog X.w acc o/\W i n acc H') ?_ m0
   ⟨0,[],H1,oN,I4,T.keep _ _ _ st fun b hb o e=>pushCells_keeps _ _ _ _ (kC _ _ (kD _ _ e)),fun b hb=>(hf b hb).1,I.hok.fresh (by rw [hDd];exact Nat.le_refl _),hD4,dgN,w0⟩
  rintro n s5 ⟨i,acc,H5,oS,I5,st5,fr5,hD5,oD5,rv5,w5⟩
  have pinD:Inv X' [(D,oS)] (capt σ map) H5 s5:=I5.pins_of fun p hp=>by
   have e:p=(D,oS):=by simpa using hp
   subst e
   refine ⟨oD5,hD5,?_,nfsD,fun v=>rv5.nc v⟩
   rw [eL,szD]
   exact Nat.ne_of_lt (Nat.lt_succ_self _)
  have plD:∀ p∈[(D,oS)],p.1=D:=fun p hp=>by
   have e:p=(D,oS):=by simpa using hp
   rw [e]
  have err:∀ e s',X'.xe e s'->notedBy (model X.prog X.w) X.A (compEnvC scope (cellsFrom h3.objs.size scope.names cl) H2.objs.size X.env) (fun e s'=>RR (.ref D) H2.objs.size (.error e) s') e s':=fun e s' he=>by
   rw [exe] at he
   exact wpAny_mono he (fun _ s'' q=>hErr D _ e s'' q) fun e'' s'' q=>hErr D _ e'' s'' q
  rcases ht i n acc H5 w5 with ⟨stop,fin⟩|⟨go,NN,hNN,step⟩
  · have dn:=T.done X' eprog ew eK ecalm i _ s5 (capt σ map) H5 (notedBy (model X.prog X.w) X.A (compEnvC scope (cellsFrom h3.objs.size scope.names cl) H2.objs.size X.env) fun e s'=>RR (.ref D) H2.objs.size (.error e) s') pinD (f4 fr5 plD) st5 stop
    rw [eA] at dn
    refine thn dn fun r s6 ⟨hr,I6⟩=>?_
    subst hr
    obtain ⟨oD6,hD6,_⟩:=I6.pin (D,_) (by rw [epn];exact List.mem_cons_self)
    obtain ⟨m,nsm,_⟩:=I6.loc
    rw [eL] at nsm
    have un:=I6.base
    rw [efs,eex,eH0,es0] at un
    have hok:=I6.hok
    rw [eprog,ew] at hok
    have os6:=I6.os
    rw [es0] at os6
    have fC:H5 H2.objs.size=none:=by rw [<- eL];exact I6.free
    have nDC:H2.objs.size≠D:=by rw [szD];exact Nat.ne_of_gt (Nat.lt_succ_self _)
    refine hOk D H2.objs.size acc H5 s6 m (I.call' (ch:=fp) os6 ?_ ?_ I6.bare fun b hb=>?_) hD5 nsm (by rw [Q3 nDC];exact fC) ?_ ?_ ?_ ?_ fin
    · refine ⟨un.keep,un.slot,fun b o e n hx=>?_,un.there,fun b xs e=>?_,fun b o u e=>?_,fun b ps e=>?_⟩
      · rw [Q3 (Nat.ne_of_lt (hDd▸Heap.lt_size e))]
        exact un.free b o e n hx
      · have:=un.tups b xs e
        rw [Q3 (Q0 this hD5)]
        exact this
      · have:=un.frzs b o u e
        rw [Q3 (Q0 this hD5)]
        exact this
      · obtain ⟨more,this⟩:=un.tbls b ps e
        exact ⟨more,by rw [Q3 (Q0 this hD5)];exact this⟩
    · intro b o e
      by_cases hb:b=D
      · subst hb
        rw [Q6] at e
        cases e
        exact ⟨⟨oS,oD6,rv5⟩,⟨oS,oD6⟩,fun h1 h2 ⟨o,g,I⟩ k=>⟨o,k o g,I⟩⟩
      · rw [Q3 hb] at e
        exact (hok b o e).stay (fun _ _ _ q=>q) (fun c q=>by rw [Q3 (Q0 q hD5)];exact q) fun c xs q=>by rw [Q3 (Q0 q hD5)];exact q
    · obtain ⟨f0,f1,f2,f3,f4',f5⟩:=hf b hb
      exact ⟨f3,f1,f4',f5⟩
    · have:=I.lt
      rw [hDd] at this
      intro z
      rw [<- z,szD] at this
      exact absurd (Nat.lt_of_succ_lt this) (Nat.lt_irrefl _)
    · have:=I.sz
      rw [hDd] at this
      omega
    · intro x c e z
      obtain ⟨v,o,ho,_⟩:=I.cell x c e
      have:=Heap.lt_size ho
      rw [hDd,z,szD] at this
      exact absurd (Nat.lt_of_succ_lt this) (Nat.lt_irrefl _)
    · intro p hp z
      have:=Heap.lt_size (I.pin p hp).1
      rw [hDd,z,szD] at this
      exact absurd (Nat.lt_of_succ_lt this) (Nat.lt_irrefl _)
  · have im:=T.item X' eprog ew eK ecalm i _ s5 (capt σ map) H5 (notedBy (model X.prog X.w) X.A (compEnvC scope (cellsFrom h3.objs.size scope.names cl) H2.objs.size X.env) fun e s'=>RR (.ref D) H2.objs.size (.error e) s') pinD (f4 fr5 plD) st5 go
    rw [eA] at im
    refine thn im fun r s6 ⟨u,hr,h6⟩=>?_
    subst hr
    refine thn h6 fun _ s7 ⟨x,H7,I7,r7,y7,st7,fr7⟩=>?_
    have I7':=I7.pinned (f4 fr7 plD) (T.obj _ _ st7)
    have stp:=B.keep _ _ _ _ (step x H7 y7)
    have pgx:=pg _ s7 (capt σ map) H7 x u _ I7' r7 stp
    rw [eprog,ew,eA,eenv] at pgx
    refine wpAny_mono pgx (fun _ s8 ⟨σ8,H8,I8,⟨kl,k8⟩,q8⟩=>?_) err
    have pix:=pif _ s8 σ8 H8 _ I8 q8
    rw [eprog,ew,eA,eenv] at pix
    refine wpAny_mono pix (fun b s9 ⟨H9,I9,q9⟩=>?_) err
    have wk:∀ {σa:St} {Ha:Hp} {sa:Shared},σa=σ8->Inv X' ([(D,oS)]++CO fp s7.heap) σa Ha sa ->
     Inv X' [] (capt σ map) Ha sa/\tn (i+1) sa.heap/\(∀ b∈fp,Ha b=none)/\Ha D=none/\sa.heap.get? D=some oS:=fun {σa Ha sa} ea Ia=>by
     subst ea
     refine ⟨(Ia.pins_of (pins':=[]) fun p hp=>absurd hp (by simp)).weak kl.symm fun j v e=>?_,T.keep _ _ _ st7 fun b hb o e=>(Ia.pin (b,o) (List.mem_append_right _ (List.mem_append_right _ (Y3 hb e)))).1,fun b hb=>?_,?_,?_⟩
     · have e':=e
       unfold capt at e'
       rw [List.getElem?_map] at e'
       cases hm:map[j]? with
       | none=>rw [hm] at e';cases e'
       | some o =>
         rw [hm] at e'
         cases o with
         | none=>simp at e'
         | some i'=>rw [k8 j i' hm];exact e
     · obtain ⟨o,e,d⟩:=T.obj _ _ st7 b hb
       exact (Ia.pin (b,o) (List.mem_append_right _ (List.mem_append_right _ (Y3 hb e)))).2.1
     · exact (Ia.pin (D,_) (List.mem_append_right _ (List.mem_append_left _ List.mem_cons_self))).2.1
     · exact (Ia.pin (D,_) (List.mem_append_right _ (List.mem_append_left _ List.mem_cons_self))).1
    cases b with
    | false =>
      rw [if_neg Bool.false_ne_true] at q9 ⊢
      obtain ⟨m',hm',w9⟩:=hNN _ _ q9
      obtain ⟨a1,a2,a3,a4,a5⟩:=wk rfl I9
      exact ⟨m',hm',i+1,acc,H9,oS,a1,a2,a3,a4,a5,rv5,w9⟩
    | true =>
      rw [if_pos rfl] at q9 ⊢
      have pkx:=pky _ s9 σ8 H9 _ I9 q9
      rw [eprog,ew,eA,eenv] at pkx
      refine wpAny_mono pkx (fun kv s10 ⟨y,H10,I10,r10,k,ey,hk,hlen,q10⟩=>?_) err
      subst ey
      obtain ⟨kt,rfl⟩:∃ t,kv=.int k t:=r10
      have pex:=pel _ s10 σ8 H10 _ I10 q10
      rw [eprog,ew,eA,eenv] at pex
      refine wpAny_mono pex (fun v s11 ⟨z,H11,I11,r11,q11⟩=>?_) err
      obtain ⟨m',hm',w11⟩:=hNN _ _ q11
      obtain ⟨a1,a2,a3,a4,a5⟩:=wk rfl I11
      refine Q0t a5 rv5 hk hlen r11 fun h12 o' tk12 sb12 e12 dg12=>?_
      refine ⟨m',hm',i+1,acc++[(k,z)],H11,o',a1.turned (t':=tk12) (it:=D) (fun b o hb e=>(sb12.2 b hb).trans e) a4 ?_ (.inr (by rw [es0,hDd];exact Nat.le_refl _)) ncD (fun p hp=>absurd hp (by rw [epn];simp)),T.keep _ _ _ a2 fun b hb o e=>(sb12.2 b (fD b hb)).trans e,a3,a4,e12,dg12,w11⟩
      rw [eL,szD]
      exact Nat.ne_of_lt (Nat.lt_succ_self _)
 exact OS loop (T.self _ 0 _ _ _ (T.keep _ _ _ st fun b hb o e=>pushCells_keeps _ _ _ _ (kC _ _ (kD _ _ e))) loop)
noncomputable def J8m (wi:TI)(map:List (Option Nat))(g:TG)(tt:TT)(tk te:TE)(K:Program×World):TE:=fun σ H Q=>wi σ H fun J H1=>∃ W:Nat->Nat->List (Int×V)->Hp->Prop,(∃ m,W 0 m [] H1) /\
 UP J g tt tk te (capt σ map) (fun acc H'=>∀ d,H' d=none->Q (.ref d) (upd H' d (IDb K.1 K.2 acc d))) W
theorem J0b (hc:X.calm=true)(B:BlkD X N' scope map tg ke ve ifs g tt tk te)(hi:PI X tg iter wi)(hs:∀ x,foldedSetIterable iter X.env x=pure x:=by intro _;rfl):PE X (.DictComp ke ve [⟨tg,iter,ifs,0⟩] scope pos) (J8m wi map g tt tk te (X.prog,X.w)):=by
 intro pins s σ H Q I h
 obtain ⟨cl,hcl,hsub,hhas⟩:=(Blk.clos (X:=X) (tg:=tg) (elt:=ve) (ifs:=ifs) (g:=g) (tt:=tt) (te:=te) ⟨hc,B.m.kind,B.m.loc,B.m.free,B.m.cap,B.m.keep,B.m.run⟩ I)
 rw [arm_eval_DictComp]
 refine wpAny_comprehension_free (use:=none) rfl hs hcl B.m.kind B.m.loc (thn (hi pins s σ H _ I h) fun v s1 h1=>thn h1 fun itv s2 h2=>?_)
 obtain ⟨it,fp,tn,J,H2,e,I2,T,st2,f2,W,⟨m0,w0⟩,turn⟩:=h2
 subst e
 refine J3d (RR:=fun acc C=>compPost (model X.prog X.w) X.A X.xe none (EP X pins σ Q) acc C) I2 B hsub hhas (R:=fun X=>X.calm=true) (fun _ _ _ _ _=>hc) T.gen st2 f2 w0 turn (fun D C acc H' s' m I' hD nsm fC c1 c2 c3 c4 fin=>?_) fun D C e s' z=>z
 refine ⟨m,nsm,fun h' sb=>⟨.ref D,_,?_,rfl,fin D hD⟩⟩
 exact I'.turned (t':=s'.toks) (fun b o hb e=>(sb.2 b hb).trans e) fC c1 (.inr c2) c3 c4
end
theorem leM:2000000<=sizeLine:=by rw [sizeLine_eq];decide
section
variable {X:Cx}{W:Wd}{elt tg tg2 iter2:Expr}{ifs:List Expr}{scope:Scope}{N':List Str}{map mp2:List (Option Nat)}{g g2:TG}{di2:DA}{dt:DT}{de:DE}
theorem Q4u (calm:X.calm=true) (kind:scope.kind=.function) (loc:∀ x∈scope.names,x.2=.local->scope.names.lookup x.1=some .local) (free:(scope.names.all fun p=>!(p.2==NameKind.free)||(X.env.kindOf p.1==some .cell||X.env.kindOf p.1==some .free))=true) (cap:CapOk X scope map N') (keep:FJ g map) (keep2:FJ g2 mp2) (ids:MT 0 mp2=true) (sub:DD map mp2=true)
 (run:∀ cells C fp s H,PG (J6 X N' scope cells C fp s H).nox tg g/\JI (J6 X N' scope cells C fp s H).nox W false tg2 iter2 di2/\PG (J6 X N' scope cells C fp s H).nox tg2 g2/\JIf (J6 X N' scope cells C fp s H).nox W ifs dt/\JE (J6 X N' scope cells C fp s H).nox W elt de)
 (fold:∀ env x,foldedSetIterable iter2 env x=pure x:=by intro _ _;rfl):Blk2 X N' scope map mp2 tg tg2 iter2 elt ifs g (dnI W false di2) g2 (dnT W dt) (dn W de) :=
 ⟨calm,kind,loc,free,cap,keep,keep2,ids,sub,fold,fun cells C fp s H=>by
  obtain ⟨a,b,c,d,e⟩:=run cells C fp s H
  exact ⟨a,b.h,c,d.h,e.h⟩⟩
end
theorem EZ:∀ (N:Nat) (l:List Int),l.Nodup->(∀ z∈l,0<=z/\z<(N:Int))->l.length<=N
 | 0,l,_,h=>by
   cases l with
   | nil=>exact Nat.le_refl _
   | cons z l=>have:=h z (List.mem_cons_self ..);omega
 | N+1,l,hn,h=>by
   have:=EZ N (l.erase (N:Int)) (hn.erase _) fun z hz=>by
    have m:=hn.mem_erase_iff.mp hz
    have:=h z m.2
    have:=m.1
    omega
   have e:=List.length_erase (a:=(N:Int)) (l:=l)
   split at e<;>omega
theorem NP {vs:List Value}{ks:List Int}(h:IntsAre vs ks):Vals (ks.map V.int) vs:=by
 induction h with
 | nil=>exact .nil
 | cons n t _ ih=>exact .cons ⟨t,rfl⟩ ih
theorem Inv.drew {X:Cx}{pins:List (Addr×Obj)}{σ:St}{H:Hp}{s:Shared}(I:Inv X pins σ H s)(d:Drawn):Inv X pins σ H { s with drawn:=d }:=⟨I.ok,I.os,I.bare,I.base,I.loc,I.cell,I.free,I.freeC,I.pin,I.hok,I.len⟩
section
variable {X:Cx}
theorem OZ (hc:X.calm=true):AW X (.builtin "sorted") (fun xs H Q=>∃ (D:Addr) (ns:List Int) (N:Nat),xs=[.ref D]/\H D=some (SOb X.prog X.w ns D)/\(∀ z∈ns,0<=z/\z<(N:Int))/\N<64/\∀ (p:Addr) (ks:List Int),H p=none->ks.Pairwise (· < ·)->(∀ z,z∈ks↔z∈ns)->Q (.ref p) (upd H p (.lst (ks.map V.int)))):=by
 intro pins s σ H xs us Q I r h
 obtain ⟨D,ns,N,rfl,hD,hN,h64,q⟩:=h
 obtain ⟨u,rfl,rx⟩:=FW r
 cases rx
 obtain ⟨⟨o,es,ep,t,g,IS⟩,_,_⟩:=I.hok D _ hD
 have hz:es.size<=N:=by
  have:=EZ N (RA es) IS.nd fun z m=>hN z ((IS.me z).mp m)
  rwa [List.length_map,Array.length_toList] at this
 refine SR (I.ok.hd hc) g IS (by omega) fun out ks L e h' d tk vi pm so gL zL k=>?_
 have nd:ks.Nodup:=pm.nodup_iff.mpr IS.nd
 have lt:ks.Pairwise (· < ·):=by
  have:=List.pairwise_and_iff.mpr ⟨so,nd⟩
  exact this.imp fun {a b} q=>by obtain ⟨q1,q2⟩:=q;omega
 have kl:ks.length<=64:=by rw [pm.length_eq,List.length_map,Array.length_toList];omega
 have hL:H L=none:=I.hok.fresh zL
 have J:=I.laid (a:=L) (o:=.lst (ks.map V.int)) (t':=tk) (h':=h') k zL ⟨by rw [List.length_map,sizeLine_eq];omega,out.toList,e,NP vi,gL⟩
 exact ⟨.ref L,_,J.drew d,rfl,q L ks hL lt fun z=>by rw [pm.mem_iff,IS.me z]⟩
end
def J1t (acc:List D):Prop:=(∃ ns:List Int,acc=ns.map D.int)/\acc.length<=2000
theorem FN {H:Hp}:∀ {ns:List Int} {vs:List V},Reps K M H (ns.map D.int) vs->vs=ns.map V.int
 | [],vs,h=>h
 | n::ns,vs,h=>by
   obtain ⟨v,r,rfl,h1,h2⟩:=h
   cases (show _=_ from h1)
   rw [FN h2]
   rfl
theorem J1t.ok {H:Hp}{ds:List D}{vs:List V}(h:J1t ds)(r:Reps K M H ds vs):okA vs:=by
 obtain ⟨⟨ns,rfl⟩,hl⟩:=h
 have e:=FN r
 exact ⟨⟨ns,e⟩,by rw [e,List.length_map];rwa [List.length_map] at hl⟩
inductive compGS (gd:D->Ev->(Ev->Prop)->Prop)(dt:DT)(de:DE)(ρc:Ev)(items acc0:List D)(P:List D->Prop):Prop
 | mk (I:Nat->List D->Prop) (hk:∀ i acc,I i acc->J1t acc) (h0:I 0 acc0) (hs:∀ (i:Nat) x acc,items[i]?=some x->I i acc->gd x ρc fun ρ1=>dt ρ1 fun c=>IfP c (de ρ1 fun y=>plain y=true/\I (i+1) (acc++[y])) (I (i+1) acc)) (hd:∀ acc,I items.length acc->P acc):compGS gd dt de ρc items acc0 P
inductive compS2 (gd:D->Ev->(Ev->Prop)->Prop)(mp2:List (Option Nat))(di2:DA)(gd2:D->Ev->(Ev->Prop)->Prop)(dt:DT)(de:DE)(ρc:Ev)(items:List D)(P:List Int->Prop):Prop
 | mk (I:Nat->List D->Prop) (h0:I 0 []) (hs:∀ (i:Nat) x acc,items[i]?=some x->I i acc->gd x ρc fun ρ1=>di2 ρ1 fun ys=>ys.length<=1000/\compGS gd2 dt de (DW ρ1 mp2) ys acc (I (i+1))) (hd:∀ acc,I items.length acc->∃ ns:List Int,acc=ns.map D.int/\P ns):compS2 gd mp2 di2 gd2 dt de ρc items P
def Q5l (ns:List Int)(P:D->Prop):Prop:=∃ N:Nat,(∀ z∈ns,0<=z/\z<(N:Int))/\N<64/\∀ ks:List Int,ks.Pairwise (· < ·)->(∀ z,z∈ks↔z∈ns)->P (.lst (ks.map D.int))
noncomputable def Q1d (map mp2:List (Option Nat))(gd:D->Ev->(Ev->Prop)->Prop)(di:DA)(gd2:D->Ev->(Ev->Prop)->Prop)(di2:DA)(dt:DT)(de:DE):DE:=fun ρ P=>di ρ fun items=>items.length<=1000/\compS2 gd mp2 di2 gd2 dt de (DW ρ map) items fun ns=>Q5l ns P
theorem OO {W:Wd}{pn:List (D×V)}{M:Addr->Prop}{b:Option Addr}{H:Hp}{σ:St}{ρ:Ev}{J:It}{need:List (D×V)}{items ds0:List D}{acc0:List V}{g:TG}{gd:D->Ev->(Ev->Prop)->Prop}{dt:DT}{de:DE}{P:List D->Prop}{Fin:List V->Hp->Prop}
 (hG:GD W g gd) (st:Sta W pn M b H σ ρ) (hp:items.all plain=true) (hI:IL W J need items) (hn:∀ q∈need,RepX W M b H q.1 q.2) (r0:Reps W.K M H ds0 acc0) (hl:acc0.length+items.length<=2000000) (h:compGS gd dt de ρ items ds0 P)
 (fin:∀ ds acc H',P ds->Reps W.K M H' ds acc->acc.length<=acc0.length+items.length->Kp b H H'->okB W.B b H'->Fin acc H'):∃ Wf:Nat->Nat->List V->Hp->Prop,(∀ i m acc H,Wf i m acc H->okA acc)/\(∃ m,Wf 0 m acc0 H)/\KZ J g (dnT W dt) (dn W de) σ Fin Wf:=by
 obtain ⟨I,hk,i0,istep,idone⟩:=h
 refine ⟨fun i m acc H2=>m=items.length - i/\i<=items.length/\acc.length<=acc0.length+i/\Kp b H H2/\okB W.B b H2/\∃ ds,Reps W.K M H2 ds acc/\I i ds,(fun i m acc H2 ⟨_,_,_,_,_,ds,r,q⟩=>(hk i ds q).ok r),⟨items.length,by simp,Nat.zero_le _,Nat.le_refl _,Kp.refl _ _,st.ok,ds0,r0,i0⟩,?_⟩
 rintro i m acc H2 ⟨rfl,hi,ha,k2,o2,ds,r,q⟩
 have st2:=st.step k2 o2
 obtain ⟨hgo,hstop⟩:=hI M b H2 st2.toHs fun q hq=>(hn q hq).step st.bagM k2
 by_cases hlt:i<items.length
 · have ei:items[i]?=some items[i]:=List.getElem?_eq_getElem hlt
   replace q:=istep i _ ds ei q
   refine .inr ⟨(hgo i _ ei).1,by have:=leM;omega,fun acc' H'=>acc'.length<=acc0.length+(i+1)/\Kp b H H'/\okB W.B b H'/\∃ ds,Reps W.K M H' ds acc'/\I (i+1) ds,fun acc' H' n=>⟨items.length - (i+1),by omega,rfl,hlt,n⟩,fun x H3 y=>?_⟩
   obtain ⟨S3,rx⟩:=(hgo i _ ei).2 x H3 y
   have o3:okB W.B b H3:=fun p e=>W.B.st p H2 H3 (o2 p e) fun o e'=>S3 p o e'
   have k3:Kp b H2 H3:=Kp.same S3
   have st3:=st2.step k3 o3
   refine hG pn M b H3 σ ρ items[i] x _ _ st3 rx (List.all_eq_true.mp hp _ (List.getElem_mem hlt)) q fun ρ1 σ1 h1 st4 _=>?_
   refine ⟨pn,M,b,ρ1,_,st4,h1,fun c H5 h5 k5 o5=>?_⟩
   cases h5 with
   | t e h5 =>
     rw [if_pos e]
     refine ⟨pn,M,b,ρ1,_,st4.step k5 o5,h5,fun y v H6 h6 ry k6 o6=>?_⟩
     have kk:=((k3.trans k5).trans k6)
     refine ⟨by simp;omega,k2.trans kk,o6,ds++[y],Reps.append (Reps.keep (fun c o n e=>kk c o (fun z=>n (st.bagM c z)) e) _ _ r) ⟨v,[],rfl,ry.rep h6.1,rfl⟩,h6.2⟩
   | f e h5 =>
     rw [if_neg (by rw [e];exact Bool.false_ne_true)]
     have kk:=k3.trans k5
     exact ⟨by omega,k2.trans kk,o5,ds,Reps.keep (fun c o n e=>kk c o (fun z=>n (st.bagM c z)) e) _ _ r,h5⟩
 · have e:i=items.length:=by omega
   subst e
   exact .inl ⟨hstop _ (Nat.le_refl _),by have:=leM;omega,fin ds acc H2 (idone _ q) r ha k2 o2⟩
theorem RZ {W:Wd}{pn:List (D×V)}{M:Addr->Prop}{b:Option Addr}{H:Hp}{σ:St}{ρ:Ev}{J:It}{need:List (D×V)}{items:List D}{g g2:TG}{gd gd2:D->Ev->(Ev->Prop)->Prop}{mp2:List (Option Nat)}{di2:DA}{dt:DT}{de:DE}{P:List Int->Prop}{Fin:List V->Hp->Prop}
 (hG:GD W g gd) (hG2:GD W g2 gd2) (st:Sta W pn M b H σ ρ) (hp:items.all plain=true) (hI:IL W J need items) (hn:∀ q∈need,RepX W M b H q.1 q.2) (hl:items.length<=1000) (h:compS2 gd mp2 di2 gd2 dt de ρ items P)
 (fin:∀ ns H',P ns->Kp b H H'->okB W.B b H'->Fin (ns.map V.int) H'):∃ Wf:Nat->Nat->List V->Hp->Prop,(∃ m,Wf 0 m [] H)/\UO J g mp2 (dnI W false di2) g2 (dnT W dt) (dn W de) σ Fin Wf:=by
 obtain ⟨I,i0,istep,idone⟩:=h
 refine ⟨fun i m acc H2=>m=items.length - i/\i<=items.length/\acc.length<=1000*i/\Kp b H H2/\okB W.B b H2/\∃ ds,Reps W.K M H2 ds acc/\I i ds,⟨items.length,by simp,Nat.zero_le _,Nat.le_refl _,Kp.refl _ _,st.ok,[],rfl,i0⟩,?_⟩
 rintro i m acc H2 ⟨rfl,hi,ha,k2,o2,ds,r,q⟩
 have st2:=st.step k2 o2
 obtain ⟨hgo,hstop⟩:=hI M b H2 st2.toHs fun q hq=>(hn q hq).step st.bagM k2
 by_cases hlt:i<items.length
 · have ei:items[i]?=some items[i]:=List.getElem?_eq_getElem hlt
   replace q:=istep i _ ds ei q
   refine .inr ⟨(hgo i _ ei).1,fun acc' H'=>acc'.length<=1000*(i+1)/\Kp b H H'/\okB W.B b H'/\∃ ds,Reps W.K M H' ds acc'/\I (i+1) ds,fun acc' H' n=>⟨items.length - (i+1),by omega,rfl,hlt,n⟩,fun x H3 y=>?_⟩
   obtain ⟨S3,rx⟩:=(hgo i _ ei).2 x H3 y
   have o3:okB W.B b H3:=fun p e=>W.B.st p H2 H3 (o2 p e) fun o e'=>S3 p o e'
   have k3:Kp b H2 H3:=Kp.same S3
   have st3:=st2.step k3 o3
   refine hG pn M b H3 σ ρ items[i] x _ _ st3 rx (List.all_eq_true.mp hp _ (List.getElem_mem hlt)) q fun ρ1 σ1 h1 st4 _=>?_
   refine ⟨pn,M,b,ρ1,_,st4,h1,fun ys J2 need2 H5 hys hp2 hI2 hn2 k5 o5=>?_⟩
   have st5:=(st4.step k5 o5).capt mp2
   have kk:=k3.trans k5
   have hy:=hys.1
   exact OO hG2 st5 hp2 hI2 (fun q hq=>(hn2 q hq).1) (Reps.keep (fun c o n e=>kk c o (fun z=>n (st.bagM c z)) e) _ _ r) (by omega) hys.2 fun ds acc H' hP r hl' k o=>⟨by omega,(k2.trans kk).trans k,o,ds,r,hP⟩
 · have e:i=items.length:=by omega
   subst e
   obtain ⟨ns,rfl,hP⟩:=idone _ q
   rw [FN r]
   exact .inl ⟨hstop _ (Nat.le_refl _),fin ns H2 hP k2 o2⟩
section
variable {X:Cx}{W:Wd}{elt iter tg tg2 iter2:Expr}{ifs:List Expr}{scope:Scope}{pos cpos p:Pos}{N':List Str}{map mp2:List (Option Nat)}{g g2:TG}{gd gd2:D->Ev->(Ev->Prop)->Prop}{di di2:DA}{dt:DT}{de:DE}{x:Str}
theorem J0r {H:Hp}(hs:Hs W M b H){q:Addr}(h:H q=none)(ks:List Int):RepX W M b (upd H q (.lst (ks.map V.int))) (.lst (ks.map D.int)) (.ref q) :=
 DB hs (by
  induction ks with
  | nil=>exact rfl
  | cons k ks ih=>exact ⟨_,_,rfl,rfl,ih⟩) h
theorem XY (hc:X.calm=true)(hg:Gl X x)(hm:X.mg x=none)(hv:bootBuiltins x=some (.builtin "sorted")) (hG:GD W g gd) (hG2:GD W g2 gd2) (B:Blk2 X N' scope map mp2 tg tg2 iter2 elt ifs g (dnI W false di2) g2 (dnT W dt) (dn W de)) (hi:JI X W false tg iter di) (hn:x≠"__name__":=by decide) (hdb:(x==("__debug__" : Str))=false:=by decide)
 (hs:∀ x,foldedSetIterable iter X.env x=pure x:=by intro _;rfl) (hpl:(backTo pos (starEach ([]:List Expr) X.env)).any (·.1)=false:=by rfl):JE X W (.Call (.Name x p) [.SetComp elt [⟨tg,iter,[],0⟩,⟨tg2,iter2,ifs,0⟩] scope cpos] [] pos) (Q1d map mp2 gd di gd2 di2 dt de) :=
 ⟨(DR (OZ hc) hg hm hv (AF (J4y B hi.h hs) DI) hn hdb rfl hpl).mono fun σ H Q hh=>hh.elim fun pn M b ρ P st h k=>by
   refine ⟨pn,M,b,ρ,_,st,h,fun items J need H1 hx hp hI hn k1 o1=>?_⟩
   have st1:=st.step k1 o1
   refine RZ hG hG2 (st1.capt map) hp hI (fun q hq=>(hn q hq).1) hx.1 hx.2 fun ns H' hP k2 o2 D ns' en hD=>?_
   have en:ns'=ns:=by
    have:=congrArg (List.map fun v:V=>match v with|.int n=>n|_=>0) en
    simpa [Function.comp_def] using this.symm
   subst en
   obtain ⟨N,b1,b2,q⟩:=hP
   have st2:=st1.step k2 o2
   have o3:=st2.toHs.okU (o:=SOb X.prog X.w ns' D) hD
   have st3:=st2.step (Kp.upd (o:=SOb X.prog X.w ns' D) hD) o3
   refine ⟨D,ns',N,rfl,Q6,b1,b2,fun r ks hr so me=>?_⟩
   exact k _ _ _ (q ks so me) (J0r st3.toHs hr ks) (((k1.trans k2).trans (Kp.upd hD)).trans (Kp.upd hr)) (st3.toHs.okU hr)⟩
end
abbrev Om:=Nat->Prop
def Q5y (p:Addr)(H:Hp):Nat:=match H p with|some (.lst [_,_,.int st])=>st.toNat|_=>0
def cnt (b:Option Addr)(H:Hp):Nat:=match b with|none=>0|some p=>Q5y p H
abbrev DE3:=Ev->(D->Om)->Om
abbrev DT3:=Ev->(Bool->Om)->Om
abbrev DA3:=Ev->(List D->Om)->Om
section
variable {W:Wd}{b c:Expr}{p:Pos}{d:DE3}
abbrev Q5a:=List D->(D->Om)->Om
def VI (K:Fg)(B:BagT)(S:Q5a):Sp:=fun vs H Q E=>∃ (M:Addr->Prop) (b:Option Addr) (ds:List D) (P:D->Om),S ds P (cnt b H)/\RepAs K M b H ds vs/\okB B b H/\(∀ p,b=some p->M p)/\(∀ c,M c->∃ o,H c=some o) /\
 (∀ d v H',P d (cnt b H')->Rep K M H' d v->Kp b H H'->okB B b H'->Q v H')
end
structure DEnds3 where
 nx:Ev->Om
 rt:D->Om
 bk:Ev->Om:=fun _ _=>False
 ct:Ev->Om:=fun _ _=>False
 ro:List D->Om:=fun _ _=>False
abbrev DS3:=DEnds3->Ev->Om
theorem VI.len {B:BagT}{S:Q5a}{m:Nat}(h:∀ ds P n,S ds P n->ds.length=m):∀ vs H Q E,VI K B S vs H Q E->vs.length=m:=fun vs H Q E ⟨M,b,ds,P,hS,hr,_⟩=>by rw [hr.length];exact h _ _ _ hS
abbrev Q5c:=List D->(List D->Om)->Om
def RH (K:Fg)(B:BagT)(S:Q5c):Sp:=fun vs H Q E=>∃ (M:Addr->Prop) (b:Option Addr) (ds:List D) (P:List D->Om),S ds P (cnt b H)/\RepAs K M b H ds vs/\okB B b H/\(∀ p,b=some p->M p)/\(∀ c,M c->∃ o,H c=some o) /\
 (∀ xs a us H',P xs (cnt b H')->H a=none->H' a=some (.lst us)->Reps K M H' xs us->Kp b H H'->okB B b H'->Q (.ref a) H')
theorem RH.len {B:BagT}{S:Q5c}{m:Nat}(h:∀ ds P n,S ds P n->ds.length=m):∀ vs H Q E,RH K B S vs H Q E->vs.length=m:=fun vs H Q E ⟨M,b,ds,P,hS,hr,_⟩=>by rw [hr.length];exact h _ _ _ hS
def RowsR (K:Fg)(M:Addr->Prop)(H:Hp):List Addr->List (List D)->Prop
 | [],rows=>rows=[]
 | r::rs,rows=>∃ row rest us,rows=row::rest/\H r=some (.lst us)/\Reps K M H row us/\RowsR K M H rs rest
section
variable {K:Fg}{M M':Addr->Prop}{H H':Hp}
theorem RowsR.keep:∀ (rs:List Addr) (rows:List (List D)),(∀ c o,(¬ M c\/c∈rs)->H c=some o->H' c=some o)->RowsR K M H rs rows->RowsR K M H' rs rows
 | [],_,_,h=>h
 | r::rs,rows,k,h=>by
   obtain ⟨row,rest,us,e,h1,h2,h3⟩:=h
   exact ⟨row,rest,us,e,k _ _ (.inr (List.mem_cons_self ..)) h1,Reps.keep (fun c o n e=>k c o (.inl n) e) _ _ h2,RowsR.keep rs rest (fun c o q e=>k c o (q.imp id (List.mem_cons_of_mem _)) e) h3⟩
theorem RowsR.avoid (k:∀ c,M' c->M c\/H c=none):∀ (rs:List Addr) (rows:List (List D)),RowsR K M H rs rows->RowsR K M' H rs rows
 | [],_,h=>h
 | r::rs,rows,h=>by
   obtain ⟨row,rest,us,e,h1,h2,h3⟩:=h
   exact ⟨row,rest,us,e,h1,Reps.avoid k _ _ h2,RowsR.avoid k rs rest h3⟩
theorem RowsR.length:∀ {rs:List Addr} {rows:List (List D)},RowsR K M H rs rows->rows.length=rs.length
 | [],_,h=>by rw [show _=[] from h];rfl
 | r::rs,rows,h=>by
   obtain ⟨row,rest,us,rfl,h1,h2,h3⟩:=h
   simp [RowsR.length h3]
theorem RowsR.lst:∀ {rs:List Addr} {rows:List (List D)},RowsR K M H rs rows->∀ r∈rs,∃ us,H r=some (.lst us)
 | [],_,_,r,m=>by cases m
 | r::rs,rows,h,r',m=>by
   obtain ⟨row,rest,us,rfl,h1,h2,h3⟩:=h
   rcases List.mem_cons.mp m with z|z
   · rw [z];exact ⟨us,h1⟩
   · exact RowsR.lst h3 r' z
theorem RowsR.at:∀ {rs:List Addr} {rows:List (List D)} {k:Nat} {r:Addr},RowsR K M H rs rows->rs[k]?=some r->∃ row us,rows[k]?=some row/\H r=some (.lst us)/\Reps K M H row us
 | [],_,_,_,_,e=>by simp at e
 | _::rs,rows,0,r,h,e=>by
   obtain ⟨row,rest,us,rfl,h1,h2,h3⟩:=h
   simp at e;subst e
   exact ⟨row,us,rfl,h1,h2⟩
 | _::rs,rows,k+1,r,h,e=>by
   obtain ⟨row,rest,us,rfl,h1,h2,h3⟩:=h
   obtain ⟨row',us',e1,e2⟩:=RowsR.at (k:=k) h3 (by simpa using e)
   exact ⟨row',us',by simpa using e1,e2⟩
theorem RowsR.reps {A:List Addr}:∀ (rs:List Addr) (rows:List (List D)),(∀ r∈rs,r∈A)->RowsR K M H rs rows->Reps K (fun c=>M c/\c∉A) H (rows.map D.lst) (rs.map V.ref)
 | [],rows,_,h=>by rw [show rows=[] from h];exact rfl
 | r::rs,rows,hA,h=>by
   obtain ⟨row,rest,us,rfl,h1,h2,h3⟩:=h
   exact ⟨.ref r,_,rfl,⟨r,us,rfl,⟨fun m=>m.2 (hA r (List.mem_cons_self ..)),h1⟩,Reps.avoid (fun c m=>.inl m.1) _ _ h2⟩,RowsR.reps rs rest (fun c m=>hA c (List.mem_cons_of_mem _ m)) h3⟩
end
theorem StS.setFrg {W:Wd}{pn:List (D×V)} {H:Hp}{σ:St}{ρ:Ev}{f f':Frg}{d d':D}{v:V}{a:Addr}{o:HO}(s:StS W pn M b H σ ρ)(i:Nat)(e:ρ[i]?=some (some (.frg f d)))(ev:σ[i]?=some (some v))(ha:a∈f.ads)(hads:∀ c,c∈f'.ads->c∈f.ads)(r:RepX W M b (upd H a o) (.frg f' d') v) :
 StS W pn M b (upd H a o) σ (ρ.set i (some (.frg f' d'))):=by
 obtain ⟨v0,e1,r0⟩:=s.env i _ e
 rw [ev] at e1;cases e1
 obtain ⟨m1,m2,m3,m4⟩:=r0.1 a ha
 have kk:∀ c u,¬ M c->H c=some u->upd H a o c=some u:=fun c u n q=>by rw [Q3 (show c≠a from fun z=>n (by rw [z];exact m1))];exact q
 have kb:∀ c u,c≠a->H c=some u->upd H a o c=some u:=fun c u n q=>by rw [Q3 n];exact q
 refine s.of2 ⟨⟨fun q z=>W.B.st q H _ (s.ok q z) fun u h=>kb q u (fun w=>m2 (w▸z)) h,s.bagM,fun c hc=>?_,s.m0⟩,fun c u n q=>kb c u (fun z=>by rw [z,m3] at q;cases q) (s.kp c u n q),s.new,fun j d2 e'=>?_,by simp [s.len],fun q hq=>(s.pin q hq).to (fun _ _ r=>Rep.keep kk _ _ r) (fun _ _ r=>Reps.keep kk _ _ r) fun zs a2 us ed ev2 m n hh2=>⟨m,n,kb _ _ (fun y=>s.lj zs a2 (by rw [<- ed,<- ev2];exact hq) i _ _ e ev (show a2∈f.ads by rw [y];exact ha)) hh2⟩⟩ (fun _ _ q=>q) fun j d2 v2 c e' e2 m=>?_
 · by_cases z:c=a
   · rw [z];exact ⟨_,Q6⟩
   · obtain ⟨u,q⟩:=s.dom c hc;exact ⟨u,kb c u z q⟩
 · by_cases z:i=j
   · subst z
     rw [List.getElem?_set] at e'
     simp at e'
     obtain ⟨hl,rfl⟩:=e'
     exact ⟨v,ev,r⟩
   · rw [List.getElem?_set_ne z] at e'
     obtain ⟨w,e1,r1⟩:=s.env j d2 e'
     refine ⟨w,e1,?_⟩
     have na:¬ EM d2 w a:=fun y=>z (s.dj i j _ _ _ _ a e e' ev e1 ha y)
     cases d2
     case own zs =>
      obtain ⟨a2,us2,rfl,n1,n2,n3,n4,hh2,r2⟩:=r1
      exact ⟨a2,us2,rfl,n1,n2,n3,n4,kb _ _ (fun y=>na (by rw [y];rfl)) hh2,Reps.keep kk _ _ r2⟩
     case bag=>exact r1
     case frg f2 _=>exact RepX.move r1 (fun c _ m n=>⟨m,n⟩) (fun c u q h=>kb c u (fun y=>q.elim (fun n=>n (by rw [y];exact m1)) (fun n=>na (by show a∈f2.ads;rw [<- y];exact n))) h) fun c m=>.inl m
     all_goals exact Rep.keep kk _ _ r1
 · by_cases z:i=j
   · subst z
     rw [List.getElem?_set] at e'
     simp at e'
     obtain ⟨_,rfl⟩:=e'
     exact ⟨_,e,e2,hads c m⟩
   · rw [List.getElem?_set_ne z] at e'
     exact ⟨d2,e',e2,m⟩
theorem RepX.grow {W:Wd}{M M':Addr->Prop} {H H':Hp}{d:D}{v:V}(hM:∀ c,M' c->M c\/H c=none)(sub:∀ c,M c->M' c)(hb:∀ p,b=some p->M p)(kp:Kp b H H')(r:RepX W M b H d v):RepX W M' b H' d v:=by
 have kk:∀ c o,¬ M' c->H c=some o->H' c=some o:=fun c o n e=>kp c o (fun z=>n (sub c (hb c z))) e
 cases d
 case own ys =>
  obtain ⟨a,us,rfl,m1,m2,m3,m4,hha,r'⟩:=r
  exact ⟨a,us,rfl,sub a m1,m2,m3,m4,kp _ _ m2 hha,Reps.keep kk _ _ (Reps.avoid hM _ _ r')⟩
 case bag=>exact r
 case frg f _=>exact RepX.move r (fun c _ m n=>⟨sub c m,n⟩) (fun c o q e=>q.elim (fun n=>kk c o n e) fun m=>kp c o (r.1 c m).2.1 e) hM
 all_goals exact Rep.keep kk _ _ (Rep.avoid hM _ _ r)
theorem Sta.grow {W:Wd}{pn:List (D×V)}{M M':Addr->Prop} {H H':Hp}{σ:St}{ρ:Ev}(s:Sta W pn M b H σ ρ)(hM:∀ c,M' c->M c\/H c=none)(sub:∀ c,M c->M' c)(kp:Kp b H H')(ok:okB W.B b H')(dom:∀ c,M' c->∃ o,H' c=some o):Sta W pn M' b H' σ ρ:=by
 have kk:∀ c o,¬ M' c->H c=some o->H' c=some o:=fun c o n e=>kp c o (fun z=>n (sub c (s.bagM c z))) e
 refine ⟨⟨ok,fun q e=>sub q (s.bagM q e),dom,fun c m=>sub c (s.m0 c m)⟩,(s.step kp ok).kp,s.new,fun j d e=>?_,s.len,fun q hq=>(s.pin q hq).to (fun _ _ r=>Rep.keep kk _ _ (Rep.avoid hM _ _ r)) (fun _ _ r=>Reps.keep kk _ _ (Reps.avoid hM _ _ r)) fun xs a vs _ _ m n hh'=>⟨sub a m,n,kp _ _ n hh'⟩⟩
 obtain ⟨w,e1,r1⟩:=s.env j d e
 exact ⟨w,e1,r1.grow hM sub s.bagM kp⟩
def dnF (W:Wd)(d:DA):TE:=fun σ H Q=>∃ pn M b ρ P,Sta W pn M b H σ ρ/\d ρ P/\∀ xs vs p H',P xs->H p=none->H' p=some (.lst vs)->Reps W.K (fun c=>M c\/c=p) H' xs vs->Kp b H H'->okB W.B b H'->Q (.ref p) H'
structure JF (X:Cx)(W:Wd)(e:Expr)(d:DA):Prop where
 h:PE X e (dnF W d)
theorem GN {B:BagT} {H H':Hp}{p:Addr}(k:Kp b H H')(o:okB B b H')(h:H' p=none):H p=none:=by
 cases q:H p with
 | none=>rfl
 | some u =>
   by_cases z:b=some p
   · obtain ⟨w,e⟩:=B.dm p H' (o p z)
     rw [h] at e;cases e
   · have:=k p u z q
     rw [h] at this;cases this
section
variable {X:Cx}{W:Wd}{elt iter tg:Expr}{ifs:List Expr}{scope:Scope}{pos:Pos}{N':List Str}{map:List (Option Nat)}{g:TG}{gd:D->Ev->(Ev->Prop)->Prop}{di:DA}{dt:DT}{de:DE}
noncomputable def Q1o (map:List (Option Nat))(gd:D->Ev->(Ev->Prop)->Prop)(di:DA)(dt:DT)(de:DE):DA:=fun ρ P=>di ρ fun items=>items.length<=1000/\compI gd dt de (DW ρ map) items P
theorem J1m (hG:GD W g gd)(B:Blk X N' scope map tg elt ifs g (dnT W dt) (dn W de))(hi:JI X W false tg iter di)(hs:∀ x,foldedSetIterable iter X.env x=pure x:=by intro _;rfl):JF X W (.ListComp elt [⟨tg,iter,ifs,0⟩] scope pos) (Q1o map gd di dt de):=⟨(NY B hi.h hs).mono fun σ H Q hh=>by
 obtain ⟨pn,M,b,ρ,P,st,h,k⟩:=hh
 refine ⟨pn,M,b,ρ,_,st,h,fun items J need H1 hx hp hI hn k1 o1=>?_⟩
 have st1:=st.step k1 o1
 refine EI hG (st1.capt map) hp hI (fun q hq=>(hn q hq).1) hx.1 hx.2 fun ds acc H' hP r hl k2 o2 D hD=>?_
 exact k ds acc D _ hP (GN (k1.trans k2) o2 hD) Q6 (Reps.keep (fun c o _ e=>Same.upd hD c o e) _ _ (Reps.avoid (fun c z=>z.imp id fun y=>by rw [y];exact hD) _ _ r)) ((k1.trans k2).trans (Kp.upd hD)) ((st1.step k2 o2).okU hD)⟩
end
abbrev DSG:=List D->(List (List D)->Prop)->(Addr->Prop)->Prop
structure GNew (K:Fg)(M:Addr->Prop)(H H':Hp)(a:Addr)(rs:List Addr)(rows:List (List D)):Prop where
 a0:H a=none
 r0:∀ r∈rs,H r=none
 nd:(a::rs).Nodup
 ha:H' a=some (.lst (rs.map V.ref))
 hr:RowsR K (fun c=>M c\/c∈a::rs) H' rs rows
def VH (K:Fg)(B:BagT)(S:DSG):Sp:=fun vs H Q E=>∃ (M:Addr->Prop) (b:Option Addr) (ds:List D) (P:List (List D)->Prop) (Ed:Addr->Prop),S ds P Ed/\RepAs K M b H ds vs/\okB B b H/\(∀ p,b=some p->M p)/\(∀ c,M c->∃ o,H c=some o) /\
 (∀ rows a rs H',P rows->GNew K M H H' a rs rows->Kp b H H'->okB B b H'->Q (.ref a) H')/\∀ C H',Ed C->Kp b H H'->okB B b H'->E (.ref C) none H'
theorem VH.len {B:BagT}{S:DSG}{n:Nat}(h:∀ ds P Ed,S ds P Ed->ds.length=n):∀ vs H Q E,VH K B S vs H Q E->vs.length=n:=fun vs H Q E ⟨M,b,ds,P,Ed,hS,hr,_⟩=>by rw [hr.length];exact h _ _ _ hS
theorem RowsR.unbor {M M':Addr->Prop}{H:Hp}(k:∀ c,M c->M' c\/∃ o,H c=some o/\∀ vs,o≠.tup vs):∀ (rs:List Addr) (rows:List (List D)),(∀ r∈rows,EF r=true)->RowsR K M' H rs rows->RowsR K M H rs rows
 | [],_,_,h=>h
 | r::rs,rows,n,h=>by
   obtain ⟨row,rest,us,rfl,h1,h2,h3⟩:=h
   exact ⟨row,rest,us,rfl,h1,Reps.unbor k _ _ (n row (List.mem_cons_self ..)) h2,RowsR.unbor k rs rest (fun r m=>n r (List.mem_cons_of_mem _ m)) h3⟩
section
variable {X:Cx}{W:Wd}{e b c l:Expr}{p:Pos}
theorem StS.thaw {pn:List (D×V)} {b:Option Addr}{H:Hp}{σ:St}{ρ:Ev}{i:Nat}{f:Frg}{d:D}(s:StS W pn M b H σ ρ)(e:ρ[i]?=some (some (.frg f d))):StS W pn (fun c=>M c/\c∉f.ads) b H σ (ρ.set i (some d)):=by
 obtain ⟨v,e1,r⟩:=s.env i _ e
 have pd:plain d=true:=by
  have:=r.2.2
  cases d<;>first|rfl|exact this.elim
 have st:Sta W pn (fun c=>M c/\c∉f.ads) b H σ (ρ.set i none):=by
  refine Sta.avoid (M:=M) ⟨s.toHs,s.kp,s.new,fun j d' e'=>?_,by simp [s.len],s.pin⟩ (fun c m=>m.1) (fun p z=>⟨s.bagM p z,fun y=>(r.1 p y).2.1 z⟩) (fun c m=>⟨s.m0 c m,fun y=>(r.1 c y).2.2.2 m⟩) (fun j d' v' c' e' e2 mm=>?_) fun ys a' hq=>⟨by
   obtain ⟨a2,us2,ev,n1,_⟩:=(s.pin _ hq)
   cases ev;exact n1,fun y=>s.lj ys a' hq i _ _ e e1 y⟩
  · by_cases z:i=j
    · subst z;rw [List.getElem?_set] at e';simp at e'
    · rw [List.getElem?_set_ne z] at e';exact s.env j d' e'
  · by_cases z:i=j
    · subst z;rw [List.getElem?_set] at e';simp at e'
    · rw [List.getElem?_set_ne z] at e'
      obtain ⟨v3,e3,r3⟩:=s.env j _ e'
      rw [e2] at e3;cases e3
      exact ⟨(r3.mine mm).1,fun y=>z (s.dj i j _ _ _ _ c' e e' e1 e2 y mm)⟩
 have st2:=st.set (x:=d) (v:=v) i (Rep.x r.2.2)
 rw [ZJ e1,List.set_set] at st2
 refine s.of st2 fun j d' hm e'=>?_
 by_cases z:i=j
 · subst z
   rw [List.getElem?_set] at e'
   simp at e'
   rw [<- e'.2] at hm
   cases d<;>first|(cases hm;done)|(cases pd;done)
 · rw [List.getElem?_set_ne z] at e';exact ⟨e',rfl⟩
noncomputable def J2m (i:Nat)(d:DS):DS:=fun F ρ=>match ρ[i]? with|some (some (.frg _ x))=>d F (ρ.set i (some x))|_=>False
theorem XU {sts:List Stmt}{d:DS}(i:Nat)(h:JSs X W sts d):JSs X W sts (J2m i d):=⟨h.h.mono fun E σ H hh=>hh.elim fun pn M b ρ F s l q=>by
 unfold J2m at q
 split at q
 case h_2=>exact q.elim
 case h_1 f x e=>exact ⟨pn,_,b,_,F,s.thaw e,l,q⟩⟩
end
section
variable {W:Wd}{b:Expr}{p:Pos}
noncomputable def Q3m:D->D->(D->Prop)->Prop:=fun x y P=>match asL x,y with
 | some xs,.int k=>(-(2 ^ 63)<=k/\k<2 ^ 63/\xs.length*k.toNat<=1000)/\P (.lst (List.replicate k.toNat xs).flatten)
 | _,_=>False
theorem Reps.times {H:Hp}{ds:List D}{vs:List V}(h:Reps K M H ds vs):∀ n:Nat,Reps K M H (List.replicate n ds).flatten (List.replicate n vs).flatten
 | 0=>rfl
 | n+1=>by
   rw [List.replicate_succ,List.replicate_succ,List.flatten_cons,List.flatten_cons]
   exact Reps.append h (Reps.times h n)
theorem J0l:OpD W Q3a Q3m:=by
 intro M b H x y v u P Q hs rx ry ho k
 unfold Q3m at ho
 split at ho
 case h_2=>exact ho.elim
 case h_1 xs n e1 =>
  obtain ⟨a1,vs,rfl,h1,r1⟩:=asL.rep rx e1
  cases (show u=.int n from ry)
  exact ⟨a1,n,vs,rfl,rfl,h1,ho.1.1,ho.1.2.1,by rw [r1.length];exact Nat.le_trans ho.1.2.2 AT,fun p hp=>k _ _ _ ho.2 (DB hs (Reps.times r1 n.toNat) hp) (Kp.upd hp) (hs.okU hp)⟩
end
noncomputable def dF (K:Fg)(d:D):Frg where
 ads:=[]
 R:=fun M H v=>(∃ a,v=.ref a)/\Rep K M H d v
 keep:=fun M H H' v k h=>⟨h.1,Rep.keep (fun c o n e=>k c o (.inl n) e) _ _ h.2⟩
 avoid:=fun M M' H v k h=>⟨h.1,Rep.avoid k _ _ h.2⟩
 ref:=fun M H v h=>h.1
 nt:=fun M H v h c m=>by cases m
structure PNew (K:Fg)(M:Addr->Prop)(H H':Hp)(f:Frg)(d:D)(v:V):Prop where
 new:∀ c∈f.ads,H c=none
 R:f.R (fun c=>M c\/c∈f.ads) H' v
 rep:Rep K M H' d v
abbrev Q5b:=List D->(Frg->D->Om)->Om
def RG (K:Fg)(B:BagT)(S:Q5b):Sp:=fun vs H Q E=>∃ (M:Addr->Prop) (b:Option Addr) (ds:List D) (P:Frg->D->Om),S ds P (cnt b H)/\RepAs K M b H ds vs/\okB B b H/\(∀ p,b=some p->M p)/\(∀ c,M c->∃ o,H c=some o) /\
 (∀ f d v H',P f d (cnt b H')->PNew K M H H' f d v->Kp b H H'->okB B b H'->Q v H')
theorem RG.len {B:BagT}{S:Q5b}{m:Nat}(h:∀ ds P n,S ds P n->ds.length=m):∀ vs H Q E,RG K B S vs H Q E->vs.length=m:=fun vs H Q E ⟨M,b,ds,P,hS,hr,_⟩=>by rw [hr.length];exact h _ _ _ hS
def HR:PyData->Option (List PyData)
 | .list ps=>some ps
 | .tuple ps=>some ps
 | _=>none
noncomputable def J8u (K:Fg)(neg:Bool):R2:=fun x y H Q=>∃ M dx dy p q ps,YO K M H dx x/\YO K M H dy y/\V6 dx=some p/\V6 dy=some q/\HR q=some ps/\min (PyData.depthAll ps) p.depth<=60/\Q (.bl ((ps.any fun y=>PyData.eqv y p)!=neg)) H
theorem J1a {ps:List PyData}{q:PyData}(h:q.canLay0=true)(e:HR q=some ps):PyData.canLayAll0 ps=true:=by
 cases q<;>simp [HR] at e
 all_goals
  subst e
  unfold PyData.canLay0 at h
  exact h
theorem J9f {X:Cx}(K:Fg)(hK:X.K=K)(hu:X.A.units+64<cLine):OpR X (compareOp .In) (J8u K false):=by
 subst hK
 intro pins s σ H x y v u Q I rx ry h
 obtain ⟨M,dx,dy,p,q,ps,r1,r2,e1,e2,e3,hd,hq⟩:=h
 obtain ⟨as,a1⟩:=AL I r1 rx e1
 obtain ⟨bs,a2⟩:=AL I r2 ry e2
 have l2:=J1a (V6.lay _ _ e2) e3
 cases q<;>simp [HR] at e3
 case list qs=>subst e3;exact SeqAt.in_list_reads a2 a1 l2 (V6.lay _ _ e1) (by omega) ⟨.bl _,H,I,rfl,by simpa using hq⟩
 case tuple qs=>subst e3;exact SeqAt.in_tuple_reads a2 a1 l2 (V6.lay _ _ e1) (by omega) ⟨.bl _,H,I,rfl,by simpa using hq⟩
theorem HK {X:Cx}(K:Fg)(hK:X.K=K)(hu:X.A.units+64<cLine):OpR X (compareOp .NotIn) (J8u K true):=by
 subst hK
 intro pins s σ H x y v u Q I rx ry h
 obtain ⟨M,dx,dy,p,q,ps,r1,r2,e1,e2,e3,hd,hq⟩:=h
 obtain ⟨as,a1⟩:=AL I r1 rx e1
 obtain ⟨bs,a2⟩:=AL I r2 ry e2
 have l2:=J1a (V6.lay _ _ e2) e3
 cases q<;>simp [HR] at e3
 case list qs=>subst e3;exact SeqAt.notIn_list_reads a2 a1 l2 (V6.lay _ _ e1) (by omega) ⟨.bl _,H,I,rfl,by simpa using hq⟩
 case tuple qs=>subst e3;exact SeqAt.notIn_tuple_reads a2 a1 l2 (V6.lay _ _ e1) (by omega) ⟨.bl _,H,I,rfl,by simpa using hq⟩
inductive InG (neg:Bool)(x y:D)(P:D->Prop):Prop
 | mk (p q:PyData) (ps:List PyData) (e1:V6 x=some p) (e2:V6 y=some q) (e3:HR q=some ps) (hd:min (PyData.depthAll ps) p.depth<=60) (h:P (.bl ((ps.any fun y=>PyData.eqv y p)!=neg))):InG neg x y P
noncomputable def Q5q (neg:Bool):D->D->(D->Prop)->Prop:=fun x y P=>InG neg x y P
theorem OF {W:Wd}{neg:Bool}:OpD W (J8u W.K neg) (Q5q neg):=by
 intro M b H x y v u P Q hs rx ry ho k
 obtain ⟨p,q,ps,e1,e2,e3,hd,hp⟩:=ho
 exact ⟨M,x,y,p,q,ps,rx.g e1,ry.g e2,e1,e2,e3,hd,k _ _ H hp (show _=_ from rfl) (Kp.refl _ _) hs.ok⟩
theorem KY (ns:List Int)(n:Int):((ns.map PyData.int).any fun y=>PyData.eqv y (.int n))=decide (n∈ns):=by
 induction ns with
 | nil=>rfl
 | cons m ns ih =>
   rw [List.map_cons,List.any_cons,ih]
   have:PyData.eqv (.int m) (.int n)=decide (m=n):=by simp only [PyData.eqv];rfl
   rw [this]
   by_cases z:m=n
   · simp [z]
   · have:¬ n=m:=fun y=>z y.symm
     simp [z,this]
theorem DP:∀ ns:List Int,BA (ns.map D.int)=some (ns.map PyData.int)
 | []=>rfl
 | n::ns=>by rw [List.map_cons];unfold BA;rw [DP ns];rfl
theorem KI {neg:Bool}{n:Int}{ns:List Int}{y:D}{P:D->Prop}(e:y=.tup (ns.map D.int)\/y=.lst (ns.map D.int)\/y=.own (ns.map D.int))(h:P (.bl (decide (n∈ns)!=neg))):InG neg (.int n) y P:=by
 have hd:min (PyData.depthAll (ns.map PyData.int)) (PyData.int n).depth<=60:=Nat.le_trans (Nat.min_le_right _ _) (by show 0<=60;omega)
 rcases e with rfl|rfl|rfl
 · exact ⟨.int n,.tuple (ns.map .int),ns.map .int,rfl,by unfold V6;rw [DP];rfl,rfl,hd,by rw [KY];exact h⟩
 · exact ⟨.int n,.list (ns.map .int),ns.map .int,rfl,by unfold V6;rw [DP];rfl,rfl,hd,by rw [KY];exact h⟩
 · exact ⟨.int n,.list (ns.map .int),ns.map .int,rfl,by unfold V6;rw [DP];rfl,rfl,hd,by rw [KY];exact h⟩
structure Pc where
 (a:Addr) (f:Frg) (d:D)
abbrev Pc.g (p:Pc):D:=.frg p.f p.d
def Pc.at (p:Pc):Prop:=∀ M H v,p.f.R M H v->v=.ref p.a
structure RepP (K:Fg)(M:Addr->Prop)(b:Option Addr)(H:Hp)(p:Pc):Prop where
 at':p.at
 ow:∀ c∈p.f.ads,M c/\b≠some c
 r:p.f.R M H (.ref p.a)
 d:Rep K (fun c=>M c/\c∉p.f.ads) H p.d (.ref p.a)
def Q4w (ps:List Pc):List Addr:=ps.flatMap fun p=>p.f.ads
def J0z (ps ps':List Pc):Prop:=ps'.map (fun p=>(p.a,p.f.ads))=ps.map fun p=>(p.a,p.f.ads)
theorem J0z.get {ps ps':List Pc}{i:Nat}{p':Pc}(h:J0z ps ps')(e:ps'[i]?=some p'):∃ p,ps[i]?=some p/\p'.a=p.a/\p'.f.ads=p.f.ads:=by
 have q:=congrArg (fun l=>l[i]?) h
 simp only [List.getElem?_map,e,Option.map_some] at q
 obtain ⟨p,e1,e2⟩:=Option.map_eq_some_iff.mp q.symm
 simp only [Prod.mk.injEq] at e2
 exact ⟨p,e1,e2.1.symm,e2.2.symm⟩
def Q4d (ps:List Pc):Prop:=∀ (i j:Nat) p q c,ps[i]?=some p->ps[j]?=some q->c∈p.f.ads->c∈q.f.ads->i=j
def KpA (A:List Addr)(b:Option Addr)(H H':Hp):Prop:=∀ c o,c∉A->b≠some c->H c=some o->H' c=some o
abbrev DSU:=List Pc->List D->(List Pc->D->Prop)->Prop
def VF (K:Fg)(B:BagT)(S:DSU):Sp:=fun vs H Q E=>∃ (M:Addr->Prop) (b:Option Addr) (ps:List Pc) (ds:List D) (P:List Pc->D->Prop) (dvs:List V),vs=ps.map (fun p=>.ref p.a)++dvs/\S ps ds P/\(∀ p∈ps,RepP K M b H p)/\Q4d ps/\RepAs K M b H ds dvs/\okB B b H/\(∀ p,b=some p->M p)/\(∀ c,M c->∃ o,H c=some o) /\
 ∀ ps' r v H',P ps' r->J0z ps ps'->(∀ p∈ps',RepP K M b H' p)->Rep K M H' r v->KpA (Q4w ps) b H H'->okB B b H'->Q v H'
theorem VF.len {B:BagT}{S:DSU}{n:Nat}(h:∀ ps ds P,S ps ds P->ps.length+ds.length=n):∀ vs H Q E,VF K B S vs H Q E->vs.length=n:=fun vs H Q E ⟨M,b,ps,ds,P,dvs,e,hS,_,_,hr,_⟩=>by
 rw [e,List.length_append,List.length_map,hr.length];exact h _ _ _ hS
section
variable {W:Wd}{pn:List (D×V)}{M:Addr->Prop}{b:Option Addr}{H:Hp}{σ:St}{ρ:Ev}{js:List Nat}{ps:List Pc}
def J7m (js:List Nat)(ps:List Pc)(ρ:Ev):Prop:=js.length=ps.length/\∀ (k:Nat) p,ps[k]?=some p->p.at/\∃ j,js[k]?=some j/\ρ[j]?=some (some p.g)
theorem J7m.ads (s:StS W pn M b H σ ρ)(h:J7m js ps ρ){c:Addr}(m:c∈Q4w ps):∃ (k j:Nat) (p:Pc),ps[k]?=some p/\js[k]?=some j/\ρ[j]?=some (some p.g)/\c∈p.f.ads/\σ[j]?=some (some (.ref p.a))/\RepX W M b H p.g (.ref p.a):=by
 obtain ⟨p,mp,mc⟩:=List.mem_flatMap.mp m
 obtain ⟨k,ek⟩:=List.getElem?_of_mem mp
 obtain ⟨pa,j,ej,er⟩:=h.2 k p ek
 obtain ⟨v,ev,r⟩:=s.env j _ er
 have hv:=pa _ _ _ r.2.1
 subst hv
 exact ⟨k,j,p,ek,ej,er,mc,ev,r⟩
end
def Q5x (K:Fg)(a:Addr)(t:Tg)(ks:List (List Int))(xs:List D)(M:Addr->Prop)(H:Hp)(v:V):Prop:=v=.ref a/\∃ vs:List V,H a=some (DOb a t.1 t.2)/\DctE K M H t.1 ks vs/\Reps K M H xs vs
def Q4i (K:Fg)(a:Addr)(t:Tg)(ks:List (List Int))(xs:List D):Frg where
 ads:=[a]
 R:=Q5x K a t ks xs
 keep:=fun M H H' v k ⟨e,vs,h,hE,r⟩=>⟨e,vs,k a _ (.inr (List.mem_cons_self ..)) h,hE.keep fun c o n q=>k c o (.inl n) q,Reps.keep (fun c o n q=>k c o (.inl n) q) _ _ r⟩
 avoid:=fun M M' H v k ⟨e,vs,h,hE,r⟩=>⟨e,vs,h,hE.avoid k,Reps.avoid k _ _ r⟩
 ref:=fun M H v h=>⟨a,h.1⟩
 nt:=fun M H v ⟨e,vs,h,hE,r⟩ c m=>by
  rw [List.mem_singleton.mp m]
  exact ⟨_,h,fun vs z=>by cases z⟩
abbrev dcg (K:Fg)(a:Addr)(t:Tg)(ks:List (List Int))(xs:List D):D:=.frg (Q4i K a t ks xs) (.dct t ks xs)
section
variable {W:Wd}{M:Addr->Prop}{b:Option Addr}{H:Hp}{a:Addr}{ks:List (List Int)}{xs:List D}{t:Tg}{vs:List V}
theorem VZ (ow:M a/\b≠some a/\W.H0 a=none/\¬ W.M0 a)(h:H a=some (DOb a t.1 t.2))(hE:DctE W.K M H t.1 ks vs)(r:Reps W.K M H xs vs):RepX W M b H (dcg W.K a t ks xs) (.ref a) :=
 ⟨fun c m=>by rw [List.mem_singleton.mp m];exact ow,⟨rfl,vs,h,hE,r⟩,a,vs,rfl,⟨fun z=>z.2 (List.mem_cons_self ..),h,hE.avoid fun c m=>.inl m.1⟩,Reps.avoid (fun c m=>.inl m.1) _ _ r⟩
theorem UE {v:V}(r:RepX W M b H (dcg W.K a t ks xs) v):v=.ref a/\(M a/\b≠some a/\W.H0 a=none/\¬ W.M0 a)/\∃ vs,H a=some (DOb a t.1 t.2)/\DctE W.K M H t.1 ks vs/\Reps W.K M H xs vs:=by
 obtain ⟨ow,⟨e,q⟩,_⟩:=r
 exact ⟨e,ow a (List.mem_cons_self ..),q⟩
def asD (K:Fg)(d:D)(t:Tg)(ks:List (List Int))(xs:List D):Prop:=d=.dct t ks xs\/∃ a,d=dcg K a t ks xs
theorem asD.rep {d:D}{v:V}(h:asD W.K d t ks xs)(r:RepX W M b H d v):∃ a vs,v=.ref a/\H a=some (DOb a t.1 t.2)/\DctE W.K M H t.1 ks vs/\Reps W.K M H xs vs:=by
 rcases h with rfl|⟨a,rfl⟩
 · obtain ⟨a,vs,e,⟨_,h,hE⟩,rr⟩:=r
   exact ⟨a,vs,e,h,hE,rr⟩
 · obtain ⟨e,_,vs,h,hE,rr⟩:=UE r
   exact ⟨a,vs,e,h,hE,rr⟩
end
def HI:List (List Int)->List D->List Int->D->List D
 | k::ks,x::xs,n,z=>(if k=n then z else x)::HI ks xs n z
 | _,xs,_,_=>xs
def DQ (ks:List (List Int))(xs:List D)(n:List Int)(z:D):List (List Int)×List D:=if n∈ks then (ks,HI ks xs n z) else (ks++[n],xs++[z])
theorem QQ {n:List Int}{z:D}:∀ (ks:List (List Int)) (xs:List D),(HI ks xs n z).length=xs.length
 | [],xs=>by unfold HI;rfl
 | k::ks,[]=>by unfold HI;rfl
 | k::ks,x::xs=>by unfold HI;simp [QQ ks xs]
theorem ZS {n:List Int}{z:D}(ks:List (List Int))(xs:List D)(h:ks.length=xs.length):(DQ ks xs n z).1.length=(DQ ks xs n z).2.length:=by
 unfold DQ
 split
 · rw [QQ];exact h
 · simp [h]
theorem MH {n:List Int}{z:D}(ks:List (List Int))(xs:List D):(DQ ks xs n z).1=if n∈ks then ks else ks++[n]:=by
 unfold DQ
 split<;>rfl
theorem SW {n:List Int}{z:D}{ks:List (List Int)}{xs:List D}(h:ks.Nodup):(DQ ks xs n z).1.Nodup:=by
 rw [MH]
 split
 · exact h
 · rename_i q
   exact List.nodup_append.mpr ⟨h,List.nodup_cons.mpr ⟨(fun m=>by cases m),List.nodup_nil⟩,fun a ha b hb e=>q (by rw [List.mem_singleton.mp hb] at e;rw [<- e];exact ha)⟩
theorem MX {m n:List Int}{z:D}:∀ {ks:List (List Int)} {xs:List D},ks.length=xs.length->n∉ks->AN (ks++[n]) (xs++[z]) m=if n=m then some z else AN ks xs m
 | [],[],_,_=>by simp [AN]
 | [],_::_,h,_=>by simp at h
 | _::_,[],h,_=>by simp at h
 | k::ks,x::xs,h,nm=>by
   rw [List.mem_cons,not_or] at nm
   have ih:=MX (m:=m) (z:=z) (ks:=ks) (xs:=xs) (by simpa using h) nm.2
   rw [List.cons_append,List.cons_append]
   unfold AN
   rw [ih]
   by_cases e:k=m
   · have:¬ n=m:=fun y=>nm.1 (by rw [y,e])
     simp [e,this]
   · simp [e]
theorem KP {m n:List Int}{z:D}:∀ {ks:List (List Int)} {xs:List D},ks.length=xs.length->AN ks (HI ks xs n z) m=if n=m/\n∈ks then some z else AN ks xs m
 | [],[],_=>by simp [AN,HI]
 | [],_::_,h=>by simp at h
 | _::_,[],h=>by simp at h
 | k::ks,x::xs,h=>by
   have ih:=KP (m:=m) (n:=n) (z:=z) (ks:=ks) (xs:=xs) (by simpa using h)
   unfold HI AN
   rw [ih]
   by_cases e:k=m
   · subst e
     by_cases y:k=n
     · subst y;simp
     · have y2:¬ n=k:=fun q=>y q.symm
       simp [y,y2]
   · rw [if_neg e,if_neg e]
     by_cases y:n=m
     · subst y
       have:¬ n=k:=fun q=>e q.symm
       simp [this]
     · simp [y]
theorem XA {n m:List Int}{z:D}(ks:List (List Int))(xs:List D)(h:ks.length=xs.length):AN (DQ ks xs n z).1 (DQ ks xs n z).2 m=if n=m then some z else AN ks xs m:=by
 unfold DQ
 by_cases q:n∈ks
 · rw [if_pos q]
   show AN ks (HI ks xs n z) m=_
   rw [KP h]
   by_cases e:n=m
   · simp [e,e▸q]
   · simp [e]
 · rw [if_neg q]
   exact MX h q
section
variable {K:Fg}{M:Addr->Prop}{H:Hp}{n:List Int}{z:D}{v:V}{u:Value}{b:Addr}
theorem HY:∀ {es:Ens},(atKey es n).isSome=true↔n∈es.map (·.1)
 | []=>by simp [atKey]
 | e::es=>by
   rw [KW,List.map_cons,List.mem_cons]
   by_cases q:e.1=n
   · simp [q]
   · rw [if_neg q,HY]
     exact ⟨.inr,fun y=>y.elim (fun w=>absurd w.symm q) id⟩
theorem QU:∀ (es:Ens),(es.map (putAt n u)).map (·.1)=es.map (·.1)
 | []=>rfl
 | e::es=>by
   rw [List.map_cons,List.map_cons,List.map_cons,QU es]
   congr 1
   unfold putAt
   split<;>rfl
theorem UY:∀ (es:Ens),(es.map (putAt n u)).map (fun e=>(e.1,e.2.1))=es.map fun e=>(e.1,e.2.1)
 | []=>rfl
 | e::es=>by
   rw [List.map_cons,List.map_cons,List.map_cons,UY es]
   congr 1
   unfold putAt
   split<;>rfl
theorem QT (rv:RelV v u)(rz:Rep K M H z v):∀ {es:Ens} {vs:List V} {xs:List D},Vals vs (es.map (·.2.2))->Reps K M H xs vs->∃ vs',Vals vs' ((es.map (putAt n u)).map (·.2.2))/\Reps K M H (HI (es.map (·.1)) xs n z) vs'
 | [],vs,xs,hv,r=>by
   cases hv
   rw [List.map_nil]
   unfold HI
   exact ⟨[],.nil,r⟩
 | e::es,vs,[],hv,r=>by
   rw [show vs=[] from r] at hv
   cases hv
 | e::es,_,x::xs,hv,r=>by
   obtain ⟨v0,vs,rfl,rx,rr⟩:=r
   rw [List.map_cons] at hv
   cases hv with
   | cons h1 h2 =>
   obtain ⟨vs',i1,i2⟩:=QT rv rz h2 rr
   rw [List.map_cons,List.map_cons,List.map_cons]
   unfold HI
   by_cases q:e.1=n
   · refine ⟨v::vs',.cons ?_ i1,v,vs',rfl,?_,i2⟩
     · unfold putAt;rw [if_pos q];exact rv
     · rw [if_pos q];exact rz
   · refine ⟨v0::vs',.cons ?_ i1,v0,vs',rfl,?_,i2⟩
     · unfold putAt;rw [if_neg q];exact h1
     · rw [if_neg q];exact rx
theorem J4o {es:Ens}{ks:List (List Int)}{vs:List V}{xs:List D}(hb:TpA K M H b (n.map V.int))(rv:RelV v u)(rz:Rep K M H z v)(hE:DctE K M H es ks vs)(r:Reps K M H xs vs):∃ vs',DctE K M H (storedH es n b u) (DQ ks xs n z).1 vs'/\Reps K M H (DQ ks xs n z).2 vs':=by
 obtain ⟨e1,e2,e3⟩:=hE
 subst e1
 unfold storedH DQ
 by_cases q:n∈es.map (·.1)
 · rw [if_pos (HY.mpr q),if_pos q]
   obtain ⟨vs',i1,i2⟩:=QT (n:=n) rv rz e3 r
   refine ⟨vs',⟨QU es,fun e m=>?_,i1⟩,i2⟩
   have:(e.1,e.2.1)∈es.map fun e=>(e.1,e.2.1):=by rw [<- UY (n:=n) (u:=u) es];exact List.mem_map.mpr ⟨e,m,rfl⟩
   obtain ⟨e',m',q'⟩:=List.mem_map.mp this
   have h:=e2 e' m'
   injection q' with q1 q2
   rw [q1,q2] at h
   exact h
 · rw [if_neg (fun y=>q (HY.mp y)),if_neg q]
   refine ⟨vs++[v],⟨by simp,fun e m=>?_,?_⟩,Reps.append r ⟨v,[],rfl,rz,rfl⟩⟩
   · rcases List.mem_append.mp m with y|y
     · exact e2 e y
     · rw [List.mem_singleton.mp y];exact hb
   · rw [List.map_append]
     exact Paired.snoc e3 rv
end
section
variable {X:Cx}{W:Wd}{pos:Pos}
noncomputable def Q1e (K:Fg)(i:Nat):DS:=fun F ρ=>∀ a t,F.nx (ρ.set i (some (dcg K a t [] [])))
theorem XV {i:Nat}{y:Str}{py dpos:Pos}(hN:X.N.Nodup)(hiN:X.N[i]?=some y)(hy:Loc X.env.scope y)
 (hs:swapsWith (.Dict [] [] dpos) (some (.Name y py)) pos.line X.env=pure false:=by rfl) (hf:X.fn y=true\/X.env.scope.names.lookup y=some .local:=by first|exact .inl rfl|exact .inr rfl|assumption) :
 JS X W (.Assign [.Name y py] (.Dict [] [] dpos) pos) (Q1e W.K i):=⟨(BX hN hiN hy J4z hs hf).mono fun E σ H hh=>hh.elim fun pn M b ρ F s l h=>by
 intro p hp
 have ok:=s.toHs.okU (o:=DOb p [] 0) hp
 have t:Sta W pn (fun c=>M c\/c=p) b (upd H p (DOb p [] 0)) σ ρ:=s.toSta.grow (fun c z=>z.imp id fun y=>by rw [y];exact hp) (fun c z=>.inl z) (Kp.upd hp) ok fun c z=>z.elim ((s.toSta.step (Kp.upd hp) ok).dom c) fun y=>by rw [y];exact ⟨_,Q6⟩
 refine l.nx _ _ _ _ _ (s.add i (t.set (x:=dcg W.K p ([],0) [] []) (v:=.ref p) i (VZ ⟨.inr rfl,fun z=>?_,s.toSta.fresh0 hp⟩ Q6 ⟨rfl,(fun _ m=>by cases m),.nil⟩ rfl)) fun c m=>?_) (h p ([],0))
 · obtain ⟨o,e⟩:=W.B.dm p H (s.ok p z)
   rw [hp] at e;cases e
 · have:c=p:=List.mem_singleton.mp m
   rw [this];exact s.toHs.new hp⟩
noncomputable def Q4m (K:Fg)(i:Nat)(de dk:DE):DS:=fun F ρ=>∃ (a:Addr) (t:Tg) (ks:List (List Int)) (xs:List D),ρ[i]?=some (some (dcg K a t ks xs))/\de ρ fun z=>plain z=true/\dk ρ fun y=>∃ ns:List Int,y=.tup (ns.map D.int)/\ks.length<1000/\∀ t',F.nx (ρ.set i (some (dcg K a t' (DQ ks xs ns z).1 (DQ ks xs ns z).2)))
theorem J1f {i:Nat}{tg e:Expr}{de dk:DE}(hK:X.K=W.K)(he:JE X W e de)(hg:PG X tg (Q3w (SO i) (dn W dk) (J7e X.K)))(hs:swapsWithSole [tg] e pos.line X.env=pure false:=by rfl)(hw:swappedStores [tg] e X.env=pure none:=by rfl)
 (h1:(assignEach [tg] X.env).map (·.2)=[assign tg X.env]:=by rfl):JS X W (.Assign [tg] e pos) (Q4m W.K i de dk):=⟨(NV he.h hg hs hw h1).mono fun E σ H hh=>hh.elim fun pn M b ρ F s l q=>by
 rw [hK]
 obtain ⟨a,t,ks,xs,e1,q⟩:=q
 obtain ⟨v0,ev,rg⟩:=s.env i _ e1
 obtain ⟨rfl,_,_⟩:=UE rg
 refine ⟨pn,M,b,ρ,_,s.toSta,q,fun z v H1 hz rz k1 o1=>?_⟩
 have s1:=s.step k1 o1
 refine ⟨.ref a,ev,pn,M,b,ρ,_,s1.toSta,hz.2,fun y u H2 hy ry k2 o2=>?_⟩
 obtain ⟨ns,rfl,hl,hnx⟩:=hy
 have s2:=s1.step k2 o2
 obtain ⟨v2,ev2,rg2⟩:=s2.env i _ e1
 obtain ⟨rfl,ow,vs,hd,hE,rr⟩:=UE rg2
 obtain ⟨bk,us,rfl,hb,rks⟩:=(show Rep W.K M H2 (.tup (ns.map D.int)) u from ry)
 cases rks.ints
 have hes:t.1.length=ks.length:=by rw [<- hE.1];simp
 refine ⟨a,bk,t.1,t.2,ns,rfl,rfl,hd,hE.keys,hb.sq,by rw [hes];exact Nat.lt_of_lt_of_le hl AT,fun uu ep' ru=>?_⟩
 have rz2:=((rz.step s.bagM k2).rep hz.1)
 obtain ⟨vs',hE',rr'⟩:=J4o (n:=ns) hb ru rz2 hE rr
 have kk:∀ c o,¬ M c->H2 c=some o->upd H2 a (DOb a (storedH t.1 ns bk uu) ep') c=some o:=fun c o n q=>by rw [Q3 (fun z=>n (by rw [z];exact ow.1))];exact q
 exact l.nx _ _ _ _ _ (s2.setFrg (f':=Q4i W.K a (storedH t.1 ns bk uu,ep') (DQ ks xs ns z).1 (DQ ks xs ns z).2) (d':=.dct (storedH t.1 ns bk uu,ep') (DQ ks xs ns z).1 (DQ ks xs ns z).2) i e1 ev2 (List.mem_cons_self ..) (fun c m=>m) (VZ ow Q6 (hE'.keep kk) (Reps.keep kk _ _ rr'))) (hnx _)⟩
end
def RawD (h:Heap)(d:Addr)(ds:Array DictEntry)(ep:Nat):Prop:=∃ o:Obj,h.get? d=some o/\o.ExactDict/\o.data=.dict ds ep
theorem RawD.ty {s:Shared}{d:Addr}{ds:Array DictEntry}{ep:Nat}(x:RawD s.heap d ds ep):s.TypeIs (.ref d) "dict":=let ⟨o,ho,hc,_⟩:=x;⟨o,ho,hc.1⟩
section
variable {prog:Program}{w:World}{A:Around}{E:Value->Shared->Prop}{s:Shared}{d it:Addr}{ds:Array DictEntry}{ep i:Nat}
theorem YB {Q:Value->Shared->Prop}(hd:(d==sysModules)=false)(x:RawD s.heap d ds ep)
 (hQ:Q (.ref s.heap.objs.size) { s with heap:=s.heap.push { cls:=.type "dict_keyiterator",data:=.fields #[.ref d,.int 0 0,.int ds.size 0,.int ep 0] } }):wpAny (model prog w) A (pyIter (.ref d)) Q E s:=by
 have hT:=x.ty
 obtain ⟨o,ho,hc,hdat⟩:=x
 refine wpAny_pyIter_slot hT PySem.F.slot_dict_iter (wpAny_call_entry PySem.F.slot_dict_iter hT PySem.F.entry_dict_iter ?_ (PySem.F.args_dict_iter_1 _))
 unfold Builtin.«dict.__iter__»
 refine wpAny_bind ?_
 unfold Builtin.Dict.dictSlotNone
 refine wpAny_bind (wpAny_notOrdered_dict hT ?_)
 show wpAny _ _ (pure (Value.ref d)) _ _ s
 refine wpAny_pure ?_
 show wpAny _ _ (Builtin.Dict.showsAll d >>= _) _ _ s
 unfold Builtin.Dict.showsAll
 rw [if_neg (show ¬ ((d==sysModules)=true) by rw [hd];exact Bool.false_ne_true)]
 refine wpAny_bind (wpAny_pure (wpAny_bind (wpAny_dictEntries ho hdat (wpAny_bind (wpAny_dictEpoch ho hdat ?_)))))
 refine wpAny_bind (wpAny_newObj_type (wpAny_pure ⟨_,rfl,"dict_keyiterator",_,⟨_,Heap.get?_push_size _ rfl,rfl⟩,PySem.F.slot_dict_keyiterator_next.lookup,?_⟩))
 simpa [rawInt] using hQ
theorem XM {e:DictEntry}{Q:Option Value->Shared->Prop}(hit:s.heap.IsKeyIter it d i ds.size ep)(x:RawD s.heap d ds ep)(hx:ds[i]?=some e)
 (hQ:∀ h',h'.IsKeyIter it d (i+1) ds.size ep->Heap.SameBut it s.heap h'->Q (some e.key) { s with heap:=h' }):wpAny (model prog w) A (pyNext (.ref it)) Q E s:=by
 obtain ⟨o,ho,hc,hd⟩:=id hit
 obtain ⟨od,hod,hcd,hdd⟩:=x
 unfold pyNext
 refine wpAny_bind (wpAny_attempt (wpAny_callSpecial?_slot (name:=Str.ofString "__next__") hit.typeIs PySem.F.slot_dict_keyiterator_next (wpAny_call_entry PySem.F.slot_dict_keyiterator_next hit.typeIs PySem.F.entry_dict_keyiterator_next ?_ (PySem.F.args_dict_keyiterator_next_1 _))))
 refine wpAny_bind (wpAny_pure ?_);refine wpAny_bind ?_;refine wpAny_bind ?_
 first|refine wpAny_bind (wpAny_typeNameOfWhole_keyiter hit.typeIs (wpAny_pure (wpAny_bind (wpAny_fieldsOf ho hd ?_))))|refine wpAny_bind (wpAny_typeNameOf_keyiter hit.typeIs (wpAny_pure (wpAny_bind (wpAny_fieldsOf ho hd ?_))))
 simp only [show Builtin.Dict_items.ownsTuple "dict_keyiterator" = false from by decide,Bool.false_eq_true,if_false]
 show wpAny _ _ (if (Value.ref d==Value.none)=true then _ else _) _ _ s
 rw [if_neg (show ¬ ((Value.ref d==Value.none)=true) from fun z=>nomatch z)]
 refine wpAny_bind (wpAny_pure (wpAny_bind (wpAny_dictEntries hod hdd ?_)))
 rw [if_neg (show ¬ _ by simp)]
 refine wpAny_bind (wpAny_pure (wpAny_bind (wpAny_dictEpoch hod hdd ?_)))
 rw [if_neg (show ¬ _ by simp)];refine wpAny_pure ?_
 simp only [show ¬ ((i:Int)<0) from (by omega),if_false,Int.toNat_natCast,hx]
 refine wpAny_bind ?_
 first|refine wpAny_bind (wpAny_typeNameOfWhole_keyiter hit.typeIs (wpAny_pure (wpAny_bind (wpAny_isOneOf_keyiter hit.typeIs ?_))))|refine wpAny_bind (wpAny_typeNameOf_keyiter hit.typeIs (wpAny_pure (wpAny_bind (wpAny_isOneOf_keyiter hit.typeIs ?_))))
 show wpAny _ _ (setField (.ref it) 1 (rawInt ((i:Int)+1)) >>= _) _ _ s;refine wpAny_bind (wpAny_setField ho hd (by simp) ?_)
 have hit':(s.heap.update it (Obj.mapFields (·.setIfInBounds 1 (rawInt ((i:Int)+1))))).IsKeyIter it d (i+1) ds.size ep:=⟨_,Heap.get?_update_self _ ho (Obj.isFreed_of_fields (Obj.data_mapFields hd _)),(Obj.cls_mapFields ..).trans hc,by rw [Obj.data_mapFields hd];simp [rawInt]⟩
 refine wpAny_bind (wpAny_holding (wpAny_bind (wpAny_isOneOf_keyiter (s:={ s with heap:=s.heap.update it (Obj.mapFields (·.setIfInBounds 1 (rawInt ((i:Int)+1)))) }) hit'.typeIs ?_)))
 show wpAny _ _ (pure e.key) _ _ _;exact wpAny_pure (wpAny_pure ⟨_,rfl,wpAny_pure (hQ _ hit' (Heap.SameBut.update ..))⟩)
theorem J2e {Q:Option Value->Shared->Prop}(hh:A.handled=none)(hit:s.heap.IsKeyIter it d i ds.size ep)(x:RawD s.heap d ds ep)(hx:ds.size<=i)
 (hQ:∀ h',Heap.ExtBut it s.heap h'->Q none { s with heap:=h' }):wpAny (model prog w) A (pyNext (.ref it)) Q E s:=by
 obtain ⟨o,ho,hc,hd⟩:=id hit
 obtain ⟨od,hod,hcd,hdd⟩:=x
 unfold pyNext
 refine wpAny_bind (wpAny_attempt (wpAny_callSpecial?_slot (name:=Str.ofString "__next__") hit.typeIs PySem.F.slot_dict_keyiterator_next (wpAny_call_entry PySem.F.slot_dict_keyiterator_next hit.typeIs PySem.F.entry_dict_keyiterator_next ?_ (PySem.F.args_dict_keyiterator_next_1 _))))
 refine wpAny_bind (wpAny_pure ?_);refine wpAny_bind ?_;refine wpAny_bind ?_
 first|refine wpAny_bind (wpAny_typeNameOfWhole_keyiter hit.typeIs (wpAny_pure (wpAny_bind (wpAny_fieldsOf ho hd ?_))))|refine wpAny_bind (wpAny_typeNameOf_keyiter hit.typeIs (wpAny_pure (wpAny_bind (wpAny_fieldsOf ho hd ?_))))
 simp only [show Builtin.Dict_items.ownsTuple "dict_keyiterator" = false from by decide,Bool.false_eq_true,if_false]
 show wpAny _ _ (if (Value.ref d==Value.none)=true then _ else _) _ _ s
 rw [if_neg (show ¬ ((Value.ref d==Value.none)=true) from fun z=>nomatch z)]
 refine wpAny_bind (wpAny_pure (wpAny_bind (wpAny_dictEntries hod hdd ?_)))
 rw [if_neg (show ¬ _ by simp)]
 refine wpAny_bind (wpAny_pure (wpAny_bind (wpAny_dictEpoch hod hdd ?_)))
 rw [if_neg (show ¬ _ by simp)];refine wpAny_pure ?_
 simp only [show ¬ ((i:Int)<0) from (by omega),if_false,Int.toNat_natCast,Array.getElem?_eq_none hx]
 refine wpAny_bind ?_
 first|refine wpAny_bind (wpAny_typeNameOfWhole_keyiter hit.typeIs (wpAny_pure ?_))|refine wpAny_bind (wpAny_typeNameOf_keyiter hit.typeIs (wpAny_pure ?_))
 show wpAny _ _ (setField (.ref it) 0 .none >>= _) _ _ s;refine wpAny_bind (wpAny_setField ho hd (by simp) ?_)
 show wpAny _ _ (newExc (.type "StopIteration") [] >>= _) _ _ _;refine wpAny_bind ?_
 simp only [newExc,newTuple];refine wpAny_bind (wpAny_newObj_type ?_ (by size_fits))
 refine wpAny_bind (m:=firstArgMember _ _) (wpAny_of_eq (a:=Value.none) (by first|rfl|(simp only [firstArgMember];rfl)) (wpAny_newObj_type ?_ (by size_fits)))
 simp only [raiseNew];refine wpAny_bind (wpAny_handled ?_)
 rw [show A.in1.handled=none from hh];refine wpAny_bind (wpAny_pure (wpAny_throw ?_))
 refine wpAny_bind (wpAny_isInstance (T:="StopIteration") (b:=true) ⟨_,Heap.get?_push_size _ rfl,rfl⟩ isSubtype_stop (wpAny_pure (hQ _ (((Heap.SameBut.update ..).extBut.push _).push _))))
end
def Idk (a:Addr)(es:Ens)(ep:Nat):It :=
 ⟨fun i H=>H a=some (DOb a es ep)/\i<es.length,fun i H x H'=>H'=H/\∃ e,es[i]?=some e/\x=.ref e.2.1,fun i H=>H a=some (DOb a es ep)/\es.length<=i⟩
section
variable {X:Cx}{pins:List (Addr×Obj)}{σ:St}{H:Hp}{s:Shared}{a:Addr}{es:Ens}{ep:Nat}{tg:Expr}
theorem Inv.raw (I:Inv X pins σ H s)(h:H a=some (DOb a es ep)):((a==sysModules)=false/\es.length<=sizeLine)/\∃ ds,RawD s.heap a ds ep/\ds.size=es.length/\∀ (i:Nat) e,es[i]?=some e->ds[i]?=some (Q1m e):=by
 obtain ⟨⟨⟨h1,h2,h3⟩,o,ds,e1,e2,e3,e4⟩,_⟩:=I.hok a _ h
 refine ⟨⟨h1,h2⟩,ds,⟨o,e1,e2,e3⟩,?_,fun i e q=>?_⟩
 · have:=congrArg List.length e4
   simpa using this
 · rw [<- Array.getElem?_toList,e4,List.getElem?_map,q];rfl
theorem J3z {w:World} (it:Addr):Turn P w K tg (Idk a es ep) [it] it (fun i h=>h.IsKeyIter it a i es.length ep) where
 mem:=by simp
 obj:=fun i h st b hb=>by
  rw [List.mem_singleton.mp hb]
  obtain ⟨o,e,c,d⟩:=st
  exact ⟨o,e,fun v z=>by rw [d] at z;cases z⟩
 keep:=fun i h h' st k=>by
  obtain ⟨o,e,q⟩:=st
  exact ⟨o,k it (by simp) o e,q⟩
 item:=by
  intro X hP hw hK hc i pins s σ H E I hf st hg
  subst hP hw hK
  obtain ⟨hd,hi⟩:=hg
  obtain ⟨e,he⟩:∃ e,es[i]?=some e:=⟨es[i],List.getElem?_eq_getElem hi⟩
  obtain ⟨⟨h1,h2⟩,ds,raw,hsz,hat⟩:=I.raw hd
  obtain ⟨f0,f1,f2,f3,f4,f5⟩:=hf it (by simp)
  rw [<- hsz] at st
  refine XM st raw (hat i e he) fun h' st' sb=>?_
  have I1:Inv X pins σ H { s with heap:=h' }:=I.turned (t':=s.toks) (fun b o hb e=>(sb.2 b hb).trans e) f0 f1 f3 f4 f5
  obtain ⟨o,e',c,d⟩:=id st'
  rw [hsz] at st'
  exact ⟨_,rfl,VS (s:={ s with heap:=h' }) e' c d (by decide) ⟨.ref e.2.1,H,I1,rfl,⟨rfl,e,he,rfl⟩,st',fun b hb=>(hf b hb).1⟩⟩
 done:=by
  intro X hP hw hK hc i pins s σ H E I hf st hg
  subst hP hw hK
  obtain ⟨hd,hi⟩:=hg
  obtain ⟨⟨h1,h2⟩,ds,raw,hsz,hat⟩:=I.raw hd
  obtain ⟨f0,f1,f2,f3,f4,f5⟩:=hf it (by simp)
  rw [<- hsz] at st
  exact J2e (I.ok.hd hc) st raw (by omega) fun h' eb=>⟨rfl,I.turned (t':=s.toks) (fun b o hb e=>eb b o hb e) f0 f1 f3 f4 f5⟩
 self:=fun _ _ s Q E st h=>wpAny_pyIter_keyiter st h
noncomputable def Q3t (to:TE):TI:=fun σ H R=>to σ H fun x H1=>∃ a es ep,x=.ref a/\H1 a=some (DOb a es ep)/\R (Idk a es ep) H1
theorem J4w {o:Expr}{to:TE}(ho:PE X o to):PI X tg o (Q3t to):=by
 intro pins s σ H R I h
 refine thn (ho pins s σ H _ I h) fun v s1 hx=>?_
 obtain ⟨x,H1,I1,r1,a,es,ep,rfl,hd,q⟩:=hx
 cases r1
 obtain ⟨⟨h1,h2⟩,ds,raw,hsz,hat⟩:=I1.raw hd
 refine YB h1 raw ?_
 rw [hsz]
 refine ⟨_,[_],_,_,H1,rfl,I1.kept (t':=s1.toks) fun b o e=>Heap.get?_push_of_some _ e,J3z _,⟨_,Heap.get?_push_size _ rfl,rfl,rfl⟩,fun b hb=>?_,q⟩
 rw [List.mem_singleton.mp hb]
 exact I1.fpOk (Nat.le_refl _) (I1.hok.fresh (Nat.le_refl _))
end
section
variable {X:Cx}{W:Wd}{e o f tg:Expr}{de dk df:DE}
noncomputable def Q5p (K:Fg):D->D->(D->Prop)->Prop:=fun x y P=>∃ t ks xs ns d,asD K x t ks xs/\y=.tup (ns.map D.int)/\AN ks xs ns=some d/\P d
theorem UT {H:Hp}{ns:List Int}{v:V}(r:RepX W M b H (.tup (ns.map D.int)) v):∃ c,v=.ref c/\SqT W.K H c (ns.map V.int):=by
 obtain ⟨c,us,rfl,hb,rks⟩:=(show Rep W.K M H (.tup (ns.map D.int)) v from r)
 cases rks.ints
 exact ⟨c,rfl,hb.sq⟩
theorem J9k:OpD W (J8t W.K) (Q5p W.K):=by
 intro M b H x y v u P Q hs rx ry ho k
 obtain ⟨t,ks,xs,ns,d,hx,rfl,hf,hP⟩:=ho
 obtain ⟨a,vs,rfl,hd,hE,rr⟩:=hx.rep rx
 obtain ⟨c,rfl,hc⟩:=UT ry
 have q:=HV ns hE.1 hE.2.2 rr
 rw [hf] at q
 obtain ⟨p,v,e1,rv,r1⟩:=q
 exact ⟨a,c,t.1,t.2,ns,p,v,rfl,rfl,hd,hE.keys,hc,e1,rv,k d v H hP r1.x (Kp.refl _ _) hs.ok⟩
theorem J5v (K:Fg)(h:X.K=K)(hu:X.A.units+64<cLine):IxR X (J8t K):=by subst h;exact Q0a (by omega)
def EN (ks:List (List Int)):List D:=ks.map fun k=>.tup (k.map D.int)
noncomputable def Q5w (K:Fg)(fz:Bool)(g:List (List Int)->List D->List D)(de:DE):DA:=fun ρ P=>de ρ fun x=>∃ t ks xs,(x=.dct t ks xs\/(fz=false/\∃ a,x=dcg K a t ks xs))/\P (g ks xs)
theorem Reps.ofInts {H:Hp}:∀ ns:List Int,Reps K M H (ns.map D.int) (ns.map V.int)
 | []=>rfl
 | n::ns=>⟨_,_,rfl,rfl,Reps.ofInts ns⟩
theorem J5x {x:D}{t:Tg}{ks:List (List Int)}{xs:List D}{a:Addr}(hx:asD W.K x t ks xs):IL W (Idk a t.1 t.2) [(x,.ref a)] (EN ks):=by
 intro M b H hs hn
 obtain ⟨a',vs,e,hd,hE,rr⟩:=hx.rep (hn _ (List.mem_singleton.mpr rfl))
 cases e
 have hl:t.1.length=ks.length:=by rw [<- hE.1];simp
 have hk:(EN ks).length=ks.length:=by unfold EN;simp
 refine ⟨fun i d e=>?_,fun i hi=>⟨hd,by rw [hl,<- hk];exact hi⟩⟩
 have hi:i<t.1.length:=by rw [hl,<- hk];exact (List.getElem?_eq_some_iff.mp e).1
 refine ⟨⟨hd,hi⟩,fun y H3 ⟨eH,en,e5,ry⟩=>?_⟩
 subst eH ry
 refine ⟨Same.refl _,?_⟩
 have ed:d=.tup (en.1.map D.int):=by
  unfold EN at e
  rw [<- hE.1,List.map_map,List.getElem?_map,e5] at e
  exact (Option.some.inj e).symm
 subst ed
 exact ⟨en.2.1,en.1.map V.int,rfl,hE.2.1 en (List.mem_of_getElem? e5),Reps.ofInts en.1⟩
theorem RL (ks:List (List Int)):(EN ks).all plain=true:=by
 unfold EN
 rw [List.all_map]
 exact List.all_eq_true.mpr fun k _=>rfl
theorem J1k {fz:Bool}(hK:X.K=W.K)(h:JE X W o de):JI X W fz tg o (Q5w W.K fz (fun ks _=>EN ks) de) :=
 ⟨(J4w h.h).mono fun σ H R hh=>hh.elim fun pn M b ρ P st h k=>by
   refine ⟨pn,M,b,ρ,_,st,h,fun x v H1 hx rx k1 o1=>?_⟩
   obtain ⟨t,ks,xs,hx,hP⟩:=hx
   have hA:asD W.K x t ks xs:=hx.imp id fun z=>z.2
   obtain ⟨a,vs,rfl,hd,hE,rr⟩:=hA.rep rx
   refine ⟨a,t.1,t.2,rfl,hd,k _ _ _ H1 hP (RL ks) (J5x hA) (fun q hq=>?_) k1 o1⟩
   rw [List.mem_singleton.mp hq]
   exact ⟨rx,fun z=>hx.elim (fun e=>by rw [e];rfl) fun e=>by rw [z] at e;cases e.1⟩⟩
noncomputable def Q4q (K:Fg)(i:Nat)(dk df:DE):DE:=fun ρ P=>∃ x t ks xs,ρ[i]?=some (some x)/\asD K x t ks xs/\dk ρ fun y=>∃ ns,y=.tup (ns.map D.int)/\df ρ fun z=>P ((AN ks xs ns).getD z)
theorem RO {i:Nat}{x:Str}{npos apos cpos:Pos}(hK:X.K=W.K)(hu:X.A.units+64<cLine)(hk:JE X W e dk)(hf:JE X W f df)(hN:X.N[i]?=some x)(hv:Vis X.env.scope x)(m:M2 X (.Name x npos) "get" apos e f cpos) (hd:(x==("__debug__" : Str))=false:=by decide)
 (hcd:(x==("__classdict__" : Str))=false:=by decide):JE X W (.Call (.Attribute (.Name x npos) "get" apos) [e,f] [] cpos) (Q4q W.K i dk df) :=
 ⟨(J0c (by omega) (TD hN hv hd hcd) hk.h hf.h m).mono fun σ H Q hh=>hh.elim fun pn M b ρ P st h k=>by
   rw [hK]
   obtain ⟨x,t,ks,xs,ex,hA,h⟩:=h
   obtain ⟨v,ev,rx⟩:=st.env i _ ex
   obtain ⟨a,vs,rfl,hd,hE,rr⟩:=hA.rep rx
   refine ⟨.ref a,ev,a,t.1,t.2,rfl,hd,hE.keys,pn,M,b,ρ,_,st,h,fun y vy H1 hy ry k1 o1=>?_⟩
   obtain ⟨ns,rfl,hy⟩:=hy
   have st1:=st.step k1 o1
   refine ⟨pn,M,b,ρ,_,st1,hy,fun z u H3 hz rz k3 o3=>?_⟩
   have kk:=k1.trans k3
   have rx3:=rx.step st.bagM kk
   obtain ⟨a',vs3,e3,hd3,hE3,rr3⟩:=hA.rep rx3
   cases e3
   have ry3:=ry.step st.bagM k3
   obtain ⟨c,rfl,hc⟩:=UT ry3
   have q:=HV ns hE3.1 hE3.2.2 rr3
   refine ⟨c,ns,rfl,hd3,hE3.keys,hc,fun hn=>?_,fun p hs=>?_⟩
   · cases ef:AN ks xs ns with
     | none=>rw [ef] at hz;exact k _ _ H3 hz rz kk o3
     | some d=>rw [ef] at q;obtain ⟨p,v,e1,_⟩:=q;rw [hn] at e1;cases e1
   · cases ef:AN ks xs ns with
     | none=>rw [ef] at q;rw [show atKey t.1 ns=none from q] at hs;cases hs
     | some d =>
       rw [ef] at q hz
       obtain ⟨p',v,e1,rv,r1⟩:=q
       rw [hs] at e1;cases e1
       exact ⟨v,rv,k _ _ H3 hz r1.x kk o3⟩⟩
end
section
variable {X:Cx}{W:Wd}{a:Expr}{dA:DA}
noncomputable def Q1i (dA:DA):DA:=fun ρ P=>dA ρ fun xs=>match xs with
 | [x]=>(match asS x with|some ys=>P ys|none=>False)
 | _=>False
theorem J1l {lpos npos:Pos}(ha:JA X W [a] dA)(h:PE X (.Call (.Name "list" npos) [a] [] lpos) (tCB (fun xs H Q=>∃ p ys,xs=[.ref p]/\(SqL W.K H p ys\/SqT W.K H p ys)/\∀ l,H l=none->Q (.ref l) (upd H l (.lst ys))) (dnA W dA))):JF X W (.Call (.Name "list" npos) [a] [] lpos) (Q1i dA):=⟨h.mono fun σ H Q hh=>by
 obtain ⟨pn,M,b,ρ,P,st,h,k⟩:=hh
 refine ⟨pn,M,b,ρ,_,st,h,fun xs vs H1 hx rx k1 o1=>?_⟩
 match xs,hx with
 | [x],hx =>
   obtain ⟨v,rfl,r⟩:=rx1 rx
   cases e1:asS x with
   | none=>simp only [e1] at hx
   | some ys =>
     simp only [e1] at hx
     obtain ⟨a1,us,rfl,h1,r1⟩:=asS.rep r e1
     refine ⟨a1,us,rfl,h1,fun p hp=>?_⟩
     exact k _ _ p _ hx (GN k1 o1 hp) Q6 (Reps.keep (fun c o _ e=>Same.upd hp c o e) _ _ (Reps.avoid (fun c z=>z.imp id fun y=>by rw [y];exact hp) _ _ r1)) (k1.trans (Kp.upd hp)) ((st.step k1 o1).toHs.okU hp)⟩
end
section
theorem RawD.at {h h':Heap}{d:Addr}{ds:Array DictEntry}{ep:Nat}(x:RawD h d ds ep)(k:∀ o,h.get? d=some o->h'.get? d=some o):RawD h' d ds ep:=let ⟨o,e,q⟩:=x;⟨o,k o e,q⟩
end
abbrev DST:=List D->(List (List D)->Int->Prop)->(Addr->Prop)->Prop
structure TNew (K:Fg)(M:Addr->Prop)(H H':Hp)(p a:Addr)(rs:List Addr)(rows:List (List D))(n:Int):Prop extends GNew K M H H' a rs rows where
 p0:H p=none
 hp:H' p=some (.tup [.ref a,.int n])
def VG (K:Fg)(B:BagT)(S:DST):Sp:=fun vs H Q E=>∃ (M:Addr->Prop) (b:Option Addr) (ds:List D) (P:List (List D)->Int->Prop) (Ed:Addr->Prop),S ds P Ed/\RepAs K M b H ds vs/\okB B b H/\(∀ p,b=some p->M p)/\(∀ c,M c->∃ o,H c=some o) /\
 (∀ rows n p a rs H',P rows n->TNew K M H H' p a rs rows n->Kp b H H'->okB B b H'->Q (.ref p) H')/\∀ C H',Ed C->Kp b H H'->okB B b H'->E (.ref C) none H'
theorem VG.len {B:BagT}{S:DST}{n:Nat}(h:∀ ds P Ed,S ds P Ed->ds.length=n):∀ vs H Q E,VG K B S vs H Q E->vs.length=n:=fun vs H Q E ⟨M,b,ds,P,Ed,hS,hr,_⟩=>by rw [hr.length];exact h _ _ _ hS
section
variable {X:Cx}{W:Wd}{tg:Expr}{de:DE}
theorem Q4t {N':List Str} {scope:Scope} {map:List (Option Nat)} {elt:Expr} {ifs:List Expr} {g:TG} {dt:DT} (calm:X.calm=true) (kind:scope.kind=.function) (loc:∀ x∈scope.names,x.2=.local->scope.names.lookup x.1=some .local) (free:(scope.names.all fun p=>!(p.2==NameKind.free)||(X.env.kindOf p.1==some .cell||X.env.kindOf p.1==some .free))=true) (cap:CapOk X scope map N') (keep:FJ g map)
 (run:∀ cells C fp s H,LB X C fp s H->PG (J6 X N' scope cells C fp s H) tg g/\JIf (J6 X N' scope cells C fp s H) W ifs dt/\JE (J6 X N' scope cells C fp s H) W elt de):Blk X N' scope map tg elt ifs g (dnT W dt) (dn W de) :=
 ⟨calm,kind,loc,free,cap,keep,fun cells C fp s H i=>⟨(run cells C fp s H i).1,(run cells C fp s H i).2.1.h,(run cells C fp s H i).2.2.h⟩⟩
end
abbrev PWd:=Program×World
def idR (K:Fg)(p:PWd)(a:Addr)(ns:List Int)(xs:List D)(M:Addr->Prop)(H:Hp)(v:V):Prop:=v=.ref a/\∃ acc:List (Int×V),acc.map (·.1)=ns/\H a=some (IDb p.1 p.2 acc a)/\Reps K M H xs (acc.map (·.2))
def idF (K:Fg)(p:PWd)(a:Addr)(ns:List Int)(xs:List D):Frg where
 ads:=[a]
 R:=idR K p a ns xs
 keep:=fun M H H' v k ⟨e,acc,q,h,r⟩=>⟨e,acc,q,k a _ (.inr (List.mem_cons_self ..)) h,Reps.keep (fun c o n q=>k c o (.inl n) q) _ _ r⟩
 avoid:=fun M M' H v k ⟨e,acc,q,h,r⟩=>⟨e,acc,q,h,Reps.avoid k _ _ r⟩
 ref:=fun M H v h=>⟨a,h.1⟩
 nt:=fun M H v ⟨e,acc,q,h,r⟩ c m=>by
  rw [List.mem_singleton.mp m]
  exact ⟨_,h,fun vs z=>by cases z⟩
abbrev idg (K:Fg)(p:PWd)(a:Addr)(ns:List Int)(xs:List D):D:=.frg (idF K p a ns xs) (.adr a)
noncomputable def Q3b (p:PWd):R2:=fun x y H Q=>∃ a acc k v,x=.ref a/\y=.int k/\H a=some (IDb p.1 p.2 acc a)/\acc.lookup k=some v/\Q v H
theorem J5p {k:Int}{v:V}:∀ {acc:List (Int×V)} {vs:List (Int×Value)},KV acc vs->acc.lookup k=some v->∃ u,valueAt vs k=some u/\RelV v u:=fun {acc vs} h=>by
 induction h with
 | nil=>intro z;cases z
 | @cons p q _ _ r _ ih =>
   intro z
   obtain ⟨k',y⟩:=p
   obtain ⟨k2,u⟩:=q
   obtain ⟨e,ry⟩:=r
   have e:k'=k2:=e
   subst e
   unfold valueAt
   rw [List.lookup_cons] at z
   by_cases q:k=k'
   · subst q
     simp only [beq_self_eq_true] at z
     cases z
     exact ⟨u,by simp,ry⟩
   · rw [beq_eq_false_iff_ne.mpr q] at z
     obtain ⟨u',e1,e2⟩:=ih z
     refine ⟨u',?_,e2⟩
     rw [List.find?_cons_of_neg (by simp;exact fun z=>q z.symm)]
     exact e1
section
variable {X:Cx}
theorem J9z {w:World}(h1:X.prog=P)(h2:X.w=w):IxR X (Q3b (P,w)):=by
 subst h1 h2
 intro value slice pins s σ H x y v u Q I rx ry h hs
 obtain ⟨a,acc,k,z,rfl,rfl,hd,hp,q⟩:=h
 cases rx
 obtain ⟨t,rfl⟩:∃ t,u=.int k t:=ry
 obtain ⟨⟨o,g,vs,kv,dd⟩,_,_⟩:=I.hok a _ hd
 have D:=Heap.dictOf_iff.mpr ⟨o,g,dd⟩
 obtain ⟨u,e1,e2⟩:=J5p kv hp
 exact tail_any D.mapOf.typeIs PySem.F.slot_dict_getitem.lookup (wpAny_getItem_of (knd:=intKind X.prog X.w) (k:=k) (by simp [intKind,Value.isInt]) D.mapOf e1 ⟨z,H,I.tok _,e2,q⟩) hs
end
def JX:List Int->List D->Int->Option D
 | n::ns,x::xs,k=>if k=n then some x else JX ns xs k
 | _,_,_=>none
theorem RE {H:Hp}{k:Int}{d:D}:∀ {acc:List (Int×V)} {xs:List D},Reps K M H xs (acc.map (·.2))->JX (acc.map (·.1)) xs k=some d->∃ v,acc.lookup k=some v/\Rep K M H d v
 | [],xs,_,h=>by cases xs<;>cases h
 | (n,y)::acc,[],r,h=>by cases h
 | (n,y)::acc,x::xs,r,h=>by
   obtain ⟨v,t,e,r1,r2⟩:=r
   simp only [List.map_cons,List.cons.injEq] at e
   obtain ⟨rfl,rfl⟩:=e
   rw [List.map_cons] at h
   unfold JX at h
   rw [List.lookup_cons]
   by_cases q:k=n
   · rw [if_pos q] at h
     cases h
     rw [beq_iff_eq.mpr q]
     exact ⟨y,rfl,r1⟩
   · rw [if_neg q] at h
     rw [beq_eq_false_iff_ne.mpr q]
     exact RE r2 h
noncomputable def Q5o (K:Fg)(p:PWd):D->D->(D->Prop)->Prop:=fun x y P=>∃ a ns xs k d,x=idg K p a ns xs/\y=.int k/\JX ns xs k=some d/\P d
theorem J9l {W:Wd}{p:PWd}:OpD W (Q3b p) (Q5o W.K p):=by
 intro M b H x y v u P Q hs rx ry ho k
 obtain ⟨a,ns,xs,n,d,rfl,rfl,hl,hP⟩:=ho
 cases (show _=_ from ry)
 obtain ⟨ow,⟨e,acc,q,h,r⟩,_⟩:=rx
 subst q
 obtain ⟨z,e1,rz⟩:=RE r hl
 exact ⟨a,acc,n,z,e,rfl,h,e1,k d z H hP (Rep.x rz) (Kp.refl _ _) hs.ok⟩
inductive compK (gd:D->Ev->(Ev->Prop)->Prop)(dt:DT)(dk de:DE)(ρc:Ev)(items:List D)(P:List (Int×D)->Prop):Prop
 | mk (I:Nat->List (Int×D)->Prop) (h0:I 0 []) (hs:∀ (i:Nat) x acc,items[i]?=some x->I i acc->gd x ρc fun ρ1=>dt ρ1 fun c=>IfP c (dk ρ1 fun y=>∃ k,y=.int k/\k∉acc.map (·.1)/\de ρ1 fun z=>plain z=true/\I (i+1) (acc++[(k,z)])) (I (i+1) acc)) (hd:∀ acc,I items.length acc->P acc):compK gd dt dk de ρc items P
theorem SA {W:Wd}{pn:List (D×V)}{M:Addr->Prop}{b:Option Addr}{H:Hp}{σ:St}{ρ:Ev}{J:It}{need:List (D×V)}{items:List D}{g:TG}{gd:D->Ev->(Ev->Prop)->Prop}{dt:DT}{dk de:DE}{P:List (Int×D)->Prop}{Fin:List (Int×V)->Hp->Prop}
 (hG:GD W g gd) (st:Sta W pn M b H σ ρ) (hp:items.all plain=true) (hI:IL W J need items) (hn:∀ q∈need,RepX W M b H q.1 q.2) (hl:items.length<=1000) (h:compK gd dt dk de ρ items P)
 (fin:∀ ds acc H',P ds->ds.map (·.1)=acc.map (·.1)->Reps W.K M H' (ds.map (·.2)) (acc.map (·.2))->Kp b H H'->okB W.B b H'->Fin acc H'):∃ Wf:Nat->Nat->List (Int×V)->Hp->Prop,(∃ m,Wf 0 m [] H)/\UP J g (dnT W dt) (dn W dk) (dn W de) σ Fin Wf:=by
 obtain ⟨I,i0,istep,idone⟩:=h
 refine ⟨fun i m acc H2=>m=items.length - i/\i<=items.length/\acc.length<=i/\Kp b H H2/\okB W.B b H2/\∃ ds:List (Int×D),ds.map (·.1)=acc.map (·.1)/\Reps W.K M H2 (ds.map (·.2)) (acc.map (·.2))/\I i ds,⟨items.length,by simp,Nat.zero_le _,Nat.le_refl _,Kp.refl _ _,st.ok,[],rfl,rfl,i0⟩,?_⟩
 rintro i m acc H2 ⟨rfl,hi,ha,k2,o2,ds,em,r,q⟩
 have st2:=st.step k2 o2
 obtain ⟨hgo,hstop⟩:=hI M b H2 st2.toHs fun q hq=>(hn q hq).step st.bagM k2
 by_cases hlt:i<items.length
 · have ei:items[i]?=some items[i]:=List.getElem?_eq_getElem hlt
   replace q:=istep i _ ds ei q
   refine .inr ⟨(hgo i _ ei).1,fun acc' H'=>acc'.length<=i+1/\Kp b H H'/\okB W.B b H'/\∃ ds:List (Int×D),ds.map (·.1)=acc'.map (·.1)/\Reps W.K M H' (ds.map (·.2)) (acc'.map (·.2))/\I (i+1) ds,fun acc' H' n=>⟨items.length - (i+1),by omega,rfl,hlt,n⟩,fun x H3 y=>?_⟩
   obtain ⟨S3,rx⟩:=(hgo i _ ei).2 x H3 y
   have o3:okB W.B b H3:=fun p e=>W.B.st p H2 H3 (o2 p e) fun o e'=>S3 p o e'
   have k3:Kp b H2 H3:=Kp.same S3
   have st3:=st2.step k3 o3
   refine hG pn M b H3 σ ρ items[i] x _ _ st3 rx (List.all_eq_true.mp hp _ (List.getElem_mem hlt)) q fun ρ1 σ1 h1 st4 _=>?_
   refine ⟨pn,M,b,ρ1,_,st4,h1,fun c H5 h5 k5 o5=>?_⟩
   cases h5 with
   | t e h5 =>
     rw [if_pos e]
     refine ⟨pn,M,b,ρ1,_,st4.step k5 o5,h5,fun y v H6 h6 ry k6 o6=>?_⟩
     obtain ⟨k,rfl,hk,h6⟩:=h6
     refine ⟨k,ry,by rw [<- em];exact hk,by omega,pn,M,b,ρ1,_,(st4.step k5 o5).step k6 o6,h6,fun z u H7 h7 rz k7 o7=>?_⟩
     have kk:=(((k3.trans k5).trans k6).trans k7)
     refine ⟨by simp;omega,k2.trans kk,o7,ds++[(k,z)],by rw [List.map_append,List.map_append,em];rfl,?_,h7.2⟩
     rw [List.map_append,List.map_append]
     exact Reps.append (Reps.keep (fun c o n e=>kk c o (fun z=>n (st.bagM c z)) e) _ _ r) ⟨u,[],rfl,rz.rep h7.1,rfl⟩
   | f e h5 =>
     rw [if_neg (by rw [e];exact Bool.false_ne_true)]
     have kk:=k3.trans k5
     exact ⟨by omega,k2.trans kk,o5,ds,em,Reps.keep (fun c o n e=>kk c o (fun z=>n (st.bagM c z)) e) _ _ r,h5⟩
 · have e:i=items.length:=by omega
   subst e
   exact .inl ⟨hstop _ (Nat.le_refl _),fin ds acc H2 (idone _ q) em r k2 o2⟩
noncomputable def Q1n (K:Fg)(p:PWd)(i:Nat)(map:List (Option Nat))(gd:D->Ev->(Ev->Prop)->Prop)(di:DA)(dt:DT)(dk de:DE):DS:=fun F ρ=>di ρ fun items=>items.length<=1000/\compK gd dt dk de (DW ρ map) items fun acc=>∀ a,F.nx (ρ.set i (some (idg K p a (acc.map (·.1)) (acc.map (·.2)))))
section
variable {X:Cx}{W:Wd}{ke ve iter tg:Expr}{ifs:List Expr}{scope:Scope}{pos:Pos}{N':List Str}{map:List (Option Nat)}{g:TG}{gd:D->Ev->(Ev->Prop)->Prop}{di:DA}{dt:DT}{dk de:DE}
theorem J6w (calm:X.calm=true)(B:Blk X N' scope map tg ve ifs g (dnT W dt) (dn W de))(key:∀ cells C fp s H,JE (J6 X N' scope cells C fp s H) W ke dk):BlkD X N' scope map tg ke ve ifs g (dnT W dt) (dn W dk) (dn W de):=⟨B.m,fun cells C fp s H _=>(key cells C fp s H).h⟩
theorem TY {i:Nat}{y:Str}{py spos:Pos} {w:World}(h1:X.prog=P)(h2:X.w=w)(hN:X.N.Nodup)(hiN:X.N[i]?=some y)(hy:Loc X.env.scope y)(hc:X.calm=true)(hG:GD W g gd)(B:BlkD X N' scope map tg ke ve ifs g (dnT W dt) (dn W dk) (dn W de))(hi:JI X W false tg iter di)
 (hsw:swapsWith (.DictComp ke ve [⟨tg,iter,ifs,0⟩] scope pos) (some (.Name y py)) spos.line X.env=pure false:=by rfl) (hfn:X.fn y=true\/X.env.scope.names.lookup y=some .local:=by first|exact .inl rfl|exact .inr rfl)
 (hs:∀ x,foldedSetIterable iter X.env x=pure x:=by intro _;rfl):JS X W (.Assign [.Name y py] (.DictComp ke ve [⟨tg,iter,ifs,0⟩] scope pos) spos) (Q1n W.K (P,w) i map gd di dt dk de):=by
 subst h1 h2
 refine ⟨(BX hN hiN hy (J0b hc B hi.h hs) hsw hfn).mono fun E σ H hh=>hh.elim fun pn M b ρ F s l h=>?_⟩
 refine ⟨pn,M,b,ρ,_,s.toSta,h,fun items J need H1 hx hp hI hn k1 o1=>?_⟩
 have s1:=s.step k1 o1
 refine SA hG (s1.toSta.capt map) hp hI (fun q hq=>(hn q hq).1) hx.1 hx.2 fun ds acc H' hP em r k2 o2 p hp=>?_
 have s2:=s1.step k2 o2
 have ok:=s2.toHs.okU (o:=IDb X.prog X.w acc p) hp
 have t:Sta W pn (fun c=>M c\/c=p) b (upd H' p (IDb X.prog X.w acc p)) σ ρ:=s2.toSta.grow (fun c z=>z.imp id fun y=>by rw [y];exact hp) (fun c z=>.inl z) (Kp.upd hp) ok fun c z=>z.elim ((s2.toSta.step (Kp.upd hp) ok).dom c) fun y=>by rw [y];exact ⟨_,Q6⟩
 have rp:RepX W (fun c=>M c\/c=p) b (upd H' p (IDb X.prog X.w acc p)) (idg W.K (X.prog,X.w) p (ds.map (·.1)) (ds.map (·.2))) (.ref p):=by
  refine ⟨fun c m=>?_,⟨rfl,acc,em.symm,Q6,Reps.keep (fun c o n e=>by rw [Q3 (fun z=>n (.inr z))];exact e) _ _ (Reps.avoid (fun c m=>m.imp id fun y=>by rw [y];exact hp) _ _ r)⟩,rfl⟩
  · rw [List.mem_singleton.mp m]
    refine ⟨.inr rfl,fun z=>?_,s2.toSta.fresh0 hp⟩
    obtain ⟨o,e⟩:=W.B.dm p H' (s2.ok p z)
    rw [hp] at e;cases e
 refine l.nx _ _ _ _ _ (s2.add i (t.set (x:=idg W.K (X.prog,X.w) p (ds.map (·.1)) (ds.map (·.2))) (v:=.ref p) i rp) fun c m=>?_) (hP p)
 have:c=p:=List.mem_singleton.mp m
 rw [this];exact s2.toHs.new hp
end
theorem LX:∀ {as:List Addr} {us:List Value},Vals (as.map V.ref) us->us=as.map Value.ref
 | [],us,r=>by cases r;rfl
 | a::as,us,r=>by
   cases r with
   | cons r1 r2 =>
     cases r1
     rw [LX r2]
     rfl
theorem HJ:∀ as:List Addr,Vals (as.map V.ref) (as.map Value.ref)
 | []=>.nil
 | a::as=>.cons rfl (HJ as)
theorem EG:∀ {ns:List Int} {us:List Value},Vals (ns.map V.int) us->IntsAre us ns
 | [],us,r=>by cases r;exact .nil
 | n::ns,us,r=>by
   cases r with
   | cons r1 r2 =>
     obtain ⟨t,rfl⟩:=r1
     exact .cons n t (EG r2)
section
variable {prog:Program}{w:World}{A:Around}{E:Value->Shared->Prop}{s:Shared}
theorem QF {l:Addr}{vs:List Value}{m:Nat}{rows:Value->List Int}{Q:Value->Shared->Prop}(il:s.heap.IsList l vs.toArray)
 (ht:∀ v∈vs,TupZ s.heap v (rows v)) (hm:∀ v∈vs,(rows v).length=m/\∀ z∈rows v,Z7 z) (m0:0<m) (h64:vs.length<64)
 (h:∀ (out:Array Value) (L:Addr) (e:Nat) h',out.toList.Perm vs->out.toList.Pairwise (fun x y=>AI 0 (rows x)<=AI 0 (rows y))->h'.get? L=some (seqObj "list" out e)->s.heap.objs.size<=L->(∀ b o,s.heap.get? b=some o->h'.get? b=some o)->Q (.ref L) { s with heap:=h' }) :
 wpAny (model prog w) A (call (.builtin "sorted") [.ref l]) Q E s:=by
 refine Calls.call_function_entry kind_sorted plain_sorted entry_sorted (args_sorted1 _) ?_
 unfold Builtin.«sorted»
 refine wpAny_bind (m:=checkCount "sorted" 1 1 _) (wpAny_pure ?_)
 refine wpAny_bind (collect_list il ?_ (by rw [sizeLine_eq];omega))
 refine wpAny_bind (wpAny_newList ?_)
 have z1:((s.heap.push (seqObj "list" #[] 0)).update s.heap.objs.size (Obj.mapSeq (·++vs.toArray))).objs.size=s.heap.objs.size+1:=by
  rw [Heap.size_update,size_push']
 generalize hH:(s.heap.push (seqObj "list" #[] 0)).update s.heap.objs.size (Obj.mapSeq (·++vs.toArray))=H1 at z1
 have k1:∀ b o,s.heap.get? b=some o->H1.get? b=some o:=fun b o e=>by
  have hlt:b<s.heap.objs.size:=Heap.lt_size e
  rw [<- hH,Heap.get?_update_ne _ _ _ _ (Nat.ne_of_lt hlt),Heap.get?_push_ne _ _ _ (Nat.ne_of_lt hlt)]
  exact e
 have g2:(H1.push (seqObj "list" vs.toArray 0)).get? H1.objs.size=some (seqObj "list" vs.toArray 0):=Heap.get?_push_size _ rfl
 have t2:∀ v∈vs,TupZ (H1.push (seqObj "list" vs.toArray 0)) v (rows v):=fun v hv=>by
  obtain ⟨a,o,xs,n,e,g,c,d,i⟩:=ht v hv
  exact ⟨a,o,xs,n,e,Heap.get?_push_of_some _ (k1 a o g),c,d,i⟩
 refine wpAny_bind (wpAny_holding (wpAny_call_entry (s:={ s with heap:=H1.push (seqObj "list" vs.toArray 0) }) slot_list_sort ⟨_,g2,rfl⟩ entry_list_sort (FC g2 t2 hm m0 h64 fun out a1 a2=>⟨_,rfl,?_⟩) (args_list_sort _)))
 refine wpAny_pure ⟨_,rfl,?_⟩
 show Q (.ref H1.objs.size) { s with heap:=sortedHeap (H1.push (seqObj "list" vs.toArray 0)) H1.objs.size vs out }
 unfold sortedHeap
 obtain ⟨e1,q1⟩:∃ e1,((H1.push (seqObj "list" vs.toArray 0)).update H1.objs.size (Obj.mapSeq fun _=>#[])).get? H1.objs.size=some (seqObj "list" #[] e1):=⟨_,get?_update_seq g2 (fun _=>#[])⟩
 have q2:=Heap.get?_push_of_some (seqObj "list" #[] 0) (Heap.get?_push_of_some (seqObj "tuple" vs.toArray 0) q1)
 obtain ⟨e3,q3⟩:∃ e3,(((((H1.push (seqObj "list" vs.toArray 0)).update H1.objs.size (Obj.mapSeq fun _=>#[])).push (seqObj "tuple" vs.toArray 0)).push (seqObj "list" #[] 0)).update H1.objs.size (Obj.mapSeq fun _=>out)).get? H1.objs.size=some (seqObj "list" out e3):=⟨_,get?_update_seq q2 (fun _=>out)⟩
 refine h out H1.objs.size e3 _ a1 a2 q3 (by omega) fun b q e=>?_
 have bl:=Heap.lt_size e
 have nb:b≠H1.objs.size:=by
  intro z
  rw [z,z1] at bl
  exact Nat.lt_irrefl _ (Nat.lt_of_succ_lt bl)
 rw [Heap.get?_update_ne _ _ _ _ nb]
 refine Heap.get?_push_of_some _ (Heap.get?_push_of_some _ ?_)
 rw [Heap.get?_update_ne _ _ _ _ nb]
 exact Heap.get?_push_of_some _ (k1 b q e)
end
section
variable {X:Cx}
theorem OY (K:Fg)(hK:X.K=K)(hc:X.calm=true):AW X (.builtin "sorted") (fun xs H Q=>∃ (D:Addr) (ps:List (Addr×List Int)) (m:Nat),xs=[.ref D]/\SqL K H D (ps.map fun p=>V.ref p.1)/\(∀ p∈ps,SqT K H p.1 (p.2.map V.int)/\p.2.length=m/\∀ z∈p.2,Z7 z)/\0<m/\ps.length<64 /\
 ∀ (p:Addr) (qs:List (Addr×List Int)),H p=none->qs.Perm ps->qs.Pairwise (fun x y=>AI 0 x.2<=AI 0 y.2)->Q (.ref p) (upd H p (.lst (qs.map fun q=>V.ref q.1)))):=by
 subst hK
 intro pins s σ H xs us Q I r h
 obtain ⟨D,ps,m,rfl,hD,hr,m0,h64,q⟩:=h
 obtain ⟨u,rfl,rx⟩:=FW r
 cases rx
 obtain ⟨its,rv,pl,hz⟩:=I.list hD
 rw [show (ps.map fun p=>V.ref p.1)=(ps.map (·.1)).map V.ref by rw [List.map_map];rfl] at rv
 have e:=LX rv
 subst e
 have hl:=pl.isList
 let row:Addr->List Int:=fun a=>match ps.find? (fun p=>p.1==a) with|some p=>p.2|none=>[]
 have rw_:∀ p∈ps,row p.1=p.2:=fun p hp=>by
  show (match ps.find? (fun q=>q.1==p.1) with|some p=>p.2|none=>[])=p.2
  cases f:ps.find? (fun q=>q.1==p.1) with
  | none=>exact absurd (List.find?_eq_none.mp f p hp) (by simp)
  | some p' =>
    have m1:=List.mem_of_find?_eq_some f
    have m2:p'.1=p.1:=by simpa using List.find?_some f
    have h1:=(hr p' m1).1
    rw [m2] at h1
    have:=I.tuple_inj h1 (hr p hp).1
    exact (List.map_inj_right (fun x y e=>by cases e;rfl)).mp this
 refine QF (rows:=fun v=>match v with|.ref a=>row a|_=>[]) hl (fun v hv=>?_) (fun v hv=>?_) m0 (by rw [List.length_map,List.length_map];exact h64) fun out L ep h' a1 a2 g zL k=>?_
 · obtain ⟨a,ha,rfl⟩:=List.mem_map.mp hv
   obtain ⟨p,hp,rfl⟩:=List.mem_map.mp ha
   obtain ⟨its,rv,⟨o,g,c,n,d⟩,_⟩:=I.tuple (hr p hp).1
   exact ⟨p.1,o,its.toArray,n,rfl,g,c,d,by show IntsAre _ (row p.1);rw [rw_ p hp];exact EG rv⟩
 · obtain ⟨a,ha,rfl⟩:=List.mem_map.mp hv
   obtain ⟨p,hp,rfl⟩:=List.mem_map.mp ha
   show (row p.1).length=m/\∀ z∈row p.1,Z7 z
   rw [rw_ p hp]
   exact (hr p hp).2
 · obtain ⟨bs,eb⟩:∃ bs:List Addr,out.toList=bs.map Value.ref:=by
    have:∀ l:List Value,(∀ v∈l,∃ a,v=Value.ref a)->∃ bs:List Addr,l=bs.map Value.ref:=by
     intro l
     induction l with
     | nil=>exact fun _=>⟨[],rfl⟩
     | cons v l ih =>
       intro h
       obtain ⟨a,rfl⟩:=h v (List.mem_cons_self ..)
       obtain ⟨bs,rfl⟩:=ih fun v hv=>h v (List.mem_cons_of_mem _ hv)
       exact ⟨a::bs,rfl⟩
    refine this _ fun v hv=>?_
    obtain ⟨a,_,e⟩:=List.mem_map.mp (a1.mem_iff.mp hv)
    exact ⟨a,e.symm⟩
   have pb:bs.Perm (ps.map (·.1)):=by
    have:=a1
    rw [eb] at this
    have:=this.map (fun v=>match v with|Value.ref a=>a|_=>0)
    rw [List.map_map,List.map_map] at this
    simpa [Function.comp_def] using this
   have hL:H L=none:=I.hok.fresh zL
   have eq:(bs.map fun a=>(a,row a)).map (fun q=>V.ref q.1)=bs.map V.ref:=by
    rw [List.map_map];rfl
   have pq:(bs.map fun a=>(a,row a)).Perm ps:=by
    have:=pb.map fun a=>(a,row a)
    rw [List.map_map] at this
    have e:ps.map ((fun a=>(a,row a))∘fun x=>x.1)=ps:=by
     conv=>rhs;rw [<- List.map_id ps]
     exact List.map_congr_left fun p hp=>by show (p.1,row p.1)=p;rw [rw_ p hp]
    rwa [e] at this
   have J:=I.laid (a:=L) (o:=.lst (bs.map V.ref)) (t':=s.toks) (h':=h') k zL ⟨by rw [List.length_map,pb.length_eq,List.length_map,sizeLine_eq];omega,out.toList,ep,by rw [eb];exact HJ bs,by simpa using g⟩
   have fin:=q L (bs.map fun a=>(a,row a)) hL pq (by
    rw [eb,List.pairwise_map] at a2
    rw [List.pairwise_map]
    exact a2)
   rw [eq] at fin
   exact ⟨.ref L,_,J,rfl,fin⟩
end
def Y4 (r:List Int):D:=.tup (r.map D.int)
theorem MG {H:Hp}:∀ {rows:List (List Int)} {vs:List V},Reps K M H (rows.map Y4) vs->∃ ps:List (Addr×List Int),vs=ps.map (fun p=>V.ref p.1)/\rows=ps.map (·.2)/\∀ p∈ps,Rep K M H (Y4 p.2) (.ref p.1)
 | [],vs,h=>⟨[],h,rfl,fun p hp=>by simp at hp⟩
 | r::rows,vs,h=>by
   obtain ⟨v,rest,rfl,h1,h2⟩:=h
   obtain ⟨ps,rfl,hl,hr⟩:=MG h2
   obtain ⟨a,us,rfl,h3⟩:=(show ∃ a us,v=V.ref a/\TpA K M H a us/\Reps K M H _ us from h1)
   refine ⟨(a,r)::ps,rfl,by rw [List.map_cons,<- hl],fun p hp=>?_⟩
   rcases List.mem_cons.mp hp with rfl|hp
   · exact h1
   · exact hr p hp
theorem HG {H:Hp}:∀ {qs:List (Addr×List Int)},(∀ q∈qs,Rep K M H (Y4 q.2) (.ref q.1))->Reps K M H ((qs.map (·.2)).map Y4) (qs.map fun q=>V.ref q.1)
 | [],_=>rfl
 | q::qs,h=>⟨.ref q.1,qs.map fun q=>V.ref q.1,rfl,h q (List.mem_cons_self ..),HG fun x hx=>h x (List.mem_cons_of_mem _ hx)⟩
theorem SU {H:Hp}{r:List Int}{a:Addr}(h:Rep K M H (Y4 r) (.ref a)):SqT K H a (r.map V.int):=by
 obtain ⟨a',us,e,h1,h2⟩:=(show ∃ a' us,V.ref a=V.ref a'/\TpA K M H a' us/\Reps K M H (r.map D.int) us from h)
 cases e
 rw [FN h2] at h1
 exact h1.sq
def Q2v (xs:List D)(P:List D->Prop):Prop:=∃ (rows:List (List Int)) (m:Nat),xs=rows.map Y4/\0<m/\rows.length<64/\(∀ r∈rows,r.length=m/\∀ z∈r,Z7 z)/\∀ rows':List (List Int),rows'.Perm rows->rows'.Pairwise (fun x y=>AI 0 x<=AI 0 y)->P (rows'.map Y4)
section
variable {X:Cx}{W:Wd}{a e:Expr}{pos:Pos}{dA:DA}
noncomputable def ZO (K:Fg):List V->Hp->VK->Prop:=fun xs H Q=>∃ (D:Addr) (ps:List (Addr×List Int)) (m:Nat),xs=[.ref D]/\SqL K H D (ps.map fun p=>V.ref p.1)/\(∀ p∈ps,SqT K H p.1 (p.2.map V.int)/\p.2.length=m/\∀ z∈p.2,Z7 z)/\0<m/\ps.length<64 /\
 ∀ (p:Addr) (qs:List (Addr×List Int)),H p=none->qs.Perm ps->qs.Pairwise (fun x y=>AI 0 x.2<=AI 0 y.2)->Q (.ref p) (upd H p (.lst (qs.map fun q=>V.ref q.1)))
theorem UJ (K:Fg)(hK:X.K=K)(hc:X.calm=true):AW X (.builtin "sorted") (ZO K):=OY K hK hc
noncomputable def Q4l (da:DA):DA:=fun ρ P=>da ρ fun xs=>match xs with
 | [x]=>(asL x).elim False fun ys=>Q2v ys P
 | _=>False
theorem XX {lpos npos:Pos}(ha:JA X W [a] dA)(h:PE X (.Call (.Name "sorted" npos) [a] [] lpos) (tCB (ZO W.K) (dnA W dA))):JF X W (.Call (.Name "sorted" npos) [a] [] lpos) (Q4l dA):=⟨h.mono fun σ H Q hh=>by
 obtain ⟨pn,M,b,ρ,P,st,h,k⟩:=hh
 refine ⟨pn,M,b,ρ,_,st,h,fun xs vs H1 hx rx k1 o1=>?_⟩
 match xs,hx with
 | [x],hx =>
   obtain ⟨v,rfl,r⟩:=rx1 rx
   cases e1:asL x with
   | none=>simp only [e1] at hx;exact hx.elim
   | some ys =>
     simp only [e1] at hx
     obtain ⟨rows,m,rfl,m0,h64,hb,hP⟩:=hx
     obtain ⟨a1,us,rfl,h1,r1⟩:=asL.rep r e1
     obtain ⟨ps,rfl,rfl,hr⟩:=MG r1
     refine ⟨a1,ps,m,rfl,SqL.of h1,fun p hp=>⟨SU (hr p hp),hb _ (List.mem_map.mpr ⟨p,hp,rfl⟩)⟩,m0,by rw [List.length_map] at h64;exact h64,fun p qs hp pq so=>?_⟩
     have rq:Reps W.K M H1 ((qs.map (·.2)).map Y4) (qs.map fun q=>V.ref q.1):=HG fun q hq=>hr q (pq.mem_iff.mp hq)
     exact k _ _ p _ (hP (qs.map (·.2)) (pq.map _) (by rw [List.pairwise_map];exact so)) (GN k1 o1 hp) Q6 (Reps.keep (fun c o _ e=>Same.upd hp c o e) _ _ (Reps.avoid (fun c z=>z.imp id fun y=>by rw [y];exact hp) _ _ rq)) (k1.trans (Kp.upd hp)) ((st.step k1 o1).toHs.okU hp)⟩
noncomputable def Q4n (dF:DA):DS:=fun F ρ=>dF ρ fun xs=>F.ro xs
theorem RN (h:JF X W e dA):JS X W (.Return (some e) pos) (Q4n dA):=⟨(EW h.h).mono fun E σ H hh=>hh.elim fun pn M b ρ F s l hd=>by
 refine ⟨pn,M,b,ρ,_,s.toSta,hd,fun xs vs p H' hx n1 e1 r1 k1 o1=>?_⟩
 have s':=s.toSta.step k1 o1
 obtain ⟨h0,m0⟩:=s.toSta.fresh0 n1
 exact l.ro _ _ _ H' hx h0 m0 e1 (Reps.avoid (fun c z=>z.elim (fun y=>.inl (.inl (s'.m0 c y))) fun y=>.inl (.inr y)) _ _ r1) s'.kp s'.ok0⟩
end
section
variable {d:Addr}{ds:Array DictEntry}{ep:Nat}
theorem RawD.frame {h h':Heap}(x:RawD h d ds ep)(k:∀ o,h.get? d=some o->h'.get? d=some o):RawD h' d ds ep:=by
 obtain ⟨o,e,q⟩:=x
 exact ⟨o,k o e,q⟩
end
def asc (z:Str):Prop:=∀ c∈z.cps.toList,c<128
def tpF (K:Fg)(p:Addr)(rs:List Addr)(rows:List (List D)):Frg where
 ads:=rs
 R:=fun M H v=>v=.ref p/\¬ M p/\rs.Nodup/\H p=some (.tup (rs.map V.ref))/\RowsR K M H rs rows
 keep:=fun M H H' v k h=>⟨h.1,h.2.1,h.2.2.1,k _ _ (.inl h.2.1) h.2.2.2.1,RowsR.keep rs rows k h.2.2.2.2⟩
 avoid:=fun M M' H v k h=>⟨h.1,fun m=>(k p m).elim h.2.1 (fun z=>by rw [h.2.2.2.1] at z;cases z),h.2.2.1,h.2.2.2.1,RowsR.avoid k rs rows h.2.2.2.2⟩
 ref:=fun M H v h=>⟨p,h.1⟩
 nt:=fun M H v h c m=>by
  obtain ⟨us,e⟩:=h.2.2.2.2.lst c m
  exact ⟨_,e,fun _ y=>by cases y⟩
def tpd (K:Fg)(p:Addr)(rs:List Addr)(rows:List (List D)):D:=.frg (tpF K p rs rows) (.tup (rows.map D.lst))
theorem ZB {H:Hp}{p:Addr}{rs:List Addr}{rows:List (List D)}(np:¬ M p)(hp:H p=some (.tup (rs.map V.ref)))(hr:RowsR K M H rs rows):Rep K (fun c=>M c/\c∉rs) H (.tup (rows.map D.lst)) (.ref p) :=
 ⟨p,_,rfl,.inl ⟨fun m=>np m.1,hp⟩,RowsR.reps (A:=rs) rs rows (fun r m=>m) hr⟩
abbrev YR:=List D->(Frg->D->Prop)->(Addr->Prop)->Prop
def BH (K:Fg)(B:BagT)(S:YR):Sp:=fun vs H Q E=>∃ (M:Addr->Prop) (b:Option Addr) (ds:List D) (P:Frg->D->Prop) (Ed:Addr->Prop),S ds P Ed/\RepAs K M b H ds vs/\okB B b H/\(∀ p,b=some p->M p)/\(∀ c,M c->∃ o,H c=some o) /\
 (∀ f d v H',P f d->PNew K M H H' f d v->Kp b H H'->okB B b H'->Q v H')/\∀ C H',Ed C->Kp b H H'->okB B b H'->E (.ref C) none H'
theorem BH.len {B:BagT}{S:YR}{n:Nat}(h:∀ ds P Ed,S ds P Ed->ds.length=n):∀ vs H Q E,BH K B S vs H Q E->vs.length=n:=fun vs H Q E ⟨M,b,ds,P,Ed,hS,hr,_⟩=>by rw [hr.length];exact h _ _ _ hS
abbrev DPX:=(Frg->D->Prop)->DS
def Q5m (W:Wd)(d:DPX):TS:=fun E σ H=>∃ pn M b ρ F P,StS W pn M b H σ ρ/\Link W pn E F/\(∀ f d v H',P f d->PNew W.K W.M0 W.H0 H' f d v->Kp W.b0 W.H0 H'->okB W.B W.b0 H'->E.rt v H')/\d P F ρ
structure JPXs (X:Cx)(W:Wd)(sts:List Stmt)(d:DPX):Prop where
 h:PSs X sts (Q5m W d)
theorem J1d {X:Cx}{W:Wd}{st:Stmt}{rest:List Stmt}{d1:DS}{d2:DPX}(h1:JS X W st d1)(h2:JPXs X W rest d2):JPXs X W (st::rest) (fun P F=>d1 { F with nx:=d2 P F }):=⟨(AA h1.h h2.h).mono fun E σ H hh=>by
 obtain ⟨pn,M,b,ρ,F,P,s,l,lg,h⟩:=hh
 exact ⟨pn,M,b,ρ,{ F with nx:=d2 P F },s,⟨fun M b ρ σ H s' h'=>⟨pn,M,b,ρ,F,P,s',l,lg,h'⟩,l.rt,l.bk,l.ct,l.ro⟩,h⟩⟩
theorem Fun.okDXP {P:Program}{w:World} {mg:Str->Option Value}{base:Heap}{CX:CXT}{x qual:Str}{st:Stmt}{f:Addr} {N ps:List Str}{k:Nat}{B:BagT}{Sd:YR}(F:Fun K x qual st f fd)(S:FnScope N ps (J4 st))(len:∀ ds PP Ed,Sd ds PP Ed->ds.length=ps.length)
 (hbody:∀ (cdv:Value) (A:Around) (outer:List Env) (s:Shared) (H:Hp) (E:XK) (M:Addr->Prop) (bg:Option Addr) (ds:List D) (PP:Frg->D->Prop) (Ed:Addr->Prop),Room k (A.deeper (envOfC qual (J4 st) s.heap.objs.size f cdv))->DY ⟨K,B,H,M,bg⟩ E Ed->Sd ds PP Ed ->
  ∃ d:DPX,JPXs (Z8 CX P w K mg base N qual (J4 st) f cdv A outer s H E) ⟨K,B,H,M,bg⟩ (AH st) d/\d PP { nx:=fun _=>False,rt:=fun _=>False } (AJ N ds)):FnOk P w K mg base CX (k+1) f fd ps (BH K B Sd) :=
 F.okX S (BH.len len) fun cdv A outer s H vs Q E hr h=>by
  obtain ⟨M,bg,ds,PP,Ed,hS,hR,ho,hb,hd,hq,hx⟩:=h
  obtain ⟨d,J,q⟩:=hbody cdv A outer s H E M bg ds PP Ed hr (fun C H' e k o=>hx C H' e k o) hS
  exact ⟨_,J.h,[],M,bg,AJ N ds,{ nx:=fun _=>False,rt:=fun _=>False },PP,J2d hR ho hb hd,⟨fun _ _ _ _ _ _ h=>h.elim,fun _ _ _ h=>h.elim,fun _ _ _ _ _ _ h=>h.elim,fun _ _ _ _ _ _ h=>h.elim,fun _ _ _ _ h=>h.elim⟩,fun f d v H' hp gn k o=>hq f d v H' hp gn k o,q⟩
section
variable {W:Wd}{e b c:Expr}{p:Pos}
theorem J0d {pn:List (D×V)} {b:Option Addr}{H H1 H2:Hp}{σ:St}{ρ:Ev}{xs ys:List D}{vs us:List V}{p1 p2 p:Addr}(s:Sta W pn M b H σ ρ)(n1:H p1=none)(e1:H1 p1=some (.lst vs))(r1:Reps W.K (fun c=>M c\/c=p1) H1 xs vs)(k1:Kp b H H1)(o1:okB W.B b H1)(n2:H1 p2=none)(e2:H2 p2=some (.lst us))(r2:Reps W.K (fun c=>(M c\/c=p1)\/c=p2) H2 ys us)(k2:Kp b H1 H2)(o2:okB W.B b H2)(hp:H2 p=none) :
 PNew W.K M H (upd H2 p (.tup [.ref p1,.ref p2])) (tpF W.K p [p1,p2] [xs,ys]) (.tup ([xs,ys].map D.lst)) (.ref p):=by
 have n2':H p2=none:=GN k1 o1 n2
 have b1:b≠some p1:=fun z=>by
  obtain ⟨o,e⟩:=W.B.dm p1 H (s.ok p1 z)
  rw [n1] at e;cases e
 have e1':H2 p1=some (.lst vs):=k2 p1 _ b1 e1
 have n12:p1≠p2:=fun z=>by rw [z,n2] at e1;cases e1
 have np1:p≠p1:=fun z=>by rw [z,e1'] at hp;cases hp
 have np2:p≠p2:=fun z=>by rw [z,e2] at hp;cases hp
 have npM:¬ M p:=((s.step k1 o1).step k2 o2).toHs.new hp
 have bM:∀ c,b=some c->M c:=s.bagM
 have cl:∀ c,c∈[p1,p2]↔c=p1\/c=p2:=fun c=>by simp
 have hr:RowsR W.K (fun c=>M c\/c∈[p1,p2]) (upd H2 p (.tup [.ref p1,.ref p2])) [p1,p2] [xs,ys]:=by
  refine ⟨xs,[ys],vs,rfl,Same.upd hp _ _ e1',Reps.keep (fun c o n e=>Same.upd hp c o (k2 c o (fun z=>n (.inl (bM c z))) e)) _ _ (Reps.avoid (fun c m=>?_) _ _ r1),ys,[],us,rfl,Same.upd hp _ _ e2,Reps.keep (fun c o n e=>Same.upd hp c o e) _ _ (Reps.avoid (fun c m=>.inl ?_) _ _ r2),rfl⟩
  · rcases m with m|m
    · exact .inl (.inl m)
    · rcases (cl c).mp m with z|z
      · exact .inl (.inr z)
      · exact .inr (by rw [z];exact n2)
  · rcases m with m|m
    · exact .inl (.inl m)
    · rcases (cl c).mp m with z|z
      · exact .inl (.inr z)
      · exact .inr z
 have np:¬ (M p\/p∈[p1,p2]):=fun m=>m.elim npM fun z=>((cl p).mp z).elim np1 np2
 have new:∀ c∈[p1,p2],H c=none:=fun c m=>((cl c).mp m).elim (fun z=>by rw [z];exact n1) fun z=>by rw [z];exact n2'
 refine ⟨new,⟨rfl,np,by simp [n12],Q6,hr⟩,Rep.avoid (fun c m=>.inl ⟨.inl m,fun z=>?_⟩) _ _ (ZB np Q6 hr)⟩
 obtain ⟨o,e⟩:=s.dom c m
 rw [new c z] at e;cases e
end
section
variable {X:Cx}{W:Wd}{e b c l:Expr}{es:List Expr}{pos p:Pos}{dA:DA}{x:Str}{k:Nat}{ps:List Str}{S:YR}
structure TpAt (W:Wd)(M:Addr->Prop)(b:Option Addr)(H:Hp)(v:V)(p:Addr)(rs:List Addr)(rows:List (List D)):Prop where
 ev:v=.ref p
 np:¬ M p
 hp:H p=some (.tup (rs.map V.ref))
 ho:∀ c∈rs,M c/\b≠some c/\W.H0 c=none/\¬ W.M0 c
 nd:rs.Nodup
 hr:RowsR W.K M H rs rows
theorem TpAt.of {b:Option Addr}{H:Hp}{v:V}{p:Addr}{rs:List Addr}{rows:List (List D)}(r:RepX W M b H (tpd W.K p rs rows) v):TpAt W M b H v p rs rows:=by
 obtain ⟨ho,⟨e,np,nd,hp,hr⟩,_⟩:=r
 exact ⟨e,np,hp,ho,nd,hr⟩
theorem TpAt.get {b:Option Addr}{H:Hp}{v:V}{p:Addr}{rs:List Addr}{rows:List (List D)}{k:Nat}{row:List D}(t:TpAt W M b H v p rs rows)(er:rows[k]?=some row):∃ r us,rs[k]?=some r/\H r=some (.lst us)/\Reps W.K M H row us:=by
 have hk:k<rs.length:=by rw [<- t.hr.length];exact (List.getElem?_eq_some_iff.mp er).1
 obtain ⟨row',us,er',hh,rr⟩:=t.hr.at (List.getElem?_eq_getElem hk)
 rw [er] at er';cases er'
 exact ⟨_,us,List.getElem?_eq_getElem hk,hh,rr⟩
def ZC (K:Fg)(P:Addr->List Addr->List (List D)->Prop):Frg->D->Prop:=fun f d=>∃ p rs rows,f=tpF K p rs rows/\d=.tup (rows.map D.lst)/\(∀ r∈rows,EF r=true)/\P p rs rows
theorem J6u {pn:List (D×V)} {b:Option Addr}{H1:Hp}{σ:St}{ρ:Ev}{xs:List D}{vs:List V}{P:Addr->List Addr->List (List D)->Prop}{Q:VK}{E:XK}{Ed:Addr->Prop}(hE:DY W E Ed)(st1:Sta W pn M b H1 σ ρ)(rx:RepXs W M b H1 xs vs)(hS:S (xs.map bor) (ZC W.K P) Ed)
 (k:∀ p rs rows v H',P p rs rows->PNew W.K M H1 H' (tpF W.K p rs rows) (.tup (rows.map D.lst)) v->Kp b H1 H'->okB W.B b H'->Q v H'):BH W.K W.B S vs H1 Q E:=by
 refine ⟨fun c=>M c/\¬ BorAt xs vs c,b,xs.map bor,_,Ed,hS,RepXs.bor2 (fun c h=>h.1) _ _ (fun c h z=>z.2 h) rx,st1.ok,fun p h=>⟨st1.bagM p h,fun z=>(BorAt.lst xs vs rx z).1 h⟩,fun c hc=>st1.dom c hc.1,fun f d v H' hp gn k2 o2=>?_,fun C H' hC k2 o2=>?_⟩
 · obtain ⟨p,rs,rows,rfl,rfl,nl,hp⟩:=hp
   obtain ⟨e,np,nd,hh,hr⟩:=gn.R
   have lst:∀ c,M c->(M c/\¬ BorAt xs vs c)\/∃ o,H' c=some o/\∀ vs,o≠.tup vs:=fun c m=>by
    by_cases z:BorAt xs vs c
    · obtain ⟨nb,us',e,nt⟩:=BorAt.lst xs vs rx z
      exact .inr ⟨us',k2 c _ nb e,nt⟩
    · exact .inl ⟨m,z⟩
   have np2:¬ (M p\/p∈rs):=fun z=>z.elim (fun m=>(lst p m).elim (fun y=>np (.inl y)) fun y=>by
    obtain ⟨o,e1,e2⟩:=y
    rw [hh] at e1
    exact e2 _ (Option.some.inj e1).symm) fun m=>np (.inr m)
   have hr2:RowsR W.K (fun c=>M c\/c∈rs) H' rs rows:=RowsR.unbor (fun c m=>m.elim (fun z=>(lst c z).imp .inl id) fun z=>.inl (.inr z)) rs rows nl hr
   refine k p rs rows v H' hp ⟨gn.new,⟨e,np2,nd,hh,hr2⟩,?_⟩ k2 o2
   rw [e]
   exact Rep.avoid (fun c m=>.inl ⟨.inl m,fun z=>by
    obtain ⟨o,y⟩:=st1.dom c m
    rw [gn.new c z] at y;cases y⟩) _ _ (ZB np2 hh hr2)
 · have st2:=st1.step k2 o2
   exact hE C H' hC st2.kp st2.ok0
noncomputable def J6q (K:Fg)(S:YR)(Ed:Addr->Prop)(dA:DA):DE:=fun ρ P=>dA ρ fun ds=>S (ds.map bor) (ZC K fun _ _ rows=>P (.tup (rows.map D.lst))) Ed
theorem YA {CX:CXT}{E:XK}{Ed:Addr->Prop}(hE:DY W E Ed)(hp:DL CX X E)(G:Callee X.prog X.w X.K X.mg X.base CX x k ps (BH W.K W.B S))(hr:Room k X.A)(hg:Gl X x)(ha:JA X W (e::es) dA)
 (hdb:(x==("__debug__" : Str))=false:=by decide) (he:starEach (e::es) X.env=(false,eval e X.env)::starEach es X.env:=by rfl) (hpl:(backTo pos (starEach es X.env)).any (·.1)=false:=by rfl) :
 JE X W (.Call (.Name x p) (e::es) [] pos) (J6q W.K S Ed dA):=⟨(NX hp G hr hg ha.h hdb he hpl).mono fun σ H Q hh=>hh.elim fun pn M b ρ P st h k=>by
 refine ⟨pn,M,b,ρ,_,st,h,fun xs vs H1 hx rx k1 o1=>?_⟩
 have st1:=st.step k1 o1
 show BH W.K W.B S (vs++[]) H1 _ E
 rw [List.append_nil]
 exact J6u hE st1 rx hx fun p rs rows v H' hp gn k2 o2=>k _ _ H' hp gn.rep (k1.trans k2) o2⟩
noncomputable def Q1g (K:Fg)(d1 d2:DA):DPX:=fun P _ ρ=>d1 ρ fun xs=>d2 ρ fun ys=>∀ p rs,P (tpF K p rs [xs,ys]) (.tup ([xs,ys].map D.lst))
theorem PNew.out {pn:List (D×V)} {b:Option Addr}{H H':Hp}{σ:St}{ρ:Ev}{f:Frg}{d:D}{v:V}(s:Sta W pn M b H σ ρ)(gn:PNew W.K M H H' f d v):PNew W.K W.M0 W.H0 H' f d v :=
 ⟨fun c m=>(s.fresh0 (gn.new c m)).1,f.avoid _ _ H' v (fun c z=>.inl (z.imp (s.m0 c) id)) gn.R,Rep.avoid (fun c m=>.inl (s.m0 c m)) _ _ gn.rep⟩
theorem XT {d1 d2:DA}{e1 e2:Expr}{x1}{tpos:Pos}(hpa:PA X [e1,e2] (ZF (dnF W d1) (ZF (dnF W d2) Q2n))):JPXs X W [.Return (some (.Tuple [e1,e2] x1 tpos)) pos] (Q1g W.K d1 d2):=⟨(CH (EW (TH hpa))).mono fun E σ H hh=>by
 obtain ⟨pn,M,b,ρ,F,P,s,l,lg,h⟩:=hh
 refine ⟨pn,M,b,ρ,_,s.toSta,h,fun xs vs p1 H1 hx n1 e1 r1 k1 o1=>?_⟩
 have t1:Sta W pn (fun c=>M c\/c=p1) b H1 σ ρ:=s.toSta.grow (fun c z=>z.imp id fun y=>by rw [y];exact n1) (fun c z=>.inl z) k1 o1 fun c z=>z.elim ((s.toSta.step k1 o1).dom c) fun y=>by rw [y];exact ⟨_,e1⟩
 refine ⟨pn,_,b,ρ,_,t1,hx,fun ys us p2 H2 hy n2 e2 r2 k2 o2=>⟨Nat.le_trans (Nat.le_of_ble_eq_true rfl) AT,fun p hp=>?_⟩⟩
 have gn:=J0d (W:=W) s.toSta n1 e1 r1 k1 o1 n2 e2 r2 k2 o2 hp
 have s3:=((s.toSta.step k1 o1).step k2 o2).step (Kp.upd (o:=.tup [.ref p1,.ref p2]) hp) (((s.toSta.step k1 o1).step k2 o2).toHs.okU hp)
 exact lg _ _ _ _ (hy p [p1,p2]) (gn.out s.toSta) s3.kp s3.ok0⟩
end
theorem J1h {X:Cx}{W:Wd}{e:Expr}{pos:Pos}{dA:DA}{i j:Nat}{x y:Str}{npos apos cpos pos':Pos}(hK:X.K=W.K)(hN:X.N.Nodup)(hi:X.N[j]?=some y)(hx:Loc X.env.scope y)(ha:JA X W [e] dA)
 (h:PE X (.Call (.Attribute (.Name x npos) "pop" apos) [e] [] cpos) (tBM X.K "list" SV (SO i) (dnA W dA))) (hs:swapsWith (.Call (.Attribute (.Name x npos) "pop" apos) [e] [] cpos) (some (.Name y pos')) pos.line X.env=pure false:=by rfl) (hf:X.fn y=true\/X.env.scope.names.lookup y=some .local:=by first|exact .inl rfl|exact .inr rfl|assumption) :
 JS X W (.Assign [.Name y pos'] (.Call (.Attribute (.Name x npos) "pop" apos) [e] [] cpos) pos) (J2q i (gdN j) dA):=⟨(BX hN hi hx (by rw [hK] at h;exact h) hs hf).mono (J3y (V1 j))⟩
def FZ (m:Nat):Prop:=m=7\/m=31\/m=127
def HC (m:Nat)(p:SetTable.Probe):SetTable.Probe:=if p.more>0 then { p with j:=p.j+1,more:=p.more - 1 } else { p with j:=(SetTable.leap m p.i p.perturb).1,more:=SetTable.runEnd m (SetTable.leap m p.i p.perturb).1 - (SetTable.leap m p.i p.perturb).1,i:=(SetTable.leap m p.i p.perturb).1,perturb:=(SetTable.leap m p.i p.perturb).2 }
def stM (m i q:Nat):SetTable.Probe:={ j:=i,more:=SetTable.runEnd m i - i,i,perturb:=q,dummy:=none }
def sqM (m:Nat)(h:Int):Nat->SetTable.Probe
 | 0=>stM m (SetTable.bits h % (m+1)) (SetTable.bits h)
 | n+1=>HC m (sqM m h n)
def V3 (m:Nat)(h:Int)(n:Nat):Nat:=(sqM m h n).j
theorem J3i (t:SetTable)(p:SetTable.Probe):t.advance p=HC t.mask p:=by
 unfold SetTable.advance HC
 split<;>rfl
theorem UV (m:Nat)(h:Int):∀ n,(sqM m h n).dummy=none
 | 0=>rfl
 | n+1=>by
   have:=UV m h n
   show (HC m (sqM m h n)).dummy=none
   unfold HC
   split<;>exact this
noncomputable def gI (m:Nat):Nat->Nat->Nat
 | 0,i=>i
 | r+1,i=>gI m r ((5*i+1) % (m+1))
theorem KM (m:Nat):∀ a b i,gI m (a+b) i=gI m b (gI m a i)
 | 0,b,i=>by rw [Nat.zero_add];rfl
 | a+1,b,i=>by rw [Nat.add_right_comm];exact KM m a b _
theorem XG {m:Nat}(h:FZ m):(∀ j,j<=m->∃ r,r<=m/\gI m r 0=j)/\gI m (m+1) 0=0:=by
 have f:∀ m:Nat,((List.range (m+1)).all fun j=>(List.range (m+1)).any fun r=>gI m r 0==j)=true->∀ j,j<=m->∃ r,r<=m/\gI m r 0=j:=fun m e j hj=>by
  have:=List.all_eq_true.mp e j (List.mem_range.mpr (by omega))
  obtain ⟨r,hr,q⟩:=List.any_eq_true.mp this
  exact ⟨r,by have:=List.mem_range.mp hr;omega,by simpa using q⟩
 rcases h with rfl|rfl|rfl
 · exact ⟨f _ (by decide +kernel),by decide +kernel⟩
 · exact ⟨f _ (by decide +kernel),by decide +kernel⟩
 · exact ⟨f _ (by decide +kernel),by decide +kernel⟩
theorem MK {m:Nat}(h:FZ m){i j:Nat}(hi:i<=m)(hj:j<=m):∃ r,r<=m/\gI m r i=j:=by
 obtain ⟨o,z⟩:=XG h
 obtain ⟨a,ha,rfl⟩:=o i hi
 obtain ⟨b,hb,rfl⟩:=o j hj
 by_cases l:a<=b
 · exact ⟨b - a,by omega,by rw [<- KM,show a+(b - a)=b by omega]⟩
 · refine ⟨b+(m+1) - a,by omega,?_⟩
   rw [<- KM,show a+(b+(m+1) - a)=(m+1)+b by omega,KM,z]
theorem JK (m i:Nat)(h:i<=m):i<=SetTable.runEnd m i/\SetTable.runEnd m i<=m/\SetTable.runEnd m i - i<=9:=by
 unfold SetTable.runEnd
 split<;>omega
theorem HF {m i q:Nat}{h:Int}{n:Nat}(e:sqM m h n=stM m i q):∀ c,c<=SetTable.runEnd m i - i->sqM m h (n+c)={ stM m i q with j:=i+c,more:=SetTable.runEnd m i - i - c }
 | 0,_=>by rw [Nat.add_zero,e];rfl
 | c+1,hc=>by
   have:=HF e c (by omega)
   show HC m (sqM m h (n+c))=_
   rw [this]
   unfold HC
   rw [if_pos (by show SetTable.runEnd m i - i - c>0;omega)]
   show ({ j:=i+c+1,more:=_,i:=_,perturb:=_,dummy:=_ }:SetTable.Probe)=_
   congr 1
theorem QP {m i q:Nat}{h:Int}{n:Nat}(e:sqM m h n=stM m i q):sqM m h (n+(SetTable.runEnd m i - i)+1)=stM m (SetTable.leap m i q).1 (SetTable.leap m i q).2:=by
 have:=HF e (SetTable.runEnd m i - i) (Nat.le_refl _)
 show HC m (sqM m h (n+(SetTable.runEnd m i - i)))=_
 rw [this]
 unfold HC
 rw [if_neg (by show ¬ SetTable.runEnd m i - i - (SetTable.runEnd m i - i)>0;omega)]
 rfl
def bsM (m:Nat)(h:Int):Nat->Nat×Nat
 | 0=>(SetTable.bits h % (m+1),SetTable.bits h)
 | k+1=>SetTable.leap m (bsM m h k).1 (bsM m h k).2
theorem WE (m:Nat)(h:Int):∀ k,(bsM m h k).1<=m
 | 0=>Nat.le_of_lt_succ (Nat.mod_lt _ (Nat.succ_pos m))
 | k+1=>Nat.le_of_lt_succ (Nat.mod_lt _ (Nat.succ_pos m))
theorem J7s (m:Nat)(h:Int):∀ k,∃ n,n<=10*k/\sqM m h n=stM m (bsM m h k).1 (bsM m h k).2
 | 0=>⟨0,Nat.le_refl _,rfl⟩
 | k+1=>by
   obtain ⟨n,hn,e⟩:=J7s m h k
   have:=JK m _ (WE m h k)
   exact ⟨_,by omega,QP e⟩
theorem WD (m:Nat)(h:Int):∀ k,(bsM m h k).2=SetTable.bits h / 32 ^ k
 | 0=>by rw [Nat.pow_zero,Nat.div_one];rfl
 | k+1=>by
   show (bsM m h k).2 / 32=_
   rw [WD m h k,Nat.div_div_eq_div_mul,Nat.pow_succ]
theorem J6x (h:Int):SetTable.bits h<2 ^ 64:=by
 unfold SetTable.bits
 have:=Int.emod_nonneg h (show (2 ^ 64:Int)≠0 by decide)
 have:=Int.emod_lt_of_pos h (show (0:Int)<2 ^ 64 by decide)
 omega
theorem PF (m:Nat)(h:Int):∀ r,(bsM m h (13+r)).1=gI m r (bsM m h 13).1
 | 0=>rfl
 | r+1=>by
   have e:=PF m h r
   show (((bsM m h (13+r)).1*5+1+(bsM m h (13+r)).2 / 32) % (m+1))=_
   have z:(bsM m h (13+r)).2 / 32=0:=by
    rw [WD,Nat.div_div_eq_div_mul]
    refine Nat.div_eq_of_lt (Nat.lt_of_lt_of_le (J6x h) ?_)
    have:32 ^ 13<=32 ^ (13+r):=Nat.pow_le_pow_right (by decide) (by omega)
    have:(2:Nat) ^ 64<=32 ^ 13:=by decide +kernel
    omega
   rw [z,e,Nat.add_zero,KM m r 1]
   show _=(5*_+1) % (m+1)
   rw [Nat.mul_comm]
theorem J4r {m:Nat}(h:FZ m)(x:Int){j:Nat}(hj:j<=m):∃ n,n<10*(m+15)/\V3 m x n=j:=by
 obtain ⟨r,hr,e⟩:=MK h (WE m x 13) hj
 obtain ⟨n,hn,q⟩:=J7s m x (13+r)
 refine ⟨n,by omega,?_⟩
 unfold V3
 rw [q,PF,e]
 rfl
theorem GP {α:Type}[BEq α][LawfulBEq α]:∀ (ks L:List α),ks.Nodup->(∀ r∈ks,r∈L)->ks.length<=L.length
 | [],_,_,_=>Nat.zero_le _
 | k::ks,L,nd,h=>by
   have hk:=h k (List.mem_cons_self ..)
   have:=GP ks (L.erase k) (List.nodup_cons.mp nd).2 fun r hr=>(List.mem_erase_of_ne (fun (z:r=k)=>(List.nodup_cons.mp nd).1 (by rw [<- z];exact hr))).mpr (h r (List.mem_cons_of_mem _ hr))
   rw [List.length_erase_of_mem hk] at this
   have:=List.length_pos_of_mem hk
   rw [List.length_cons]
   omega
theorem GE {t:SetTable}(asc:Asc t.place){i j:Nat}(e:t.place[i]?=some j):t.slot j=.live i:=by
 obtain ⟨b1,b2,b3⟩:=EK asc j
 obtain ⟨hi,ei⟩:=Array.getElem?_eq_some_iff.mp e
 have eb:SetTable.below t.place j=i:=by
  rcases Nat.lt_trichotomy (SetTable.below t.place j) i with z|z|z
  · have hb:SetTable.below t.place j<t.place.size:=by omega
    have a:=b3 _ hb (Nat.le_refl _)
    have b:=asc.lt z hi
    omega
  · exact z
  · have:=b2 i hi z
    omega
 unfold SetTable.slot
 dsimp only
 rw [eb,e]
 simp
theorem GR {t:SetTable}(d:t.dummies=#[]){j:Nat}(h:t.slot j≠.empty):∃ i,t.slot j=.live i/\t.place[i]?=some j:=by
 unfold SetTable.slot at h ⊢
 dsimp only at h ⊢
 split
 · rename_i z
   exact ⟨_,rfl,by simpa using z⟩
 · rename_i z
   rw [if_neg z,d] at h
   simp [SetTable.has] at h
theorem J1y {t:SetTable}(d:t.dummies=#[])(f:t.place.size<=t.mask):∃ j,j<=t.mask/\t.slot j=.empty:=by
 apply Decidable.byContradiction
 intro n
 have all:∀ j∈List.range (t.mask+1),j∈t.place.toList:=fun j hj=>by
  have hj:=List.mem_range.mp hj
  have:t.slot j≠.empty:=fun z=>n ⟨j,by omega,z⟩
  obtain ⟨i,_,e⟩:=GR d this
  rw [<- Array.getElem?_toList] at e
  exact List.mem_of_getElem? e
 have:=GP _ _ List.nodup_range all
 rw [List.length_range,Array.length_toList] at this
 omega
theorem Q3r {P:Nat->Prop}:∀ n,P n->∃ N,N<=n/\P N/\∀ m,m<N->¬ P m:=by
 intro n
 induction n using Nat.strongRecOn with
 | _ n ih =>
   intro h
   by_cases z:∃ m,m<n/\P m
   · obtain ⟨m,hm,q⟩:=z
     obtain ⟨N,a,b,c⟩:=ih m hm q
     exact ⟨N,by omega,b,c⟩
   · exact ⟨n,Nat.le_refl _,h,fun m hm q=>z ⟨m,hm,q⟩⟩
theorem SS {t:SetTable}(hm:FZ t.mask)(d:t.dummies=#[])(f:t.place.size<=t.mask)(h:Int):∃ N,N<10*(t.mask+15)/\t.slot (V3 t.mask h N)=.empty/\∀ m,m<N->t.slot (V3 t.mask h m)≠.empty:=by
 obtain ⟨j,hj,e⟩:=J1y d f
 obtain ⟨n,hn,rfl⟩:=J4r hm h hj
 obtain ⟨N,a,b,c⟩:=Q3r (P:=fun n=>t.slot (V3 t.mask h n)=.empty) n e
 exact ⟨N,by omega,b,c⟩
theorem JL {t:SetTable}{ha:Nat->Int}{h:Int}{N:Nat}(d:t.dummies=#[])(e:t.slot (V3 t.mask h N)=.empty)(o:∀ m,m<N->t.slot (V3 t.mask h m)≠.empty):∀ (fuel n:Nat),n<=N->N - n<fuel ->
 (SetTable.probe.go t ha h fuel (sqM t.mask h n)=some (.empty (V3 t.mask h N) none)/\∀ m i,n<=m->m<N->t.slot (V3 t.mask h m)=.live i->ha i≠h) \/
 ∃ m i,n<=m/\m<N/\t.slot (V3 t.mask h m)=.live i/\ha i=h/\SetTable.probe.go t ha h fuel (sqM t.mask h n)=some (.candidate (V3 t.mask h m) i (sqM t.mask h (m+1)))/\∀ m' i',n<=m'->m'<m->t.slot (V3 t.mask h m')=.live i'->ha i'≠h
 | 0,n,h1,h2=>by omega
 | fuel+1,n,h1,h2=>by
   unfold SetTable.probe.go
   by_cases z:n=N
   · subst z
     left
     have e':t.slot (sqM t.mask h n).j=.empty:=e
     rw [e']
     dsimp only
     rw [UV]
     exact ⟨rfl,fun m i a b=>by omega⟩
   · obtain ⟨i,e',_⟩:=GR d (o n (by omega))
     have e2:t.slot (sqM t.mask h n).j=.live i:=e'
     rw [e2]
     dsimp only
     by_cases q:ha i=h
     · right
       rw [if_pos (by simpa using q)]
       exact ⟨n,i,Nat.le_refl _,by omega,e',q,by rw [J3i];rfl,fun m' i' a b=>by omega⟩
     · rw [if_neg (by simpa using q),J3i]
       have ih:=JL (ha:=ha) d e o fuel (n+1) (by omega) (by omega)
       rcases ih with ⟨g,k⟩|⟨m,i',a,b,c,d',g,k⟩
       · left
         refine ⟨g,fun m i'' a b c=>?_⟩
         by_cases y:m=n
         · subst y
           rw [e'] at c
           cases c
           exact q
         · exact k m i'' (by omega) b c
       · right
         refine ⟨m,i',by omega,b,c,d',g,fun m' i'' a' b' c'=>?_⟩
         by_cases y:m'=n
         · subst y
           rw [e'] at c'
           cases c'
           exact q
         · exact k m' i'' (by omega) b' c'
def Rch (m:Nat)(occ:Nat->Prop)(h:Int)(j:Nat):Prop:=∃ n,V3 m h n=j/\∀ k,k<n->occ (V3 m h k)
theorem Rch.mono {m:Nat}{o o':Nat->Prop}{h:Int}{j:Nat}(r:Rch m o h j)(k:∀ x,o x->o' x):Rch m o' h j:=by
 obtain ⟨n,e,a⟩:=r
 exact ⟨n,e,fun c hc=>k _ (a c hc)⟩
theorem ZX (m:Nat)(h:Int):∀ n,(sqM m h n).i<=m/\(sqM m h n).j+(sqM m h n).more=SetTable.runEnd m (sqM m h n).i
 | 0=>by
   have a:SetTable.bits h % (m+1)<=m:=Nat.le_of_lt_succ (Nat.mod_lt _ (Nat.succ_pos m))
   have:=JK m _ a
   refine ⟨a,?_⟩
   show SetTable.bits h % (m+1)+(SetTable.runEnd m (SetTable.bits h % (m+1)) - SetTable.bits h % (m+1))=SetTable.runEnd m (SetTable.bits h % (m+1))
   omega
 | n+1=>by
   obtain ⟨a,b⟩:=ZX m h n
   show (HC m (sqM m h n)).i<=m/\(HC m (sqM m h n)).j+(HC m (sqM m h n)).more=SetTable.runEnd m (HC m (sqM m h n)).i
   unfold HC
   split
   · refine ⟨a,?_⟩
     show (sqM m h n).j+1+((sqM m h n).more - 1)=SetTable.runEnd m (sqM m h n).i
     omega
   · have a:(SetTable.leap m (sqM m h n).i (sqM m h n).perturb).1<=m:=Nat.le_of_lt_succ (Nat.mod_lt _ (Nat.succ_pos m))
     have:=JK m _ a
     refine ⟨a,?_⟩
     show (SetTable.leap m (sqM m h n).i (sqM m h n).perturb).1+(SetTable.runEnd m (SetTable.leap m (sqM m h n).i (sqM m h n).perturb).1 - (SetTable.leap m (sqM m h n).i (sqM m h n).perturb).1)=SetTable.runEnd m (SetTable.leap m (sqM m h n).i (sqM m h n).perturb).1
     omega
theorem Rch.mono' {m:Nat}{o o':Nat->Prop}{h:Int}{j:Nat}(r:Rch m o h j)(k:∀ x,x<=m->o x->o' x):Rch m o' h j:=by
 obtain ⟨n,e,a⟩:=r
 refine ⟨n,e,fun c hc=>k _ ?_ (a c hc)⟩
 obtain ⟨b,d⟩:=ZX m h c
 have:=JK m _ b
 unfold V3
 omega
structure RT (t:SetTable)(es:Array (Int×Value)):Prop where
 msk:FZ t.mask
 dum:t.dummies=#[]
 asc:Asc t.place
 siz:t.place.size=es.size
 le:es.size<=t.mask
 rch:∀ q∈t.place.toList.zip es.toList,Rch t.mask (·∈t.place.toList) q.2.1 q.1
theorem QH {t:SetTable}(d:t.dummies=#[])(a:Asc t.place)(j:Nat):t.slot j≠.empty↔j∈t.place.toList:=by
 constructor
 · intro h
   obtain ⟨i,_,e⟩:=GR d h
   rw [<- Array.getElem?_toList] at e
   exact List.mem_of_getElem? e
 · intro h
   obtain ⟨i,e⟩:=List.getElem?_of_mem h
   rw [Array.getElem?_toList] at e
   rw [GE a e]
   exact fun z=>by cases z
theorem RT.plain {t:SetTable}{es:Array (Int×Value)}(r:RT t es)(b:Bool):RT { t with plain:=b } es:=⟨r.msk,r.dum,r.asc,r.siz,r.le,r.rch⟩
theorem RT.fresh (f m:Nat)(l:Bool):RT (.fresh f m l) #[]:=⟨.inl rfl,rfl,by simp [SetTable.fresh,Asc],rfl,Nat.zero_le _,fun q h=>by simp [SetTable.fresh] at h⟩
theorem RT.end {t:SetTable}{es:Array (Int×Value)}(r:RT t es)(h:Int):∃ N,N<10*(t.mask+15)/\t.slot (V3 t.mask h N)=.empty/\∀ m,m<N->t.slot (V3 t.mask h m)≠.empty:=SS r.msk r.dum (by rw [r.siz];exact r.le) h
theorem RT.met {t:SetTable}{es:Array (Int×Value)}(r:RT t es){i N:Nat}{e:Int×Value}(he:es[i]?=some e)(eN:t.slot (V3 t.mask e.1 N)=.empty):∃ n,n<N/\t.slot (V3 t.mask e.1 n)=.live i:=by
 have hi:i<es.size:=(Array.getElem?_eq_some_iff.mp he).1
 have hp:t.place[i]?=some (t.place[i]'(by rw [r.siz];exact hi)):=Array.getElem?_eq_getElem _
 have hz:(t.place[i]'(by rw [r.siz];exact hi),e)∈t.place.toList.zip es.toList:=by
  refine List.mem_of_getElem? (i:=i) ?_
  rw [List.getElem?_zip_eq_some]
  exact ⟨by rw [Array.getElem?_toList];exact hp,by rw [Array.getElem?_toList];exact he⟩
 obtain ⟨n,en,o⟩:=r.rch _ hz
 have sl:=GE r.asc hp
 have en:V3 t.mask e.1 n=t.place[i]'(by rw [r.siz];exact hi):=en
 rw [<- en] at sl
 refine ⟨n,?_,sl⟩
 apply Decidable.byContradiction
 intro z
 by_cases y:N=n
 · rw [y,sl] at eN
   cases eN
 · exact absurd eN ((QH r.dum r.asc _).mpr (o N (by omega)))
theorem J3r {α β:Type}(a:List α)(b:List β)(x:α)(y:β)(p:Nat)(h:a.length=b.length):(a.take p++x::a.drop p).zip (b.take p++y::b.drop p)=(a.zip b).take p++(x,y)::(a.zip b).drop p:=by
 rw [List.zip_append (by rw [List.length_take,List.length_take,h]),List.zip_cons_cons]
 unfold List.zip
 rw [List.take_zipWith,List.drop_zipWith]
theorem RT.put {t:SetTable}{es:Array (Int×Value)}(r:RT t es){h:Int}{x:Value}{N:Nat}(eN:t.slot (V3 t.mask h N)=.empty)(o:∀ m,m<N->t.slot (V3 t.mask h m)≠.empty)(le:es.size+1<=t.mask) :
 RT (t.put (V3 t.mask h N)).1 (SetTable.insertAt es (t.put (V3 t.mask h N)).2 (h,x)):=by
 have hs:t.place[SetTable.below t.place (V3 t.mask h N)]?≠some (V3 t.mask h N):=fun z=>by
  rw [GE r.asc z] at eN
  cases eN
 have a2:=WH r.asc hs
 have dm:(t.put (V3 t.mask h N)).1.dummies=#[]:=by
  show (if SetTable.has t.dummies _ then _ else t.dummies)=_
  rw [r.dum]
  simp [SetTable.has]
 have pl:(t.put (V3 t.mask h N)).1.place.toList=t.place.toList.take (SetTable.below t.place (V3 t.mask h N))++V3 t.mask h N::t.place.toList.drop (SetTable.below t.place (V3 t.mask h N)):=SetTable.toList_insertAt ..
 have el:(SetTable.insertAt es (t.put (V3 t.mask h N)).2 (h,x)).toList=es.toList.take (SetTable.below t.place (V3 t.mask h N))++(h,x)::es.toList.drop (SetTable.below t.place (V3 t.mask h N)):=SetTable.toList_insertAt ..
 have mm:(t.put (V3 t.mask h N)).1.mask=t.mask:=rfl
 generalize SetTable.below t.place (V3 t.mask h N)=k at *
 have mem:∀ j,j∈(t.put (V3 t.mask h N)).1.place.toList↔j=V3 t.mask h N\/j∈t.place.toList:=fun j=>by
  rw [pl,List.mem_append,List.mem_cons]
  conv=>rhs;rw [<- List.take_append_drop k t.place.toList,List.mem_append]
  constructor
  · rintro (z|z|z)
    · exact .inr (.inl z)
    · exact .inl z
    · exact .inr (.inr z)
  · rintro (z|z|z)
    · exact .inr (.inl z)
    · exact .inl z
    · exact .inr (.inr z)
 have ln:t.place.toList.length=es.toList.length:=by rw [Array.length_toList,Array.length_toList];exact r.siz
 have z1:(SetTable.insertAt es (t.put (V3 t.mask h N)).2 (h,x)).size=es.size+1:=by
  rw [<- Array.length_toList,el]
  simp only [List.length_append,List.length_cons,List.length_take,List.length_drop,Array.length_toList]
  omega
 have z2:(t.put (V3 t.mask h N)).1.place.size=t.place.size+1:=by
  rw [<- Array.length_toList,pl]
  simp only [List.length_append,List.length_cons,List.length_take,List.length_drop,Array.length_toList]
  omega
 refine ⟨by rw [mm];exact r.msk,dm,a2,by rw [z1,z2,r.siz],by rw [z1,mm];exact le,fun q hq=>?_⟩
 rw [mm]
 rw [pl,el,J3r _ _ _ _ _ ln,List.mem_append,List.mem_cons] at hq
 have old:q∈t.place.toList.zip es.toList->Rch t.mask (·∈(t.put (V3 t.mask h N)).1.place.toList) q.2.1 q.1:=fun hq=>(r.rch q hq).mono fun j hj=>(mem j).mpr (.inr hj)
 rcases hq with hq|rfl|hq
 · exact old (List.mem_of_mem_take hq)
 · exact ⟨N,rfl,fun c hc=>(mem _).mpr (.inr ((QH r.dum r.asc _).mp (o c hc)))⟩
 · exact old (List.mem_of_mem_drop hq)
def QZ (o:Array (Option Nat))(j:Nat):Prop:=(o.getD j (some 0)).isNone=false
structure LI (m:Nat)(o:Array (Option Nat))(P:List Int):Prop where
 sz:o.size=m+1
 lt:∀ j k:Nat,o[j]?=some (some k)->k<P.length
 ex:∀ (k:Nat) (h:Int),P[k]?=some h->∃ j:Nat,o[j]?=some (some k)/\Rch m (QZ o) h j
 un:∀ i j k:Nat,o[i]?=some (some k)->o[j]?=some (some k)->i=j
theorem LI.room {m:Nat}{o:Array (Option Nat)}{P:List Int}(I:LI m o P)(h:P.length<=m):∃ j,j<=m/\o[j]?=some none:=by
 apply Decidable.byContradiction
 intro n
 have all:∀ j,j<=m->∃ k,o[j]?=some (some k):=fun j hj=>by
  have hl:j<o.size:=by rw [I.sz];omega
  have e:o[j]?=some o[j]:=Array.getElem?_eq_getElem hl
  cases q:o[j] with
  | none=>exact absurd ⟨j,hj,by rw [e,q]⟩ n
  | some k=>exact ⟨k,by rw [e,q]⟩
 have nd:((List.range (m+1)).map fun j=>((o[j]?).getD none).getD 0).Nodup:=by
  refine List.pairwise_map.mpr ?_
  refine List.Pairwise.imp_of_mem ?_ List.nodup_range
  intro a b ha hb hab e
  obtain ⟨k,ek⟩:=all a (by have:=List.mem_range.mp ha;omega)
  obtain ⟨k',ek'⟩:=all b (by have:=List.mem_range.mp hb;omega)
  rw [ek,ek'] at e
  have e:k=k':=e
  subst e
  exact hab (I.un a b k ek ek')
 have:=GP _ (List.range P.length) nd fun k hk=>by
  obtain ⟨j,hj,rfl⟩:=List.mem_map.mp hk
  obtain ⟨k,ek⟩:=all j (by have:=List.mem_range.mp hj;omega)
  rw [ek]
  exact List.mem_range.mpr (I.lt j k ek)
 rw [List.length_map,List.length_range,List.length_range] at this
 omega
theorem KO {p:Nat->Bool}:∀ {n k:Nat},(List.range n).find? p=some k->k<n/\p k=true/\∀ c,c<k->p c=false
 | 0,k,h=>by cases h
 | n+1,k,h=>by
   rw [List.range_succ,List.find?_append] at h
   cases e:(List.range n).find? p with
   | some k' =>
     rw [e] at h
     cases (Option.some.inj h)
     obtain ⟨a,b,c⟩:=KO e
     exact ⟨by omega,b,c⟩
   | none =>
     rw [e] at h
     have h:List.find? p [n]=some k:=h
     rw [List.find?_singleton] at h
     split at h
     · rename_i q
       cases h
       refine ⟨by omega,q,fun c hc=>?_⟩
       have:=List.find?_eq_none.mp e c (List.mem_range.mpr hc)
       simpa using this
     · cases h
theorem MV {m:Nat}{o:Array (Option Nat)}{h:Int}{K:Nat}(fK:(o.getD (bsM m h K).1 (some 0)).isNone=true):∀ (fuel k n:Nat),k<=K->K - k<fuel->sqM m h n=stM m (bsM m h k).1 (bsM m h k).2->(∀ c,c<n->QZ o (V3 m h c)) ->
 ∃ N,SetTable.layClean.free m o fuel (bsM m h k).1 (bsM m h k).2=some (V3 m h N)/\(o.getD (V3 m h N) (some 0)).isNone=true/\∀ c,c<N->QZ o (V3 m h c)
 | 0,k,n,h1,h2,_,_=>by omega
 | fuel+1,k,n,h1,h2,e,oc=>by
   unfold SetTable.layClean.free
   have rl:=JK m _ (WE m h k)
   have pos:∀ c,c<=SetTable.runEnd m (bsM m h k).1 - (bsM m h k).1->V3 m h (n+c)=(bsM m h k).1+c:=fun c hc=>by
    unfold V3
    rw [HF e c hc]
   cases q:(List.range (SetTable.runEnd m (bsM m h k).1+1 - (bsM m h k).1)).find? fun c=>(o.getD ((bsM m h k).1+c) (some 0)).isNone with
   | some c =>
     obtain ⟨a,b,d⟩:=KO q
     dsimp only
     refine ⟨n+c,by rw [pos c (by omega)],by rw [pos c (by omega)];exact b,fun c' hc'=>?_⟩
     by_cases y:c'<n
     · exact oc c' y
     · have:=d (c' - n) (by omega)
       unfold QZ
       rw [show c'=n+(c' - n) by omega,pos (c' - n) (by omega)]
       exact this
   | none =>
     dsimp only
     have nn:=List.find?_eq_none.mp q
     have kK:k<K:=by
      apply Decidable.byContradiction
      intro z
      have:k=K:=by omega
      subst this
      have:=nn 0 (List.mem_range.mpr (by omega))
      rw [Nat.add_zero] at this
      exact this fK
     refine MV fK fuel (k+1) (n+(SetTable.runEnd m (bsM m h k).1 - (bsM m h k).1)+1) (by omega) (by omega) (QP e) fun c' hc'=>?_
     by_cases y:c'<n
     · exact oc c' y
     · have:=nn (c' - n) (List.mem_range.mpr (by omega))
       unfold QZ
       rw [show c'=n+(c' - n) by omega,pos (c' - n) (by omega)]
       exact Bool.eq_false_iff.mpr this
def HA (m:Nat)(acc:Option (Array (Option Nat)×Nat))(h:Int):Option (Array (Option Nat)×Nat):=do
 let (owner,k) <- acc
 let j <- SetTable.layClean.free m owner (SetTable.turns m) (SetTable.bits h % (m+1)) (SetTable.bits h)
 pure (owner.setIfInBounds j (some k),k+1)
theorem J5o {m:Nat}(hm:FZ m){o:Array (Option Nat)}{P:List Int}(I:LI m o P)(hl:P.length<=m)(h:Int):∃ o',HA m (some (o,P.length)) h=some (o',(P++[h]).length)/\LI m o' (P++[h]):=by
 obtain ⟨j,hj,ej⟩:=I.room hl
 obtain ⟨r,hr,er⟩:=MK hm (WE m h 13) hj
 have fK:(o.getD (bsM m h (13+r)).1 (some 0)).isNone=true:=by
  rw [PF,er,Array.getD_eq_getD_getElem?,ej]
  rfl
 obtain ⟨N,e1,e2,e3⟩:=MV fK (SetTable.turns m) 0 0 (Nat.zero_le _) (by unfold SetTable.turns;omega) rfl fun c hc=>by omega
 have e1:SetTable.layClean.free m o (SetTable.turns m) (SetTable.bits h % (m+1)) (SetTable.bits h)=some (V3 m h N):=e1
 have pN:o[V3 m h N]?=some none:=by
  rw [Array.getD_eq_getD_getElem?] at e2
  cases q:o[V3 m h N]? with
  | none=>rw [q] at e2;cases e2
  | some v =>
    rw [q] at e2
    cases v with
    | none=>rfl
    | some k=>cases e2
 have pl:V3 m h N<o.size:=(Array.getElem?_eq_some_iff.mp pN).1
 refine ⟨o.setIfInBounds (V3 m h N) (some P.length),?_,?_⟩
 · unfold HA
   rw [List.length_append]
   show (SetTable.layClean.free m o (SetTable.turns m) (SetTable.bits h % (m+1)) (SetTable.bits h)).bind _=_
   rw [e1]
   rfl
 · have g:∀ i,(o.setIfInBounds (V3 m h N) (some P.length))[i]?=if V3 m h N=i then some (some P.length) else o[i]?:=fun i=>by
    rw [Array.getElem?_setIfInBounds]
    by_cases z:V3 m h N=i
    · rw [if_pos z,if_pos z,if_pos pl]
    · rw [if_neg z,if_neg z]
   have oc:∀ i,QZ o i->QZ (o.setIfInBounds (V3 m h N) (some P.length)) i:=fun i hi=>by
    unfold QZ at *
    rw [Array.getD_eq_getD_getElem?] at hi ⊢
    rw [g i]
    split
    · rfl
    · exact hi
   refine ⟨by rw [Array.size_setIfInBounds];exact I.sz,fun i k e=>?_,fun k x e=>?_,fun i i' k e e'=>?_⟩
   · rw [g i] at e
     rw [List.length_append]
     split at e
     · cases e;show _<_+1;omega
     · have:=I.lt i k e
       omega
   · by_cases z:k<P.length
     · rw [List.getElem?_append_left z] at e
       obtain ⟨i,ei,ri⟩:=I.ex k x e
       refine ⟨i,?_,ri.mono oc⟩
       rw [g i,if_neg fun y=>by rw [y] at pN;rw [pN] at ei;cases ei]
       exact ei
     · have hk:k=P.length:=by
        have:=(List.getElem?_eq_some_iff.mp e).1
        rw [List.length_append] at this
        have:k<P.length+1:=this
        omega
       subst hk
       rw [List.getElem?_append_right (Nat.le_refl _),Nat.sub_self] at e
       cases e
       exact ⟨_,by rw [g,if_pos rfl],N,rfl,fun c hc=>oc _ (e3 c hc)⟩
   · rw [g i] at e
     rw [g i'] at e'
     split at e<;>split at e'
     · rename_i a b;exact a.symm.trans b
     · cases e
       exact absurd (I.lt _ _ e') (Nat.lt_irrefl _)
     · cases e'
       exact absurd (I.lt _ _ e) (Nat.lt_irrefl _)
     · exact I.un i i' k e e'
theorem VL {m:Nat}(hm:FZ m):∀ (l:List Int) (o:Array (Option Nat)) (P:List Int),LI m o P->P.length+l.length<=m+1->∃ o',l.foldl (HA m) (some (o,P.length))=some (o',(P++l).length)/\LI m o' (P++l)
 | [],o,P,I,_=>⟨o,by rw [List.append_nil];rfl,by rw [List.append_nil];exact I⟩
 | h::l,o,P,I,hl=>by
   rw [List.length_cons] at hl
   obtain ⟨o1,e1,I1⟩:=J5o hm I (by omega) h
   obtain ⟨o2,e2,I2⟩:=VL hm l o1 (P++[h]) I1 (by rw [List.length_append];show _+1+_<=_;omega)
   refine ⟨o2,?_,?_⟩
   · rw [List.foldl_cons,e1,e2]
     simp
   · rw [List.append_assoc] at I2
     exact I2
theorem XQ {m:Nat}(hm:FZ m)(hs:Array Int)(hl:hs.size<=m+1):∃ o,SetTable.layClean m hs=some o/\LI m o hs.toList:=by
 obtain ⟨o,e,I⟩:=VL hm hs.toList (Array.replicate (m+1) none) [] ⟨by simp,fun j k e=>(by rw [Array.getElem?_replicate] at e;split at e<;>(cases e)),fun k h e=>(by cases e),fun i j k e=>(by rw [Array.getElem?_replicate] at e;split at e<;>(cases e))⟩ (by rw [Array.length_toList];simpa using hl)
 refine ⟨o,?_,I⟩
 unfold SetTable.layClean
 rw [<- Array.foldl_toList]
 have e:hs.toList.foldl (HA m) (some (Array.replicate (m+1) none,0))=_:=e
 show Option.map _ (hs.toList.foldl (HA m) _)=_
 rw [e]
 rfl
theorem RF (g:Nat->Option Nat):∀ l:List Nat,∀ p:Nat×Nat,p∈(l.filterMap fun j=>(g j).map (j,·))↔p.1∈l/\g p.1=some p.2
 | [],p=>by simp
 | a::l,p=>by
   have ih:=RF g l p
   rw [List.filterMap_cons]
   cases q:g a with
   | none =>
     show p∈l.filterMap _↔_
     rw [ih,List.mem_cons]
     constructor
     · rintro ⟨x,y⟩;exact ⟨.inr x,y⟩
     · rintro ⟨x|x,y⟩
       · rw [x,q] at y;cases y
       · exact ⟨x,y⟩
   | some b =>
     show p∈(a,b)::l.filterMap _↔_
     rw [List.mem_cons,ih,List.mem_cons]
     constructor
     · rintro (rfl|⟨x,y⟩)
       · exact ⟨.inl rfl,q⟩
       · exact ⟨.inr x,y⟩
     · rintro ⟨x|x,y⟩
       · left
         rw [x,q] at y
         cases y
         rw [<- x]
       · exact .inr ⟨x,y⟩
theorem PL {α β γ:Type}(f:α->β)(g:α->γ):∀ l:List α,(l.map f).zip (l.map g)=l.map fun a=>(f a,g a)
 | []=>rfl
 | a::l=>by rw [List.map_cons,List.map_cons,List.zip_cons_cons,PL f g l];rfl
theorem ZM {t:SetTable}{es:Array (Int×Value)}{wanted m:Nat}(hw:SetTable.sizeAbove wanted - 1=m)(hm:FZ m)(hl:es.size<=m) :
 ∃ t' ord,t.relaid (es.map (·.1)) wanted=some (t',ord)/\(ord.filterMap (es[·]?)).size=es.size/\(ord.filterMap (es[·]?)).toList.Perm es.toList/\RT t' (ord.filterMap (es[·]?))/\t'.fits es.size=true/\t'.led=t.led:=by
 obtain ⟨o,eo,I⟩:=XQ hm (es.map (·.1)) (by rw [Array.size_map];omega)
 have Pl:(es.map (·.1)).toList=es.toList.map (·.1):=Array.toList_map
 have Pn:(es.map (·.1)).toList.length=es.size:=by rw [Array.length_toList,Array.size_map]
 obtain ⟨live,hlive⟩:∃ live:List (Nat×Nat),live=(List.range (m+1)).filterMap fun j=>(o.getD j none).map (j,·):=⟨_,rfl⟩
 have od:∀ j k:Nat,o.getD j none=some k↔o[j]?=some (some k):=fun j k=>by
  rw [Array.getD_eq_getD_getElem?]
  cases q:o[j]? with
  | none=>simp
  | some v=>simp
 have mem:∀ p,p∈live↔p.1<=m/\o[p.1]?=some (some p.2):=fun p=>by
  rw [hlive,RF,List.mem_range,od]
  constructor<;>rintro ⟨a,b⟩<;>exact ⟨by omega,b⟩
 have asc:(live.map (·.1)).Pairwise (· < ·):=by
  rw [hlive,FA]
  exact List.Pairwise.filter _ List.pairwise_lt_range
 have nd2:(live.map (·.2)).Nodup:=by
  have nd1:(live.map (·.1)).Nodup:=asc.imp fun h=>Nat.ne_of_lt h
  refine List.pairwise_map.mpr ?_
  refine List.Pairwise.imp_of_mem ?_ (List.pairwise_map.mp nd1)
  intro a b ha hb hab e
  have a2:=((mem a).mp ha).2
  have b2:=((mem b).mp hb).2
  rw [e] at a2
  exact hab (I.un _ _ _ a2 b2)
 have perm:(live.map (·.2)).Perm (List.range es.size):=(List.perm_ext_iff_of_nodup nd2 List.nodup_range).mpr fun k=>by
  rw [List.mem_range,List.mem_map]
  constructor
  · rintro ⟨p,hp,rfl⟩
    have:=I.lt _ _ ((mem p).mp hp).2
    omega
  · intro hk
    obtain ⟨j,ej,_⟩:=I.ex k ((es.map (·.1)).toList[k]'(by omega)) (List.getElem?_eq_getElem _)
    exact ⟨(j,k),(mem _).mpr ⟨by have:=(Array.getElem?_eq_some_iff.mp ej).1;rw [I.sz] at this;exact Nat.le_of_lt_succ this,ej⟩,rfl⟩
 have fm:(((live.map (·.2)).toArray).filterMap (es[·]?)).toList=live.filterMap fun p=>es[p.2]?:=by
  rw [Array.toList_filterMap,List.filterMap_map]
  rfl
 have pe:(((live.map (·.2)).toArray).filterMap (es[·]?)).toList.Perm es.toList:=by
  rw [fm]
  have:=perm.filterMap fun x=>es[x]?
  rw [filterMap_getElem?_range,List.filterMap_map] at this
  exact this
 have ll:live.length=es.size:=by
  have:=perm.length_eq
  rwa [List.length_map,List.length_range] at this
 have all:∀ p∈live,∃ e,es[p.2]?=some e:=fun p hp=>by
  have:p.2∈live.map (·.2):=List.mem_map.mpr ⟨p,hp,rfl⟩
  have:=List.mem_range.mp (perm.mem_iff.mp this)
  exact ⟨es[p.2],Array.getElem?_eq_getElem this⟩
 have em:(live.filterMap fun p=>es[p.2]?)=live.map fun p=>(es[p.2]?).getD (0,.none):=by
  clear pe fm nd2 perm asc mem hlive ll
  induction live with
  | nil=>rfl
  | cons p live ih =>
    obtain ⟨e,q⟩:=all p (List.mem_cons_self ..)
    rw [List.filterMap_cons,q,List.map_cons,q,ih fun x hx=>all x (List.mem_cons_of_mem _ hx)]
    rfl
 have sz:(((live.map (·.2)).toArray).filterMap (es[·]?)).size=es.size:=by
  rw [<- Array.length_toList,pe.length_eq,Array.length_toList]
 refine ⟨{ mask:=m,place:=(live.map (·.1)).toArray,dummies:=#[],finger:=t.finger,led:=t.led,moves:=t.movedTo m,plain:=t.plain },(live.map (·.2)).toArray,?_,sz,pe,⟨hm,rfl,by unfold Asc;simpa using asc,?_,by rw [sz];exact hl,fun q hq=>?_⟩,?_,rfl⟩
 · unfold SetTable.relaid SetTable.laid
   rw [hw,eo]
   subst hlive
   rfl
 · show ((live.map (·.1)).toArray).size=_
   rw [sz]
   simpa using ll
 · have hq:q∈((live.map (·.1)).toArray).toList.zip (((live.map (·.2)).toArray).filterMap (es[·]?)).toList:=hq
   rw [fm,em,List.toList_toArray,PL] at hq
   obtain ⟨p,hp,rfl⟩:=List.mem_map.mp hq
   obtain ⟨e,q⟩:=all p hp
   obtain ⟨hj,ho⟩:=(mem p).mp hp
   have eh:(es.map (·.1)).toList[p.2]?=some e.1:=by rw [Pl,List.getElem?_map,Array.getElem?_toList,q];rfl
   obtain ⟨j,ej,r⟩:=I.ex p.2 e.1 eh
   have e1:j=p.1:=I.un _ _ _ ej ho
   subst e1
   show Rch m _ ((es[p.2]?).getD (0,.none)).1 p.1
   rw [q]
   refine r.mono' fun x xm hx=>?_
   show x∈((live.map (·.1)).toArray).toList
   rw [List.toList_toArray]
   obtain ⟨k,hk⟩:∃ k,o[x]?=some (some k):=by
    have hl:x<o.size:=by rw [I.sz];omega
    have hx:(o.getD x (some 0)).isNone=false:=hx
    rw [Array.getD_eq_getD_getElem?,Array.getElem?_eq_getElem hl] at hx
    rw [Array.getElem?_eq_getElem hl]
    cases y:o[x] with
    | none=>rw [y] at hx;cases hx
    | some k=>exact ⟨k,rfl⟩
   exact List.mem_map.mpr ⟨(x,k),(mem _).mpr ⟨xm,hk⟩,rfl⟩
 · show (((live.map (·.1)).toArray).size==es.size&&decide (_<=m))=true
   have e:((live.map (·.1)).toArray).size=es.size:=by simpa using ll
   rw [e]
   simp [SetTable.fill,e]
   omega
local macro_rules | `(tactic| walk_at "un stored") => do let n := Lean.mkIdent (Lean.mkPrivateNameCore `PySem.SetOps `PySem.storedHashAt); `(tactic| unfold $n)
abbrev TK:=List Int×Addr
abbrev Y1 (prog:Program)(w:World)(k:List Int):Int:=(tiK prog w).hash k
structure TS0 (prog:Program)(w:World)(xs:List TK)(o:Obj)(es:Array (Int×Value))(ep:Nat)(t:SetTable):Prop where
 ex:o.ExactSet
 da:o.data=.set es ep t
 el:es.toList=xs.map fun x=>(Y1 prog w x.1,Value.ref x.2)
 nd:(xs.map (·.1)).Nodup
 rt:RT t es
 led:w.params.followText "set-order" = false->t.led=true
 ft:t.fits es.size=true
structure TSo (prog:Program)(w:World)(h:Heap)(xs:List TK)(o:Obj)(es:Array (Int×Value))(ep:Nat)(t:SetTable):Prop extends TS0 prog w xs o es ep t where
 is:∀ x∈xs,(tiK prog w).is h x.1 x.2
section
variable {prog:Program}{w:World}{A:Around}{E:Value->Shared->Prop}{s:Shared}{xs:List TK}{a b:Addr}{o:Obj}{es:Array (Int×Value)}{ep:Nat}{t:SetTable}{k:List Int}
theorem TSo.at (T:TSo prog w s.heap xs o es ep t){i:Nat}{e:Int×Value}(h:es[i]?=some e):∃ x,xs[i]?=some x/\e=(Y1 prog w x.1,.ref x.2)/\(tiK prog w).is s.heap x.1 x.2:=by
 rw [<- Array.getElem?_toList,T.el,List.getElem?_map] at h
 obtain ⟨x,ex,rfl⟩:=Option.map_eq_some_iff.mp h
 exact ⟨x,ex,rfl,T.is x (List.mem_of_getElem? ex)⟩
theorem NC {Q:Bool->Shared->Prop}(kb:(tiK prog w).is s.heap k b)(h:Q false s):wpAny (model prog w) A (ofAClassStatement 8 (.ref b)) Q E s:=by
 have hT:=IsTupleKey.typeIs kb
 obtain ⟨o,items,n,ho,hc,hd,hi⟩:=kb
 unfold ofAClassStatement
 refine wpAny_bind (wpAny_typeOf hT ?_)
 dsimp only
 refine wpAny_bind (wpAny_pure ?_)
 simp only [Bool.not_true,Bool.false_eq_true,if_false]
 refine wpAny_bind (wpAny_seqItems ho hd ?_)
 dsimp only
 refine wpAny_bind ?_
 rw [<- Array.forIn_toList]
 refine wpAny_forIn_list _ (fun rest r s'=>r.1=none/\s'=s/\∃ ks,ItemsAre (intKind prog w) ks rest) _ ?_ ?_ _ _ ⟨rfl,rfl,_,hi⟩
 · rintro v rest r s' ⟨hr,rfl,ks,hall⟩
   cases hall with
   | @cons k1 _ ks1 _ h1 h2 =>
     obtain ⟨t,rfl⟩:=Value.isInt_shape (show Value.isInt k1 v=true from h1)
     unfold ofAClassStatement
     refine wpAny_bind (wpAny_pure ?_)
     simp only [Bool.false_eq_true,if_false]
     exact wpAny_pure ⟨rfl,rfl,ks1,h2⟩
 · rintro ⟨r1,r2⟩ s' ⟨hr,rfl,_⟩
   simp only at hr
   subst hr
   exact wpAny_pure h
theorem J8g {ys:List Value}{Q:Bool->Shared->Prop}(kb:(tiK prog w).is s.heap k b)(hy:∀ y∈ys,∃ k c,y=.ref c/\(tiK prog w).is s.heap k c)(h:Q false s):wpAny (model prog w) A (searchCouldBeSeen (.ref b) ys) Q E s:=by
 unfold searchCouldBeSeen
 refine wpAny_bind ?_
 refine wpAny_forIn_list _ (fun rest r s'=>r.1=none/\s'=s/\∀ y∈rest,∃ k c,y=.ref c/\(tiK prog w).is s.heap k c) _ ?_ ?_ _ _ ⟨rfl,rfl,hy⟩
 · rintro v rest r s' ⟨hr,rfl,hall⟩
   obtain ⟨k',c,rfl,kc⟩:=hall v (List.mem_cons_self ..)
   have hr2:∀ y∈rest,∃ k c,y=Value.ref c/\(tiK prog w).is s'.heap k c:=fun y hy=>hall y (List.mem_cons_of_mem _ hy)
   dsimp only
   refine wpAny_ite ?_
   split
   · exact wpAny_pure ⟨rfl,rfl,hr2⟩
   · refine wpAny_bind ((tiK prog w).quiet kb ?_)
     simp only [Bool.not_true,Bool.false_eq_true,if_false]
     refine wpAny_bind ((tiK prog w).quiet kc ?_)
     simp only [Bool.not_true,Bool.false_eq_true,if_false]
     refine wpAny_bind (NC kb ?_)
     simp only [Bool.false_eq_true,if_false]
     refine wpAny_bind (NC kc ?_)
     simp only [Bool.false_eq_true,if_false]
     exact wpAny_pure ⟨rfl,rfl,hr2⟩
 · rintro ⟨r1,r2⟩ s' ⟨hr,rfl,_⟩
   simp only at hr
   subst hr
   exact wpAny_pure h
theorem WX {b:Addr}{Q:Bool->Shared->Prop}(h:Q true s):wpAny (model prog w) A (isSame (.ref b) (.ref b)) Q E s:=by
 unfold isSame
 dsimp only
 rw [if_pos (beq_self_eq_true b)]
 exact wpAny_pure h
theorem MA {N:Nat}{Q:SetFound->Shared->Prop}(hu:A.units<cLine)(g:s.heap.get? a=some o)(T:TSo prog w s.heap xs o es ep t)(kb:(tiK prog w).is s.heap k b)
 (eN:t.slot (V3 t.mask (Y1 prog w k) N)=.empty) (oN:∀ m,m<N->t.slot (V3 t.mask (Y1 prog w k) m)≠.empty)
 (yes:k∈xs.map (·.1)->Q (.there none) s) (no:k∉xs.map (·.1)->Q (.free (V3 t.mask (Y1 prog w k) N) false) s) :
 ∀ (fuel n:Nat) (stand:Option SetTable.Probe),stand.getD (t.probeStart (Y1 prog w k))=sqM t.mask (Y1 prog w k) n->n<=N->N - n<fuel ->
  (∀ i x,xs[i]?=some x->x.1=k->∃ c,n<=c/\c<N/\t.slot (V3 t.mask (Y1 prog w k) c)=.live i) ->
  wpAny (model prog w) A (setSearchFrom a (.ref b) (Y1 prog w k) true fuel stand) Q E s
 | 0,n,stand,_,h1,h2,_=>by omega
 | fuel+1,n,stand,hst,h1,h2,hk=>by
   have gw:t.gaveWay=false:=by
    unfold SetTable.gaveWay
    rcases T.rt.msk with e|e|e<;>rw [e]<;>rfl
   have bound:N - n<10*SetTable.turns t.mask:=by
    obtain ⟨N',l,e',o'⟩:=T.rt.end (Y1 prog w k)
    have:N=N':=by
     rcases Nat.lt_trichotomy N N' with z|z|z
     · exact absurd eN (o' N z)
     · exact z
     · exact absurd e' (oN N' z)
    unfold SetTable.turns
    omega
   unfold setSearchFrom
   walk_at "un stored"
   refine wpAny_bind (wpAny_setState_of g T.da T.ft ?_)
   dsimp only
   rw [gw]
   simp only [Bool.false_eq_true,if_false]
   refine wpAny_bind (wpAny_pure ?_)
   rw [hst]
   have pf:=JL (ha:=fun i=>((es[i]?).map (·.1)).getD 0) (h:=Y1 prog w k) T.rt.dum eN oN (10*SetTable.turns t.mask) n h1 bound
   rcases pf with ⟨e,none_⟩|⟨m,i,m1,m2,sl,hi,e,early⟩
   · have e':t.probe (fun i=>((es[i]?).map (·.1)).getD 0) (Y1 prog w k) (sqM t.mask (Y1 prog w k) n)=some (.empty (V3 t.mask (Y1 prog w k) N) none):=e
     rw [e']
     dsimp only
     refine wpAny_pure (no fun hm=>?_)
     obtain ⟨x,hx,ek⟩:=List.mem_map.mp hm
     obtain ⟨i,ei⟩:=List.getElem?_of_mem hx
     obtain ⟨c,c1,c2,c3⟩:=hk i x ei ek
     refine none_ c i c1 c2 c3 ?_
     have:es[i]?=some (Y1 prog w x.1,Value.ref x.2):=by rw [<- Array.getElem?_toList,T.el,List.getElem?_map,ei];rfl
     show ((es[i]?).map (·.1)).getD 0=_
     rw [this,<- ek]
     rfl
   · have e':t.probe (fun i=>((es[i]?).map (·.1)).getD 0) (Y1 prog w k) (sqM t.mask (Y1 prog w k) n)=some (.candidate (V3 t.mask (Y1 prog w k) m) i (sqM t.mask (Y1 prog w k) (m+1))):=e
     rw [e']
     dsimp only
     obtain ⟨i',si,ep'⟩:=GR T.rt.dum (oN m m2)
     rw [sl] at si
     cases si
     have il:i<es.size:=by rw [<- T.rt.siz];exact (Array.getElem?_eq_some_iff.mp ep').1
     have ee:es[i]?=some es[i]:=Array.getElem?_eq_getElem il
     obtain ⟨x,exi,ex,kx⟩:=T.at ee
     rw [ex] at ee
     have more:wpAny (model prog w) A (do
      let some (_,y):=es[i]?|unsupported "internal:set-entry"
      let equal <- holding [y] (eqBool y (.ref b))
      let (es',_,t') <- setState a
      if true&&equal then return SetFound.there none
      let some same:=t'.sameMemory t.moves t.mask|unsupported "set.changed-during-lookup:is-the-new-block-at-the-old-address"
      let still <- match (if same then t'.slot (V3 t.mask (Y1 prog w k) m) else .empty) with
       | .live i'=>match es'[i']? with
         | some (_,y')=>do pure (if <- isSame y' y then some i' else none)
         | none=>pure none
       | _=>pure none
      match still with
      | none=>do rule "set.search.anew";setSearchFrom a (.ref b) (Y1 prog w k) true fuel none
      | some i'=>if equal then return .there (some i') else setSearchFrom a (.ref b) (Y1 prog w k) true fuel (some (sqM t.mask (Y1 prog w k) (m+1)))) Q E s:=by
      rw [ee]
      dsimp only
      refine wpAny_bind (wpAny_holding ((tiK prog w).eqBool hu kx kb ?_))
      refine wpAny_bind (wpAny_setState_of g T.da T.ft ?_)
      dsimp only
      by_cases z:x.1=k
      · rw [decide_eq_true z]
        exact wpAny_pure (yes (List.mem_map.mpr ⟨x,List.mem_of_getElem? exi,z⟩))
      · rw [decide_eq_false z]
        simp only [Bool.and_false,Bool.false_eq_true,if_false]
        have sm:t.sameMemory t.moves t.mask=some true:=by unfold SetTable.sameMemory;rw [if_pos (beq_self_eq_true _)]
        refine wpAny_bind (wpAny_pure ?_)
        rw [sm]
        dsimp only
        rw [if_pos rfl,sl]
        dsimp only
        rw [ee]
        dsimp only
        refine wpAny_bind (WX (wpAny_bind (wpAny_pure ?_)))
        simp only [if_true]
        refine MA hu g T kb eN oN yes no fuel (m+1) _ rfl (by omega) (by omega) fun i2 x2 e2 ek=>?_
        obtain ⟨c,c1,c2,c3⟩:=hk i2 x2 e2 ek
        refine ⟨c,?_,c2,c3⟩
        rcases Nat.lt_trichotomy c m with y|y|y
        · exfalso
          refine early c i2 c1 y c3 ?_
          have:es[i2]?=some (Y1 prog w x2.1,Value.ref x2.2):=by rw [<- Array.getElem?_toList,T.el,List.getElem?_map,e2];rfl
          show ((es[i2]?).map (·.1)).getD 0=_
          rw [this,<- ek]
          rfl
        · exfalso
          rw [y,sl] at c3
          cases c3
          rw [exi] at e2
          cases e2
          exact z ek
        · omega
     cases tl:t.led
     · simp only [Bool.not_false,if_true]
       refine wpAny_bind (J8g kb (fun y hy=>?_) ?_)
       · obtain ⟨q,hq,rfl⟩:=List.mem_map.mp hy
         have hq:=(Array.mem_toList_iff.mp hq)
         obtain ⟨hq,_⟩:=Array.mem_filter.mp hq
         have hq:=Array.mem_toList_iff.mpr hq
         rw [T.el] at hq
         obtain ⟨x',hx',rfl⟩:=List.mem_map.mp hq
         exact ⟨x'.1,x'.2,rfl,T.is x' hx'⟩
       · simp only [Bool.false_eq_true,if_false]
         exact wpAny_bind (wpAny_pure more)
     · simp only [Bool.not_true,Bool.false_eq_true,if_false]
       exact wpAny_bind (wpAny_pure more)
end
local macro_rules | `(tactic| walk_at "un reordered") => do let n := Lean.mkIdent (Lean.mkPrivateNameCore `PySem.SetOps `PySem.reordered); `(tactic| unfold $n)
theorem ZZ {α β:Type}(f:α->β){l m:List β}(p:l.Perm m):∀ xs:List α,m=xs.map f->∃ ys:List α,ys.Perm xs/\l=ys.map f:=by
 induction p with
 | nil=>intro xs e;exact ⟨xs,List.Perm.refl _,e⟩
 | cons x _ ih =>
   intro xs e
   cases xs with
   | nil=>cases e
   | cons y ys =>
     rw [List.map_cons,List.cons.injEq] at e
     obtain ⟨zs,p,q⟩:=ih ys e.2
     exact ⟨y::zs,p.cons _,by rw [List.map_cons,<- q,e.1]⟩
 | swap x y l =>
   intro xs e
   match xs,e with
   | a::b::ys,e =>
     rw [List.map_cons,List.map_cons,List.cons.injEq,List.cons.injEq] at e
     exact ⟨b::a::ys,List.Perm.swap ..,by rw [List.map_cons,List.map_cons,e.1,e.2.1,e.2.2]⟩
 | trans _ _ h1 h2 =>
   intro xs e
   obtain ⟨ys,p,q⟩:=h2 xs e
   obtain ⟨zs,p',q'⟩:=h1 ys q
   exact ⟨zs,p'.trans p,q'⟩
def TSt (prog:Program)(w:World)(kas:List TK)(a:Addr)(h:Heap):Prop:=∃ o xs es ep t,h.get? a=some o/\TS0 prog w xs o es ep t/\(∀ x∈xs,x∈kas)/\(∀ x∈kas,x.1∈xs.map (·.1))/\es.size*5<t.mask*3
section
variable {prog:Program}{w:World}{A:Around}{E:Value->Shared->Prop}{s:Shared}{xs:List TK}{a b:Addr}{o:Obj}{es:Array (Int×Value)}{ep:Nat}{t:SetTable}{k:List Int}{kas:List TK}
theorem TSt.typeIs (h:TSt prog w kas a s.heap):s.TypeIs (.ref a) "set":=by
 obtain ⟨o,xs,es,ep,t,g,T,_⟩:=h
 exact ⟨o,g,T.ex.1⟩
theorem J1x {Q:Bool->Shared->Prop}(kb:(tiK prog w).is s.heap k b)(h:Q true s):wpAny (model prog w) A (hashByValue 8 (.ref b)) Q E s:=by
 have hT:=IsTupleKey.typeIs kb
 obtain ⟨o,items,n,ho,hc,hd,hi⟩:=kb
 unfold hashByValue
 refine wpAny_bind (wpAny_specialOf hT PySem.F.slot_tuple_hash.lookup ?_)
 dsimp only
 refine wpAny_bind (wpAny_seqItems ho hd ?_)
 show wpAny _ _ (forIn items _ _ >>= _) _ _ s
 refine wpAny_bind ?_
 rw [<- Array.forIn_toList]
 refine wpAny_forIn_list _ (fun rest r s'=>r.1=none/\s'=s/\∃ ks,ItemsAre (intKind prog w) ks rest) _ ?_ ?_ _ _ ⟨rfl,rfl,_,hi⟩
 · rintro v rest r s' ⟨hr,rfl,ks,hall⟩
   cases hall with
   | @cons k1 _ ks1 _ h1 h2 =>
     obtain ⟨t,rfl⟩:=Value.isInt_shape (show Value.isInt k1 v=true from h1)
     unfold hashByValue
     refine wpAny_bind (wpAny_pure ?_)
     simp only [Bool.not_true,Bool.false_eq_true,if_false]
     exact wpAny_pure ⟨rfl,rfl,ks1,h2⟩
 · rintro ⟨r1,r2⟩ s' ⟨hr,rfl,_⟩
   simp only at hr
   subst hr
   exact wpAny_pure h
theorem Q3u:SetTable.sizeAbove (SetTable.grown 5) - 1=31:=by decide +kernel
theorem Q0f:SetTable.sizeAbove (SetTable.grown 19) - 1=127:=by decide +kernel
theorem ZA {Q:Value->Shared->Prop}(hu:A.units+1<cLine)(hS:TSt prog w kas a s.heap)(hl:kas.length<=70)(his:∀ x∈kas,(tiK prog w).is s.heap x.1 x.2)(kb:(tiK prog w).is s.heap k b)
 (fin:∀ h' tk,Heap.SameBut a s.heap h'->TSt prog w (kas++[(k,b)]) a h'->Q .none { s with heap:=h',toks:=tk }):wpAny (model prog w) A (call (.builtin "set.add") [.ref a,.ref b]) Q E s:=by
 refine wpAny_call_entry F.slot_set_add hS.typeIs F.entry_set_add ?_ (F.args_set_add_2 _ _)
 have hr:(tiK prog w).room A.in1:=tupleKind_room_in1 hu
 obtain ⟨o,xs,es,ep,t,g,T0,sub,cov,nf⟩:=hS
 have T:TSo prog w s.heap xs o es ep t:=⟨T0,fun x hx=>his x (sub x hx)⟩
 have ln:xs.length<=kas.length:=by
  have:=GP (xs.map (·.1)) (kas.map (·.1)) T.nd fun z hz=>by
   obtain ⟨x,hx,rfl⟩:=List.mem_map.mp hz
   exact List.mem_map.mpr ⟨x,sub x hx,rfl⟩
  rwa [List.length_map,List.length_map] at this
 unfold Builtin.«set.add» Builtin.Frozenset.oneOther
 simp only [List.isEmpty_nil,bind_assoc]
 unfold Builtin.Frozenset.addrOf setAdd
 refine wpAny_bind (wpAny_pure (wpAny_bind (wpAny_pure (wpAny_bind (wpAny_holding (wpAny_bind ((tiK prog w).pyHash hr kb ?_)))))))
 generalize hs1:({ s with toks:=s.toks+(tiK prog w).draws k }:Shared)=s1
 have g1:s1.heap.get? a=some o:=by rw [<- hs1];exact g
 have T1:TSo prog w s1.heap xs o es ep t:=by rw [<- hs1];exact T
 have kb1:(tiK prog w).is s1.heap k b:=by rw [<- hs1];exact kb
 have fin':∀ h',Heap.SameBut a s1.heap h'->TSt prog w (kas++[(k,b)]) a h'->wpAny (model prog w) A.in1 (ret Value.none) (fun r s2=>∃ v,r=.done (.ret v)/\Q v s2) E { s1 with heap:=h' }:=fun h' x y=>by
  subst hs1
  exact wpAny_pure ⟨_,rfl,fin h' _ x y⟩
 unfold setAddHashed setAddHashedIn
 refine wpAny_holding (wpAny_bind (wpAny_setState_of g1 T.da T.ft ?_))
 dsimp only
 rw [show byScan (.ref b) es=false by unfold byScan;rfl]
 simp only [Bool.false_eq_true,if_false]
 obtain ⟨N,Nl,eN,oN⟩:=T.rt.end (Y1 prog w k)
 have nb:N<100000:=by
  rcases T.rt.msk with e|e|e<;>rw [e] at Nl<;>omega
 unfold setSearch
 refine wpAny_bind (MA (N:=N) hr g1 T1 kb1 eN oN (fun yes=>?_) (fun no=>?_) 100000 0 none rfl (Nat.zero_le _) (by omega) fun i x ei ek=>?_)
 · dsimp only
   refine wpAny_pure ?_
   have e1:s1={ s1 with heap:=s1.heap }:=by cases s1;rfl
   rw [e1]
   refine fin' s1.heap (Heap.SameBut.refl a s1.heap) ⟨o,xs,es,ep,t,g1,T0,fun x hx=>List.mem_append_left _ (sub x hx),fun x hx=>?_,nf⟩
   rcases List.mem_append.mp hx with hx|hx
   · exact cov x hx
   · rw [List.mem_singleton.mp hx];exact yes
 · dsimp only
   refine wpAny_bind (wpAny_setState_of g1 T.da T.ft ?_)
   dsimp only
   have ez:es.size=xs.length:=by rw [<- Array.length_toList,T.el,List.length_map]
   have room1:es.size+1<=t.mask:=by
    rcases T.rt.msk with e|e|e<;>rw [e] at nf ⊢<;>omega
   have R:=T.rt.put (x:=Value.ref b) eN oN room1
   have pe:(SetTable.insertAt es (t.put (V3 t.mask (Y1 prog w k) N)).2 (Y1 prog w k,Value.ref b)).toList=(xs.take (t.put (V3 t.mask (Y1 prog w k) N)).2++(k,b)::xs.drop (t.put (V3 t.mask (Y1 prog w k) N)).2).map fun x=>(Y1 prog w x.1,Value.ref x.2):=by
    rw [SetTable.toList_insertAt,T.el,List.map_append,List.map_cons,List.map_take,List.map_drop]
   have mk:(t.put (V3 t.mask (Y1 prog w k) N)).1.mask=t.mask:=rfl
   have ld:(t.put (V3 t.mask (Y1 prog w k) N)).1.led=t.led:=rfl
   generalize t.put (V3 t.mask (Y1 prog w k) N)=tp at R pe mk ld ⊢
   obtain ⟨t1,p⟩:=tp
   dsimp only at R pe mk ld ⊢
   have z1:(SetTable.insertAt es p (Y1 prog w k,Value.ref b)).size=es.size+1:=by
    rw [<- Array.length_toList,pe,List.length_map,List.length_append,List.length_cons,List.length_take,List.length_drop]
    omega
   generalize hes1:SetTable.insertAt es p (Y1 prog w k,Value.ref b)=es1 at R pe z1 ⊢
   obtain ⟨xs1,hx1⟩:∃ l,l=xs.take p++(k,b)::xs.drop p:=⟨_,rfl⟩
   rw [<- hx1] at pe
   have px:xs1.Perm (xs++[(k,b)]):=by
    rw [hx1]
    have:=List.take_append_drop p xs
    conv=>rhs;rw [<- this]
    rw [List.append_assoc]
    exact List.Perm.append_left _ (List.perm_append_singleton (k,b) (xs.drop p)).symm
   have nd1:(xs1.map (·.1)).Nodup:=by
    have pn:=px.map (·.1)
    rw [List.map_append] at pn
    refine pn.nodup_iff.mpr ?_
    rw [List.nodup_append]
    refine ⟨T.nd,by simp,fun x hx y hy e=>?_⟩
    rw [List.map_cons,List.map_nil,List.mem_singleton] at hy
    subst hy;subst e
    exact no hx
   have mkset:∀ {h':Heap} {es2:Array (Int×Value)} {ep2:Nat} {t2:SetTable},Heap.SameBut a s1.heap h'->h'.get? a=some { o with data:=.set es2 ep2 t2 }->es2.toList.Perm es1.toList->RT t2 es2->t2.led=t.led->t2.fits es2.size=true->es2.size*5<t2.mask*3->TSt prog w (kas++[(k,b)]) a h':=fun {h' es2 ep2 t2} sb g2 pp rt2 l2 f2 n2=>by
    obtain ⟨xs2,p2,q2⟩:=ZZ (fun x:TK=>(Y1 prog w x.1,Value.ref x.2)) pp xs1 pe
    refine ⟨_,xs2,es2,ep2,t2,g2,⟨T.ex,rfl,q2,(p2.map (·.1)).nodup_iff.mpr nd1,rt2,fun z=>by rw [l2];exact T.led z,f2⟩,fun x hx=>?_,fun x hx=>?_,n2⟩
    · have hx:=px.mem_iff.mp (p2.mem_iff.mp hx)
      rcases List.mem_append.mp hx with hx|hx
      · exact List.mem_append_left _ (sub x hx)
      · exact List.mem_append_right _ hx
    · rw [(p2.map (·.1)).mem_iff,(px.map (·.1)).mem_iff,List.map_append,List.mem_append]
      rcases List.mem_append.mp hx with hx|hx
      · exact .inl (cov x hx)
      · rw [List.mem_singleton.mp hx];exact .inr (by simp)
   have fits_of:∀ {t2:SetTable} {es2:Array (Int×Value)},RT t2 es2->t2.fits es2.size=true:=fun {t2 es2} r=>by
    unfold SetTable.fits SetTable.fill
    rw [r.siz,r.dum]
    have:=r.le
    simp
    exact this
   have tail:∀ bv:Bool,wpAny (model prog w) A.in1 (do
    storeSet a es1 (if bv then t1 else { t1 with plain:=false })
    if (!false&&(if bv then t1 else { t1 with plain:=false }).tooFull)=true then setRelay a (SetTable.grown (es.size+1))
    pure true) (fun _ s'=>wpAny (model prog w) A.in1 (ret Value.none) (fun r s2=>∃ v,r=.done (.ret v)/\Q v s2) E s') E s1:=fun bv=>by
    have R2:RT (if bv then t1 else { t1 with plain:=false }) es1:=by
     cases bv
     · exact R.plain false
     · exact R
    have mk2:(if bv then t1 else { t1 with plain:=false }).mask=t.mask:=by cases bv<;>exact mk
    have ld2:(if bv then t1 else { t1 with plain:=false }).led=t.led:=by cases bv<;>exact ld
    generalize (if bv then t1 else { t1 with plain:=false })=t2 at *
    have f2:t2.fill=es.size+1:=by
     unfold SetTable.fill
     rw [R2.siz,R2.dum,z1]
     rfl
    refine wpAny_bind (wpAny_storeSet_of g1 T.da ?_ (by rw [sizeLine_eq,z1];omega))
    have g2:=IQ (es':=es1) (t':=t2) g1 T.da
    have sb2:=Heap.SameBut.update s1.heap a (Obj.putSet es1 t2)
    by_cases tf:t2.tooFull=true
    · rw [if_pos (by rw [tf];rfl)]
      have tf':t2.fill*5>=t2.mask*3:=of_decide_eq_true tf
      rw [f2,mk2] at tf'
      have wanted:∃ m,SetTable.sizeAbove (SetTable.grown (es.size+1)) - 1=m/\FZ m/\es.size+1<=m/\(es.size+1)*5<m*3/\SetTable.sizeAbove (SetTable.grown (es.size+1))=m+1:=by
       rcases T.rt.msk with e|e|e
       · rw [e] at nf tf'
         have e5:es.size+1=5:=by omega
         rw [e5]
         exact ⟨31,Q3u,.inr (.inl rfl),by decide,by decide,by decide +kernel⟩
       · rw [e] at nf tf'
         have e5:es.size+1=19:=by omega
         rw [e5]
         exact ⟨127,Q0f,.inr (.inr rfl),by decide,by decide,by decide +kernel⟩
       · rw [e] at tf'
         omega
      obtain ⟨m,w1,w2,w3,w4,w5⟩:=wanted
      obtain ⟨t3,ord,r1,r2,r3,r4,r5,r6⟩:=ZM (t:=t2) (es:=es1) w1 w2 (by rw [z1];exact w3)
      unfold setRelay
      refine wpAny_bind (wpAny_bind (wpAny_setState_of g2 rfl (fits_of R2) ?_))
      dsimp only
      rw [if_neg (show ¬ SetTable.sizeAbove (SetTable.grown (es.size+1))>sizeLine by rw [w5,sizeLine_eq];rcases w2 with e|e|e<;>rw [e]<;>decide)]
      walk_at "un reordered"
      rw [r1]
      refine wpAny_bind (wpAny_bind (wpAny_pure ?_))
      dsimp only
      rw [show ((ord.filterMap (es1[·]?)).size != es1.size)=false by rw [r2];simp]
      refine wpAny_pure ?_
      dsimp only
      refine wpAny_storeSet_of g2 rfl ?_ (by rw [sizeLine_eq,r2,z1];omega)
      have g3:=IQ (es':=ord.filterMap (es1[·]?)) (t':=t3) g2 rfl
      refine wpAny_pure (fin' _ (sb2.trans (Heap.SameBut.update _ a _)) (mkset (sb2.trans (Heap.SameBut.update _ a _)) g3 r3 r4 (r6.trans ld2) (by rw [r2];exact r5) ?_))
      rw [r2,z1]
      have:t3.mask=m:=by
       have:=r1
       unfold SetTable.relaid SetTable.laid at this
       rw [w1] at this
       cases q:SetTable.layClean m (es1.map (·.1)) with
       | none=>rw [q] at this;cases this
       | some owner =>
         rw [q] at this
         simp only [Option.bind_eq_bind,Option.bind_some] at this
         cases this
         rfl
      rw [this]
      exact w4
    · rw [if_neg (by simp [tf])]
      refine wpAny_pure (fin' _ sb2 (mkset sb2 g2 (List.Perm.refl _) R2 ld2 (fits_of R2) ?_))
      have tf':¬ t2.fill*5>=t2.mask*3:=fun z=>tf (decide_eq_true z)
      rw [f2] at tf'
      rw [z1]
      omega
   split
   · exact wpAny_bind (J1x kb1 (tail true))
   · exact wpAny_bind (wpAny_pure (tail true))
 · have:es[i]?=some (Y1 prog w x.1,Value.ref x.2):=by rw [<- Array.getElem?_toList,T.el,List.getElem?_map,ei];rfl
   rw [ek] at this
   obtain ⟨c,c1,c2⟩:=T.rt.met (i:=i) (N:=N) this eN
   exact ⟨c,Nat.zero_le _,c1,c2⟩
end
theorem YK (elt target iter:Expr)(ifs:List Expr)(scope:Scope)(pos:Pos)(it acc:Value)(env:Env) :
 compTurn (.SetComp elt [⟨target,iter,ifs,0⟩] scope pos) 0 it acc env=(do
  standAt iter.pos
  match <- pyNext it with
  | none=>pure (.done .next)
  | some v =>
    letOwnedTupleGo target it v
    assign target env v
    let mut ok:=true
    for c in ifs do
     if ok then ok <- isTrue c env (eval c env)
    if ok then
     (do let v <- eval elt env;standAt elt.pos;let _ <- call (.builtin "set.add") [acc,v])
    again (.compLoop (.SetComp elt [⟨target,iter,ifs,0⟩] scope pos) 0 it acc env)):=by rfl
theorem LP {prog:Program}{w:World}{A:Around}{R:Result->Shared->Prop}{s:Shared}{elt target iter:Expr}{ifs:List Expr}{scope:Scope}{pos:Pos}{it acc:Value}{env:Env}(J:Nat->Shared->Prop)
 (turn:∀ n s,J n s->wpAny (model prog w) A (pyNext it) (fun r s₁=>match r with
  | none=>R (.ok .next) s₁
  | some v=>wpAny (model prog w) A (letOwnedTupleGo target it v) (fun _ s₁'=>wpAny (model prog w) A (assign target env v) (fun _ s₂=>wpAny (model prog w) A (MB ifs env) (fun ok s₃ =>
   if ok=true then wpAny (model prog w) A (eval elt env) (fun x s₄=>wpAny (model prog w) A (call (.builtin "set.add") [acc,x]) (fun _ s₅=>∃ m,m<n/\J m s₅) (notedBy (model prog w) A env fun e s'=>R (.error e) s') s₄)
    (notedBy (model prog w) A env fun e s'=>R (.error e) s') s₃
   else ∃ m,m<n/\J m s₃) (notedBy (model prog w) A env fun e s'=>R (.error e) s') s₂) (notedBy (model prog w) A env fun e s'=>R (.error e) s') s₁') (notedBy (model prog w) A env fun e s'=>R (.error e) s') s₁)
   (notedBy (model prog w) A env fun e s'=>R (.error e) s') s) (n:Nat) (h:J n s) :
 codeAny (model prog w) A (.compLoop (.SetComp elt [⟨target,iter,ifs,0⟩] scope pos) 0 it acc env) R s:=by
 refine codeAny_loop rfl J (fun n s hJ=>?_) n h
 show wpAny _ _ (Sem.onRaise (compTurn (.SetComp elt [⟨target,iter,ifs,0⟩] scope pos) 0 it acc env) fun x=>do noteFrame x env;theTreesLotGoes x) _ _ _
 refine wpAny_noted ?_
 rw [YK]
 refine wpAny_bind (wpAny_standAt (wpAny_bind (thn (turn n s hJ) fun r s₁ h₁=>?_)))
 cases r with
 | none=>exact wpAny_pure h₁
 | some v =>
   refine wpAny_bind (thn h₁ fun _ s₁' h₁'=>wpAny_bind (thn h₁' fun _ s₂ h₂=>wpAny_bind (thn h₂ fun ok s₃ h₃=>?_)))
   cases ok with
   | true=>exact wpAny_bind (wpAny_bind (thn h₃ fun x s₄ h₄=>wpAny_bind (wpAny_standAt (wpAny_bind (thn h₄ fun _ s₅ h₅=>wpAny_pure (wpAny_pure ⟨rfl,h₅⟩))))))
   | false=>exact wpAny_pure ⟨rfl,h₃⟩
theorem OQ {prog:Program}{w:World}{A:Around}{R:Result->Shared->Prop}{s:Shared}{elt target iter:Expr}{ifs:List Expr}{scope:Scope}{pos:Pos}{it acc:Value}{env:Env}
 (h0:codeAny (model prog w) A (.compLoop (.SetComp elt [⟨target,iter,ifs,0⟩] scope pos) 0 it acc env) R s)
 (h:wpAny (model prog w) A (pyIter it) (fun it' s'=>codeAny (model prog w) A (.compLoop (.SetComp elt [⟨target,iter,ifs,0⟩] scope pos) 0 it' acc env) R s')
  (notedBy (model prog w) A env fun x s'=>R (.error x) s') s) :
 codeAny (model prog w) A (.compStart (.SetComp elt [⟨target,iter,ifs,0⟩] scope pos) 0 it acc env) R s:=by
 refine codeAny_of_tree ?_
 show wpAny _ _ ((compStart (.SetComp elt [⟨target,iter,ifs,0⟩] scope pos) 0 it acc env).onRaise (fun x=>do noteFrame x env;standAt theWindowsPlace)) _ _ s
 refine wpAny_notedAt ?_
 unfold compStart
 show wpAny _ _ (ask >>= _) _ _ s
 refine wpAny_bind (wpAny_askSetting (wpAny_ite ?_))
 split
 · first
    | exact wpAny_bind (wpAny_pure (wpAny_pure (And.intro rfl h0)))
    | exact wpAny_pure (And.intro rfl h0)
 · first
    | exact wpAny_bind (wpAny_rule (wpAny_bind (wpAny_standAt (wpAny_bind (wpAny_mono h (fun it' s' h'=>wpAny_pure (And.intro rfl h')) fun _ _ x=>x)))))
    | (refine wpAny_bind (wpAny_rule ?_);show wpAny _ _ (standAt iter.pos >>= _) _ _ s;exact wpAny_bind (wpAny_standAt (wpAny_bind (wpAny_mono h (fun it' s' h'=>wpAny_pure (And.intro rfl h')) fun _ _ x=>x))))
def okT (K:Fg)(acc:List V)(H:Hp)(kas:List TK):Prop:=acc=kas.map (fun x=>V.ref x.2)/\(∀ x∈kas,SqT K H x.2 (x.1.map V.int))/\kas.length<=70
def TG0 (prog:Program)(w:World)(kas:List TK)(o:Obj):Prop:=∃ xs es ep t,TS0 prog w xs o es ep t/\(∀ x∈xs,x∈kas)/\(∀ x∈kas,x.1∈xs.map (·.1))/\es.size*5<t.mask*3
theorem TG0.nc {prog:Program}{w:World}{kas:List TK}{o:Obj}(h:TG0 prog w kas o)(v:Option Value):o.data≠.cell v:=fun z=>by
 obtain ⟨xs,es,ep,t,T,_⟩:=h
 rw [T.da] at z
 cases z
theorem TG0.new {prog:Program}{w:World}:TG0 prog w [] (J0t (!w.params.followText "set-order")):=⟨[],#[],0,.fresh 0 0 (!w.params.followText "set-order"),⟨⟨rfl,rfl,rfl⟩,rfl,rfl,List.nodup_nil,RT.fresh 0 0 _,fun z=>by simp [SetTable.fresh,z],rfl⟩,fun x hx=>(by cases hx),fun x hx=>(by cases hx),(by show 0*5<7*3;decide)⟩
def TOb (prog:Program)(w:World)(kas:List TK)(D:Addr):HO:=.ext fun h=>∃ o,h.get? D=some o/\TG0 prog w kas o
theorem J8l {X:Cx}{pins:List (Addr×Obj)}{σ:St}{H:Hp}{s:Shared}{E:Value->Shared->Prop}{D:Addr}{o:Obj}{acc:List V}{kas kas':List TK}{y:V}{v:Value}{Q:Value->Shared->Prop}(I:Inv X pins σ H s)(hu:X.A.units+1<cLine)(g:s.heap.get? D=some o)(S:TG0 X.prog X.w kas o)(e:acc=kas.map fun x=>V.ref x.2)(ok:okT X.K (acc++[y]) H kas')(ke:∃ x,kas'=kas++[x])(r:RelV y v)
 (fin:∀ h' o' tk,Heap.SameBut D s.heap h'->h'.get? D=some o'->TG0 X.prog X.w kas' o'->Q .none { s with heap:=h',toks:=tk }):wpAny (model X.prog X.w) X.A (call (.builtin "set.add") [.ref D,v]) Q E s:=by
 obtain ⟨⟨k,b⟩,rfl⟩:=ke
 obtain ⟨e2,sq,hl⟩:=ok
 rw [e,List.map_append] at e2
 have ey:y=V.ref b:=by
  have:=List.append_cancel_left e2
  simpa using this
 subst ey
 cases r
 have is:∀ x∈kas++[(k,b)],(tiK X.prog X.w).is s.heap x.1 x.2:=fun x hx=>I.tkey (sq x hx)
 rw [List.length_append] at hl
 obtain ⟨xs,es,ep,t,T,a1,a2,a3⟩:=S
 refine ZA hu ⟨o,xs,es,ep,t,g,T,a1,a2,a3⟩ (by simp only [List.length_cons,List.length_nil] at hl;omega) (fun x hx=>is x (List.mem_append_left _ hx)) (is (k,b) (by simp)) fun h' tk sb h=>?_
 obtain ⟨o',xs',es',ep',t',g',rest⟩:=h
 exact fin h' o' tk sb g' ⟨xs',es',ep',t',rest⟩
def UN (K:Fg)(J:It)(g:TG)(tt:TT)(te:TE)(σc:St)(Fin:List TK->Hp->Prop)(W:Nat->Nat->List TK->Hp->Prop):Prop :=
 ∀ i m kas H2,W i m kas H2->(J.stop i H2/\Fin kas H2) \/
  (J.go i H2/\∃ N:List TK->Hp->Prop,(∀ kas' H',N kas' H'->∃ m',m'<m/\W (i+1) m' kas' H')/\∀ x H3,J.yld i H2 x H3->g x σc H3 fun σ4 H4=>tt σ4 H4 fun b H5=>if b=true then te σ4 H5 fun v H6=>∃ x,okT K (kas.map (fun x=>V.ref x.2)++[v]) H6 (kas++[x])/\N (kas++[x]) H6 else N kas H5)
section
variable {X:Cx}{elt iter tg:Expr}{ifs:List Expr}{scope:Scope}{pos:Pos}{N':List Str}{map:List (Option Nat)}{wi:TI}{g:TG}{tt:TT}{te:TE}
theorem J3b {pins:List (Addr×Obj)}{σ:St}{H1:Hp}{s2:Shared}{cl:List (Str×Addr)}{fp:List Addr}{it:Addr}{tn:Nat->Heap->Prop}{J:It}{E:Value->Shared->Prop}(I:Inv X pins σ H1 s2)(B:BlkM X N' scope map tg elt ifs g tt te)
 (hsub:∀ x c,cl.lookup x=some c->X.env.cells.lookup x=some c) (hhas:∀ x,(x,NameKind.free)∈scope.names->(cl.lookup x).isSome=true)
 {R:Cx->Prop} (hR:∀ cells C fp s H,R (J6 X N' scope cells C fp s H)) (T:TurnG R X.prog X.w X.K tg J fp it tn) (st:tn 0 s2.heap) (hf:∀ b∈fp,CU X pins H1 b) {Fin:List TK->Hp->Prop} {W:Nat->Nat->List TK->Hp->Prop} {m0:Nat} (w0:W 0 m0 [] H1) (hu:X.A.units+1<cLine) (ht:UN X.K J g tt te (capt σ map) Fin W)
 {RR:Value->Addr->Result->Shared->Prop}
 (hOk:∀ D C acc H' s' m,Inv X pins σ (upd H' D (TOb X.prog X.w acc D)) s'->H' D=none->s'.heap.Ns C m->upd H' D (TOb X.prog X.w acc D) C=none->C≠X.env.locals->X.s₀.heap.objs.size<=C->(∀ x c,X.env.cells.lookup x=some c->c≠C)->(∀ p∈X.pn++pins,p.1≠C)->Fin acc H'->RR (.ref D) C (.ok .next) s')
 (hErr:∀ D C e s',SK X C e s'->RR (.ref D) C (.error e) s') :
 wpAny (model X.prog X.w) X.A (newSet (.type "set")) (fun acc s3=>wpAny (model X.prog X.w) X.A (newFunctionEnv scope X.env.globals cl [] X.env.qual none .none (some X.env)) (fun cenv s4 =>
  codeAny (model X.prog X.w) X.A (.compStart (.SetComp elt [⟨tg,iter,ifs,0⟩] scope pos) 0 (.ref it) acc { cenv with scope:=relabel scope X.env }) (RR acc cenv.locals) s4) E s3) E s2:=by
 have fo:∀ b∈fp,∃ o,s2.heap.get? b=some o:=fun b hb=>by obtain ⟨o,e,_⟩:=T.obj 0 _ st b hb;exact ⟨o,e⟩
 refine MN ?_
 generalize hoN:J0t (!X.w.params.followText "set-order")=oN
 have tgN:TG0 X.prog X.w [] oN:=by rw [<- hoN];exact TG0.new
 have frN:oN.isFreed=false:=by rw [<- hoN];rfl
 generalize hH2:s2.heap.push oN=H2
 have szD:H2.objs.size=s2.heap.objs.size+1:=by rw [<- hH2,Heap.size_push]
 have kD:∀ b o,s2.heap.get? b=some o->H2.get? b=some o:=fun b o e=>hH2▸Heap.get?_push_of_some _ e
 simp only [newFunctionEnv,Option.isSome_some,if_true]
 refine wpAny_bind (wpAny_alloc ?_)
 refine wpAny_bind (wpAny_layCells _ (fun name kind cells=>by cases hkc:kind==NameKind.cell<;>simp [hkc]) _ _ _ _ ?_)
 dsimp only
 generalize hH3:H2.push { cls:=.type "dict",dict:=none,data:=.dict #[] }=h3
 have sz3:h3.objs.size=H2.objs.size+1:=by rw [<- hH3,Heap.size_push]
 have kC:∀ b o,H2.get? b=some o->h3.get? b=some o:=fun b o e=>hH3▸Heap.get?_push_of_some _ e
 have nsC:h3.Ns H2.objs.size fun _=>none:=hH3▸Heap.Ns.new H2 (.type "dict")
 refine wpAny_bind (wpAny_pure (wpAny_pure ?_))
 show codeAny _ _ (.compStart (.SetComp elt [⟨tg,iter,ifs,0⟩] scope pos) 0 (.ref it) (.ref s2.heap.objs.size) (compEnvC scope (cellsFrom h3.objs.size scope.names cl) H2.objs.size X.env)) _ _
 generalize hX':J6 X N' scope (cellsFrom h3.objs.size scope.names cl) H2.objs.size fp s2 H1=X'
 have I4:Inv X' [] (capt σ map) H1 { s2 with heap:=pushCells h3 scope.names }:=hX'▸IU I B hsub hhas hf fo H2.objs.size h3 (by rw [szD];exact Nat.le_succ _) (fun b o e=>kC b o (kD b o e)) (by rw [sz3];exact Nat.lt_succ_self _) nsC s2.toks
 obtain ⟨pg,pif,pel⟩:=B.run (cellsFrom h3.objs.size scope.names cl) H2.objs.size fp s2 H1 ⟨pins,σ,I,hf,by rw [szD];exact Nat.le_succ _⟩
 rw [hX'] at pg pif pel
 have eprog:X'.prog=X.prog:=by rw [<- hX'];rfl
 have ew:X'.w=X.w:=by rw [<- hX'];rfl
 have eK:X'.K=X.K:=by rw [<- hX'];rfl
 have eA:X'.A=X.A:=by rw [<- hX'];rfl
 have ecalm:R X':=by rw [<- hX'];exact hR _ _ _ _ _
 have eenv:X'.env=compEnvC scope (cellsFrom h3.objs.size scope.names cl) H2.objs.size X.env:=by rw [<- hX'];rfl
 have exe:X'.xe=notedBy (model X.prog X.w) X.A (compEnvC scope (cellsFrom h3.objs.size scope.names cl) H2.objs.size X.env) (SK X H2.objs.size):=by rw [<- hX'];rfl
 have es0:X'.s₀=s2:=by rw [<- hX'];rfl
 have eH0:X'.H₀=H1:=by rw [<- hX'];rfl
 have eex:X'.ex=fp:=by rw [<- hX'];rfl
 have efs:X'.fs=frs X.stack:=by rw [<- hX'];rfl
 have epn:X'.pn=[]:=by rw [<- hX'];rfl
 have eL:X'.env.locals=H2.objs.size:=by rw [eenv];rfl
 generalize hDd:s2.heap.objs.size=D at *
 have fD:∀ b∈fp,b≠D:=fun b hb=>by obtain ⟨o,e⟩:=fo b hb;exact Nat.ne_of_lt (hDd▸Heap.lt_size e)
 have nfsD:D∉X'.fs:=fun hb=>by
  rw [efs] at hb
  have h1:=I.stkSub D hb
  rcases List.mem_cons.mp h1 with z|z
  · have:=I.lt;rw [hDd,<- z] at this;exact Nat.lt_irrefl _ this
  · exact I.nofs (by rw [hDd];exact Nat.le_refl _) z
 have ncD:∀ x c,X'.env.cells.lookup x=some c->c≠D:=fun x c e z=>by
  rw [eenv] at e
  rcases KS _ _ _ x c e with q|q
  · obtain ⟨v,o,ho,_⟩:=I.cell x c (hsub x c q)
    have:=Heap.lt_size ho
    rw [hDd,z] at this
    exact Nat.lt_irrefl _ this
  · rw [z,sz3,szD] at q
    exact absurd (Nat.lt_of_lt_of_le (Nat.lt_succ_of_lt (Nat.lt_succ_self D)) q) (Nat.lt_irrefl _)
 have f4:∀ {H':Hp} {pl:List (Addr×Obj)},(∀ b∈fp,H' b=none)->(∀ p∈pl,p.1=D)->∀ b∈fp,CU X' pl H' b:=fun {H' pl} hn hpl b hb=>by
  have q:=hf b hb
  refine ⟨hn b hb,?_,?_,.inl (by rw [eex];exact hb),fun x c e=>?_,fun p hp=>?_⟩
  · rw [eL]
    obtain ⟨o,e⟩:=fo b hb
    have:=Heap.lt_size e
    rw [hDd] at this
    intro z
    rw [z,szD] at this
    exact absurd (Nat.lt_of_succ_lt this) (Nat.lt_irrefl _)
  · have:=I4.ok.exfs b (by rw [eex];exact hb)
    exact this
  · exact (I4.ok.exf b (by rw [eex];exact hb)).2 x c e
  · rw [epn] at hp
    have hp:p∈pl:=by simpa using hp
    rw [hpl p hp]
    exact (fD b hb).symm
 have hD4:(pushCells h3 scope.names).get? D=some oN:=pushCells_keeps _ _ _ _ (kC _ _ (by rw [<- hH2,<- hDd];exact Heap.get?_push_size _ frN))
 have loop:codeAny (model X.prog X.w) X.A (.compLoop (.SetComp elt [⟨tg,iter,ifs,0⟩] scope pos) 0 (.ref it) (.ref D) (compEnvC scope (cellsFrom h3.objs.size scope.names cl) H2.objs.size X.env)) (RR (.ref D) H2.objs.size) { s2 with heap:=pushCells h3 scope.names }:=by
  refine LP (fun n s'=>∃ i acc H' o,Inv X' [] (capt σ map) H' s'/\tn i s'.heap/\(∀ b∈fp,H' b=none)/\H' D=none/\s'.heap.get? D=some o/\TG0 X.prog X.w acc o/\W i n acc H') ?_ m0
   ⟨0,[],H1,oN,I4,T.keep _ _ _ st fun b hb o e=>pushCells_keeps _ _ _ _ (kC _ _ (kD _ _ e)),fun b hb=>(hf b hb).1,I.hok.fresh (by rw [hDd];exact Nat.le_refl _),hD4,tgN,w0⟩
  rintro n s5 ⟨i,acc,H5,oS,I5,st5,fr5,hD5,oD5,rv5,w5⟩
  have pinD:Inv X' [(D,oS)] (capt σ map) H5 s5:=I5.pins_of fun p hp=>by
   have e:p=(D,oS):=by simpa using hp
   subst e
   refine ⟨oD5,hD5,?_,nfsD,fun v=>rv5.nc v⟩
   rw [eL,szD]
   exact Nat.ne_of_lt (Nat.lt_succ_self _)
  have plD:∀ p∈[(D,oS)],p.1=D:=fun p hp=>by
   have e:p=(D,oS):=by simpa using hp
   rw [e]
  have err:∀ e s',X'.xe e s'->notedBy (model X.prog X.w) X.A (compEnvC scope (cellsFrom h3.objs.size scope.names cl) H2.objs.size X.env) (fun e s'=>RR (.ref D) H2.objs.size (.error e) s') e s':=fun e s' he=>by
   rw [exe] at he
   exact wpAny_mono he (fun _ s'' q=>hErr D _ e s'' q) fun e'' s'' q=>hErr D _ e'' s'' q
  rcases ht i n acc H5 w5 with ⟨stop,fin⟩|⟨go,NN,hNN,step⟩
  · have dn:=T.done X' eprog ew eK ecalm i _ s5 (capt σ map) H5 (notedBy (model X.prog X.w) X.A (compEnvC scope (cellsFrom h3.objs.size scope.names cl) H2.objs.size X.env) fun e s'=>RR (.ref D) H2.objs.size (.error e) s') pinD (f4 fr5 plD) st5 stop
    rw [eA] at dn
    refine thn dn fun r s6 ⟨hr,I6⟩=>?_
    subst hr
    obtain ⟨oD6,hD6,_⟩:=I6.pin (D,_) (by rw [epn];exact List.mem_cons_self)
    obtain ⟨m,nsm,_⟩:=I6.loc
    rw [eL] at nsm
    have un:=I6.base
    rw [efs,eex,eH0,es0] at un
    have hok:=I6.hok
    rw [eprog,ew] at hok
    have os6:=I6.os
    rw [es0] at os6
    have fC:H5 H2.objs.size=none:=by rw [<- eL];exact I6.free
    have nDC:H2.objs.size≠D:=by rw [szD];exact Nat.ne_of_gt (Nat.lt_succ_self _)
    refine hOk D H2.objs.size acc H5 s6 m (I.call' (ch:=fp) os6 ?_ ?_ I6.bare fun b hb=>?_) hD5 nsm (by rw [Q3 nDC];exact fC) ?_ ?_ ?_ ?_ fin
    · refine ⟨un.keep,un.slot,fun b o e n hx=>?_,un.there,fun b xs e=>?_,fun b o u e=>?_,fun b ps e=>?_⟩
      · rw [Q3 (Nat.ne_of_lt (hDd▸Heap.lt_size e))]
        exact un.free b o e n hx
      · have:=un.tups b xs e
        rw [Q3 (Q0 this hD5)]
        exact this
      · have:=un.frzs b o u e
        rw [Q3 (Q0 this hD5)]
        exact this
      · obtain ⟨more,this⟩:=un.tbls b ps e
        exact ⟨more,by rw [Q3 (Q0 this hD5)];exact this⟩
    · intro b o e
      by_cases hb:b=D
      · subst hb
        rw [Q6] at e
        cases e
        exact ⟨⟨oS,oD6,rv5⟩,⟨oS,oD6⟩,fun h1 h2 ⟨o,g,I⟩ k=>⟨o,k o g,I⟩⟩
      · rw [Q3 hb] at e
        exact (hok b o e).stay (fun _ _ _ q=>q) (fun c q=>by rw [Q3 (Q0 q hD5)];exact q) fun c xs q=>by rw [Q3 (Q0 q hD5)];exact q
    · obtain ⟨f0,f1,f2,f3,f4',f5⟩:=hf b hb
      exact ⟨f3,f1,f4',f5⟩
    · have:=I.lt
      rw [hDd] at this
      intro z
      rw [<- z,szD] at this
      exact absurd (Nat.lt_of_succ_lt this) (Nat.lt_irrefl _)
    · have:=I.sz
      rw [hDd] at this
      omega
    · intro x c e z
      obtain ⟨v,o,ho,_⟩:=I.cell x c e
      have:=Heap.lt_size ho
      rw [hDd,z,szD] at this
      exact absurd (Nat.lt_of_succ_lt this) (Nat.lt_irrefl _)
    · intro p hp z
      have:=Heap.lt_size (I.pin p hp).1
      rw [hDd,z,szD] at this
      exact absurd (Nat.lt_of_succ_lt this) (Nat.lt_irrefl _)
  · have im:=T.item X' eprog ew eK ecalm i _ s5 (capt σ map) H5 (notedBy (model X.prog X.w) X.A (compEnvC scope (cellsFrom h3.objs.size scope.names cl) H2.objs.size X.env) fun e s'=>RR (.ref D) H2.objs.size (.error e) s') pinD (f4 fr5 plD) st5 go
    rw [eA] at im
    refine thn im fun r s6 ⟨u,hr,h6⟩=>?_
    subst hr
    refine thn h6 fun _ s7 ⟨x,H7,I7,r7,y7,st7,fr7⟩=>?_
    have I7':=I7.pinned (f4 fr7 plD) (T.obj _ _ st7)
    have stp:=B.keep _ _ _ _ (step x H7 y7)
    have pgx:=pg _ s7 (capt σ map) H7 x u _ I7' r7 stp
    rw [eprog,ew,eA,eenv] at pgx
    refine wpAny_mono pgx (fun _ s8 ⟨σ8,H8,I8,⟨kl,k8⟩,q8⟩=>?_) err
    have pix:=pif _ s8 σ8 H8 _ I8 q8
    rw [eprog,ew,eA,eenv] at pix
    refine wpAny_mono pix (fun b s9 ⟨H9,I9,q9⟩=>?_) err
    have wk:∀ {σa:St} {Ha:Hp} {sa:Shared},σa=σ8->Inv X' ([(D,oS)]++CO fp s7.heap) σa Ha sa ->
     Inv X' [] (capt σ map) Ha sa/\tn (i+1) sa.heap/\(∀ b∈fp,Ha b=none)/\Ha D=none/\sa.heap.get? D=some oS:=fun {σa Ha sa} ea Ia=>by
     subst ea
     refine ⟨(Ia.pins_of (pins':=[]) fun p hp=>absurd hp (by simp)).weak kl.symm fun j v e=>?_,T.keep _ _ _ st7 fun b hb o e=>(Ia.pin (b,o) (List.mem_append_right _ (List.mem_append_right _ (Y3 hb e)))).1,fun b hb=>?_,?_,?_⟩
     · have e':=e
       unfold capt at e'
       rw [List.getElem?_map] at e'
       cases hm:map[j]? with
       | none=>rw [hm] at e';cases e'
       | some o =>
         rw [hm] at e'
         cases o with
         | none=>simp at e'
         | some i'=>rw [k8 j i' hm];exact e
     · obtain ⟨o,e,d⟩:=T.obj _ _ st7 b hb
       exact (Ia.pin (b,o) (List.mem_append_right _ (List.mem_append_right _ (Y3 hb e)))).2.1
     · exact (Ia.pin (D,_) (List.mem_append_right _ (List.mem_append_left _ List.mem_cons_self))).2.1
     · exact (Ia.pin (D,_) (List.mem_append_right _ (List.mem_append_left _ List.mem_cons_self))).1
    cases b with
    | false =>
      rw [if_neg Bool.false_ne_true] at q9 ⊢
      obtain ⟨m',hm',w9⟩:=hNN _ _ q9
      obtain ⟨a1,a2,a3,a4,a5⟩:=wk rfl I9
      exact ⟨m',hm',i+1,acc,H9,oS,a1,a2,a3,a4,a5,rv5,w9⟩
    | true =>
      rw [if_pos rfl] at q9 ⊢
      have pex:=pel _ s9 σ8 H9 _ I9 q9
      rw [eprog,ew,eA,eenv] at pex
      refine wpAny_mono pex (fun v s10 ⟨y,H10,I10,r10,x10,ok10,q10⟩=>?_) err
      obtain ⟨m',hm',w10⟩:=hNN _ _ q10
      obtain ⟨a1,a2,a3,a4,a5⟩:=wk rfl I10
      have ad:=fun Q E f=>J8l (X:=X') (E:=E) (Q:=Q) I10 (by rw [eA];exact hu) a5 (by rw [eprog,ew];exact rv5) rfl (by rw [eK];exact ok10) ⟨x10,rfl⟩ r10 f
      rw [eprog,ew,eA] at ad
      refine ad _ _ fun h11 o' tk11 sb11 e11 tg11=>?_
      refine ⟨m',hm',i+1,acc++[x10],H10,o',a1.turned (t':=tk11) (it:=D) (fun b o hb e=>(sb11.2 b hb).trans e) a4 ?_ (.inr (by rw [es0,hDd];exact Nat.le_refl _)) ncD (fun p hp=>absurd hp (by rw [epn];simp)),T.keep _ _ _ a2 fun b hb o e=>(sb11.2 b (fD b hb)).trans e,a3,a4,e11,tg11,w10⟩
      rw [eL,szD]
      exact Nat.ne_of_lt (Nat.lt_succ_self _)
 exact OQ loop (T.self _ 0 _ _ _ (T.keep _ _ _ st fun b hb o e=>pushCells_keeps _ _ _ _ (kC _ _ (kD _ _ e))) loop)
noncomputable def Q2k (wi:TI)(map:List (Option Nat))(g:TG)(tt:TT)(te:TE)(P:Program×World)(K:Fg):TE:=fun σ H Q=>wi σ H fun J H1=>∃ W:Nat->Nat->List TK->Hp->Prop,(∃ m,W 0 m [] H1) /\
 UN K J g tt te (capt σ map) (fun acc H'=>∀ D,H' D=none->Q (.ref D) (upd H' D (TOb P.1 P.2 acc D))) W
theorem J4x (hu:X.A.units+1<cLine)(B:Blk X N' scope map tg elt ifs g tt te)(hi:PI X tg iter wi)(hs:∀ x,foldedSetIterable iter X.env x=pure x:=by intro _;rfl):PE X (.SetComp elt [⟨tg,iter,ifs,0⟩] scope pos) (Q2k wi map g tt te (X.prog,X.w) X.K):=by
 intro pins s σ H Q I h
 obtain ⟨cl,hcl,hsub,hhas⟩:=B.clos I
 rw [arm_eval_SetComp]
 refine wpAny_comprehension_free (use:=none) rfl hs hcl B.kind B.loc (thn (hi pins s σ H _ I h) fun v s1 h1=>thn h1 fun itv s2 h2=>?_)
 obtain ⟨it,fp,tn,J,H2,e,I2,T,st2,f2,W,⟨m0,w0⟩,turn⟩:=h2
 subst e
 refine J3b (RR:=fun acc C=>compPost (model X.prog X.w) X.A X.xe none (EP X pins σ Q) acc C) I2 B.m hsub hhas (R:=fun X=>X.calm=true) (fun _ _ _ _ _=>B.calm) T.gen st2 f2 w0 hu turn (fun D C acc H' s' m I' hD nsm fC c1 c2 c3 c4 fin=>?_) fun D C e s' z=>z
 refine ⟨m,nsm,fun h' sb=>⟨.ref D,_,?_,rfl,fin D hD⟩⟩
 exact I'.turned (t':=s'.toks) (fun b o hb e=>(sb.2 b hb).trans e) fC c1 (.inr c2) c3 c4
end
section
variable {prog:Program}{w:World}{A:Around}{E:Value->Shared->Prop}{s:Shared}
theorem QG {d:Addr}{o:Obj}{es:Array (Int×Value)}{ep m:Nat}{t:SetTable}{rows:Value->List Int}{Q:Value->Shared->Prop}(hh:A.handled=none)(g0:s.heap.get? d=some o)(I:WSo w o es ep t)
 (ht:∀ v∈es.toList.map (·.2),TupZ s.heap v (rows v)) (hm:∀ v∈es.toList.map (·.2),(rows v).length=m/\∀ z∈rows v,Z7 z) (m0:0<m) (h64:es.size<64)
 (h:∀ (out:Array Value) (L:Addr) (e:Nat) h' d tk,out.toList.Perm (es.toList.map (·.2))->out.toList.Pairwise (fun x y=>AI 0 (rows x)<=AI 0 (rows y))->h'.get? L=some (seqObj "list" out e)->s.heap.objs.size<=L->(∀ b o,s.heap.get? b=some o->h'.get? b=some o)->Q (.ref L) { s with heap:=h',drawn:=d,toks:=tk }) :
 wpAny (model prog w) A (call (.builtin "sorted") [.ref d]) Q E s:=by
 refine Calls.call_function_entry kind_sorted plain_sorted entry_sorted (args_sorted1 _) ?_
 unfold Builtin.«sorted»
 refine wpAny_bind (m:=checkCount "sorted" 1 1 _) (wpAny_pure ?_)
 refine wpAny_bind (IF (by simp [hh]) g0 I (by omega) fun vs H1 d1 tk hv k1 z1=>?_)
 obtain ⟨ord,po,rfl⟩:=hv
 have pv:=po.map (·.2)
 have hl:(ord.map (·.2)).length=es.size:=by rw [pv.length_eq,List.length_map,Array.length_toList]
 have ht':∀ v∈ord.map (·.2),TupZ s.heap v (rows v):=fun v hv=>ht v (pv.mem_iff.mp hv)
 have hm':∀ v∈ord.map (·.2),(rows v).length=m/\∀ z∈rows v,Z7 z:=fun v hv=>hm v (pv.mem_iff.mp hv)
 refine wpAny_bind (wpAny_newList ?_ (by rw [hl,sizeLine_eq];omega))
 generalize ord.map (·.2)=vs at *
 have g2:(H1.push (seqObj "list" vs.toArray 0)).get? H1.objs.size=some (seqObj "list" vs.toArray 0):=Heap.get?_push_size _ rfl
 have t2:∀ v∈vs,TupZ (H1.push (seqObj "list" vs.toArray 0)) v (rows v):=fun v hv=>by
  obtain ⟨a,o,xs,n,e,g,c,d,i⟩:=ht' v hv
  exact ⟨a,o,xs,n,e,Heap.get?_push_of_some _ (k1 a o g),c,d,i⟩
 refine wpAny_bind (wpAny_holding (wpAny_call_entry (s:={ s with heap:=H1.push (seqObj "list" vs.toArray 0),drawn:=d1,toks:=tk }) slot_list_sort ⟨_,g2,rfl⟩ entry_list_sort (FC g2 t2 hm' m0 (by omega) fun out a1 a2=>⟨_,rfl,?_⟩) (args_list_sort _)))
 refine wpAny_pure ⟨_,rfl,?_⟩
 show Q (.ref H1.objs.size) { s with heap:=sortedHeap (H1.push (seqObj "list" vs.toArray 0)) H1.objs.size vs out,drawn:=d1,toks:=tk }
 unfold sortedHeap
 obtain ⟨e1,q1⟩:∃ e1,((H1.push (seqObj "list" vs.toArray 0)).update H1.objs.size (Obj.mapSeq fun _=>#[])).get? H1.objs.size=some (seqObj "list" #[] e1):=⟨_,get?_update_seq g2 (fun _=>#[])⟩
 have q2:=Heap.get?_push_of_some (seqObj "list" #[] 0) (Heap.get?_push_of_some (seqObj "tuple" vs.toArray 0) q1)
 obtain ⟨e3,q3⟩:∃ e3,(((((H1.push (seqObj "list" vs.toArray 0)).update H1.objs.size (Obj.mapSeq fun _=>#[])).push (seqObj "tuple" vs.toArray 0)).push (seqObj "list" #[] 0)).update H1.objs.size (Obj.mapSeq fun _=>out)).get? H1.objs.size=some (seqObj "list" out e3):=⟨_,get?_update_seq q2 (fun _=>out)⟩
 refine h out H1.objs.size e3 _ d1 tk (a1.trans pv) a2 q3 z1 fun b q e=>?_
 have bl:=Heap.lt_size e
 have nb:b≠H1.objs.size:=Nat.ne_of_lt (Nat.lt_of_lt_of_le bl z1)
 rw [Heap.get?_update_ne _ _ _ _ nb]
 refine Heap.get?_push_of_some _ (Heap.get?_push_of_some _ ?_)
 rw [Heap.get?_update_ne _ _ _ _ nb]
 exact Heap.get?_push_of_some _ (k1 b q e)
end
section
variable {X:Cx}
noncomputable def J4k (K:Fg)(P:Program×World):List V->Hp->VK->Prop:=fun xs H Q=>∃ (a:Addr) (kas:List TK) (m:Nat),xs=[.ref a]/\H a=some (TOb P.1 P.2 kas a)/\(∀ x∈kas,SqT K H x.2 (x.1.map V.int)/\x.1.length=m/\∀ z∈x.1,Z7 z)/\0<m/\kas.length<64 /\
 ∀ (p:Addr) (qs:List (Addr×List Int)),H p=none->(∀ q∈qs,(q.2,q.1)∈kas)->(qs.map (·.2)).Nodup->(∀ x∈kas,x.1∈qs.map (·.2))->qs.Pairwise (fun x y=>AI 0 x.2<=AI 0 y.2)->Q (.ref p) (upd H p (.lst (qs.map fun q=>V.ref q.1)))
theorem SH (K:Fg)(hK:X.K=K)(hc:X.calm=true):AW X (.builtin "sorted") (J4k K (X.prog,X.w)):=by
 subst hK
 intro pins s σ H xs us Q I r h
 obtain ⟨a,kas,m,rfl,hD,hr,m0,h64,q⟩:=h
 obtain ⟨u,rfl,rx⟩:=FW r
 cases rx
 obtain ⟨⟨o,g0,xs,es,ep,t,T,sub,cov,_⟩,_,_⟩:=I.hok a _ hD
 have WI:WSo X.w o es ep t:=⟨T.ex,T.da,T.ft,T.rt.dum,T.led,fun _=>T.rt.asc⟩
 have hsz:es.size=xs.length:=by rw [<- Array.length_toList,T.el,List.length_map]
 have lx:xs.length<=kas.length:=by
  have:=GP (xs.map (·.1)) (kas.map (·.1)) T.nd fun z hz=>by
   obtain ⟨x,hx,rfl⟩:=List.mem_map.mp hz
   exact List.mem_map.mpr ⟨x,sub x hx,rfl⟩
  rwa [List.length_map,List.length_map] at this
 have hk:es.toList.map (·.2)=xs.map fun e=>Value.ref e.2:=by rw [T.el,List.map_map];rfl
 let ps:List (Addr×List Int):=xs.map fun e=>(e.2,e.1)
 have hr':∀ p∈ps,SqT X.K H p.1 (p.2.map V.int)/\p.2.length=m/\∀ z∈p.2,Z7 z:=fun p hp=>by
  obtain ⟨e,he,rfl⟩:=List.mem_map.mp hp
  exact hr e (sub e he)
 have hk2:es.toList.map (·.2)=(ps.map (·.1)).map Value.ref:=by
  rw [hk,List.map_map,List.map_map]
  rfl
 let row:Addr->List Int:=fun a=>match ps.find? (fun p=>p.1==a) with|some p=>p.2|none=>[]
 have rw_:∀ p∈ps,row p.1=p.2:=fun p hp=>by
  show (match ps.find? (fun q=>q.1==p.1) with|some p=>p.2|none=>[])=p.2
  cases f:ps.find? (fun q=>q.1==p.1) with
  | none=>exact absurd (List.find?_eq_none.mp f p hp) (by simp)
  | some p' =>
    have m1:=List.mem_of_find?_eq_some f
    have m2:p'.1=p.1:=by simpa using List.find?_some f
    have h1:=(hr' p' m1).1
    rw [m2] at h1
    have:=I.tuple_inj h1 (hr' p hp).1
    exact (List.map_inj_right (fun x y e=>by cases e;rfl)).mp this
 refine QG (rows:=fun v=>match v with|.ref a=>row a|_=>[]) (I.ok.hd hc) g0 WI (fun v hv=>?_) (fun v hv=>?_) m0 (by omega) fun out L ep' h' d' tk a1 a2 g zL k=>?_
 · rw [hk2] at hv
   obtain ⟨a,ha,rfl⟩:=List.mem_map.mp hv
   obtain ⟨p,hp,rfl⟩:=List.mem_map.mp ha
   obtain ⟨its,rv,⟨o,g,c,n,d⟩,_⟩:=I.tuple (hr' p hp).1
   exact ⟨p.1,o,its.toArray,n,rfl,g,c,d,by show IntsAre _ (row p.1);rw [rw_ p hp];exact EG rv⟩
 · rw [hk2] at hv
   obtain ⟨a,ha,rfl⟩:=List.mem_map.mp hv
   obtain ⟨p,hp,rfl⟩:=List.mem_map.mp ha
   show (row p.1).length=m/\∀ z∈row p.1,Z7 z
   rw [rw_ p hp]
   exact (hr' p hp).2
 · rw [hk2] at a1
   obtain ⟨bs,eb⟩:∃ bs:List Addr,out.toList=bs.map Value.ref:=by
    have:∀ l:List Value,(∀ v∈l,∃ a,v=Value.ref a)->∃ bs:List Addr,l=bs.map Value.ref:=by
     intro l
     induction l with
     | nil=>exact fun _=>⟨[],rfl⟩
     | cons v l ih =>
       intro h
       obtain ⟨a,rfl⟩:=h v (List.mem_cons_self ..)
       obtain ⟨bs,rfl⟩:=ih fun v hv=>h v (List.mem_cons_of_mem _ hv)
       exact ⟨a::bs,rfl⟩
    refine this _ fun v hv=>?_
    obtain ⟨a,_,e⟩:=List.mem_map.mp (a1.mem_iff.mp hv)
    exact ⟨a,e.symm⟩
   have pb:bs.Perm (ps.map (·.1)):=by
    have:=a1
    rw [eb] at this
    have:=this.map (fun v=>match v with|Value.ref a=>a|_=>0)
    rw [List.map_map,List.map_map] at this
    simpa [Function.comp_def] using this
   have hL:H L=none:=I.hok.fresh zL
   have eq:(bs.map fun a=>(a,row a)).map (fun q=>V.ref q.1)=bs.map V.ref:=by
    rw [List.map_map];rfl
   have pq:(bs.map fun a=>(a,row a)).Perm ps:=by
    have:=pb.map fun a=>(a,row a)
    rw [List.map_map] at this
    have e:ps.map ((fun a=>(a,row a))∘fun x=>x.1)=ps:=by
     conv=>rhs;rw [<- List.map_id ps]
     exact List.map_congr_left fun p hp=>by show (p.1,row p.1)=p;rw [rw_ p hp]
    rwa [e] at this
   have lz:ps.length=xs.length:=List.length_map ..
   have J:=I.laid (a:=L) (o:=.lst (bs.map V.ref)) (t':=tk) (h':=h') k zL ⟨by rw [List.length_map,pb.length_eq,List.length_map,sizeLine_eq];omega,out.toList,ep',by rw [eb];exact HJ bs,by simpa using g⟩
   have pm:((bs.map fun a=>(a,row a)).map (·.2)).Perm (xs.map (·.1)):=by
    have:=pq.map (·.2)
    rw [show ps.map (·.2)=xs.map (·.1) from by rw [List.map_map];rfl] at this
    exact this
   have fin:=q L (bs.map fun a=>(a,row a)) hL (fun q hq=>by
    obtain ⟨e,he,rfl⟩:=List.mem_map.mp (pq.mem_iff.mp hq)
    exact sub e he) (pm.nodup_iff.mpr T.nd) (fun x hx=>pm.mem_iff.mpr (cov x hx)) (by
    rw [eb,List.pairwise_map] at a2
    rw [List.pairwise_map]
    exact a2)
   rw [eq] at fin
   exact ⟨.ref L,_,J.drew d',rfl,fin⟩
end
theorem IP {H:Hp}:∀ {kas:List TK},Reps K M H ((kas.map (·.1)).map Y4) (kas.map fun x=>V.ref x.2)->∀ x∈kas,Rep K M H (Y4 x.1) (.ref x.2)
 | [],_,x,hx=>by cases hx
 | y::kas,h,x,hx=>by
   obtain ⟨v,r,e,h1,h2⟩:=h
   rw [List.map_cons,List.cons.injEq] at e
   rcases List.mem_cons.mp hx with z|z
   · rw [z,e.1];exact h1
   · exact IP (by rw [e.2];exact h2) x z
inductive compT (gd:D->Ev->(Ev->Prop)->Prop)(dt:DT)(de:DE)(ρc:Ev)(items:List D)(P:List (List Int)->Prop):Prop
 | mk (I:Nat->List (List Int)->Prop) (h0:I 0 []) (hs:∀ (i:Nat) x rows,items[i]?=some x->I i rows->gd x ρc fun ρ1=>dt ρ1 fun c=>IfP c (de ρ1 fun y=>∃ r,y=Y4 r/\rows.length<70/\I (i+1) (rows++[r])) (I (i+1) rows)) (hd:∀ rows,I items.length rows->P rows):compT gd dt de ρc items P
def Q2u (rows:List (List Int))(P:List D->Prop):Prop:=∃ m:Nat,0<m/\rows.length<64/\(∀ r∈rows,r.length=m/\∀ z∈r,Z7 z)/\∀ rows':List (List Int),rows'.Nodup->(∀ r,r∈rows'↔r∈rows)->rows'.Pairwise (fun x y=>AI 0 x<=AI 0 y)->P (rows'.map Y4)
noncomputable def Q1c (map:List (Option Nat))(gd:D->Ev->(Ev->Prop)->Prop)(di:DA)(dt:DT)(de:DE):DA:=fun ρ P=>di ρ fun items=>items.length<=1000/\compT gd dt de (DW ρ map) items fun rows=>Q2u rows P
theorem RY {W:Wd}{pn:List (D×V)}{M:Addr->Prop}{b:Option Addr}{H:Hp}{σ:St}{ρ:Ev}{J:It}{need:List (D×V)}{items:List D}{g:TG}{gd:D->Ev->(Ev->Prop)->Prop}{dt:DT}{de:DE}{P:List (List Int)->Prop}{Fin:List TK->Hp->Prop}
 (hG:GD W g gd) (st:Sta W pn M b H σ ρ) (hp:items.all plain=true) (hI:IL W J need items) (hn:∀ q∈need,RepX W M b H q.1 q.2) (h:compT gd dt de ρ items P)
 (fin:∀ kas H',P (kas.map (·.1))->Reps W.K M H' ((kas.map (·.1)).map Y4) (kas.map fun x=>V.ref x.2)->Kp b H H'->okB W.B b H'->Fin kas H'):∃ Wf:Nat->Nat->List TK->Hp->Prop,(∃ m,Wf 0 m [] H)/\UN W.K J g (dnT W dt) (dn W de) σ Fin Wf:=by
 obtain ⟨I,i0,istep,idone⟩:=h
 refine ⟨fun i m kas H2=>m=items.length - i/\i<=items.length/\Kp b H H2/\okB W.B b H2/\Reps W.K M H2 ((kas.map (·.1)).map Y4) (kas.map fun x=>V.ref x.2)/\I i (kas.map (·.1)),⟨items.length,by simp,Nat.zero_le _,Kp.refl _ _,st.ok,rfl,i0⟩,?_⟩
 rintro i m kas H2 ⟨rfl,hi,k2,o2,r,q⟩
 have st2:=st.step k2 o2
 obtain ⟨hgo,hstop⟩:=hI M b H2 st2.toHs fun q hq=>(hn q hq).step st.bagM k2
 by_cases hlt:i<items.length
 · have ei:items[i]?=some items[i]:=List.getElem?_eq_getElem hlt
   replace q:=istep i _ _ ei q
   refine .inr ⟨(hgo i _ ei).1,fun kas' H'=>Kp b H H'/\okB W.B b H'/\Reps W.K M H' ((kas'.map (·.1)).map Y4) (kas'.map fun x=>V.ref x.2)/\I (i+1) (kas'.map (·.1)),fun kas' H' n=>⟨items.length - (i+1),by omega,rfl,hlt,n⟩,fun x H3 y=>?_⟩
   obtain ⟨S3,rx⟩:=(hgo i _ ei).2 x H3 y
   have o3:okB W.B b H3:=fun p e=>W.B.st p H2 H3 (o2 p e) fun o e'=>S3 p o e'
   have k3:Kp b H2 H3:=Kp.same S3
   have st3:=st2.step k3 o3
   refine hG pn M b H3 σ ρ items[i] x _ _ st3 rx (List.all_eq_true.mp hp _ (List.getElem_mem hlt)) q fun ρ1 σ1 h1 st4 _=>?_
   refine ⟨pn,M,b,ρ1,_,st4,h1,fun c H5 h5 k5 o5=>?_⟩
   cases h5 with
   | t e h5 =>
     rw [if_pos e]
     refine ⟨pn,M,b,ρ1,_,st4.step k5 o5,h5,fun y v H6 h6 ry k6 o6=>?_⟩
     obtain ⟨row,rfl,hl,hI'⟩:=h6
     have kk:=((k3.trans k5).trans k6)
     have ry:Rep W.K M H6 (Y4 row) v:=ry.rep rfl
     obtain ⟨a,vs,rfl,hta⟩:∃ a vs,v=.ref a/\True:=by
      obtain ⟨a,vs,e,_⟩:=ry
      exact ⟨a,vs,e,trivial⟩
     have r6:Reps W.K M H6 (((kas++[(row,a)]).map (·.1)).map Y4) ((kas++[(row,a)]).map fun x=>V.ref x.2):=by
      rw [List.map_append,List.map_append,List.map_append]
      exact Reps.append (Reps.keep (fun c o n e=>kk c o (fun z=>n (st.bagM c z)) e) _ _ r) ⟨.ref a,[],rfl,ry,rfl⟩
     refine ⟨(row,a),⟨by rw [List.map_append];rfl,fun x hx=>SU (IP r6 x hx),?_⟩,k2.trans kk,o6,r6,by rw [List.map_append];exact hI'⟩
     rw [List.length_append]
     rw [List.length_map] at hl
     exact hl
   | f e h5 =>
     rw [if_neg (by rw [e];exact Bool.false_ne_true)]
     have kk:=k3.trans k5
     exact ⟨k2.trans kk,o5,Reps.keep (fun c o n e=>kk c o (fun z=>n (st.bagM c z)) e) _ _ r,h5⟩
 · have e:i=items.length:=by omega
   subst e
   exact .inl ⟨hstop _ (Nat.le_refl _),fin kas H2 (idone _ q) r k2 o2⟩
section
variable {X:Cx}{W:Wd}{elt iter tg:Expr}{ifs:List Expr}{scope:Scope}{pos cpos p:Pos}{N':List Str}{map:List (Option Nat)}{g:TG}{gd:D->Ev->(Ev->Prop)->Prop}{di:DA}{dt:DT}{de:DE}{x:Str}
theorem TZ (hK:X.K=W.K)(hu:X.A.units+1<cLine)(hc:X.calm=true)(hg:Gl X x)(hm:X.mg x=none)(hv:bootBuiltins x=some (.builtin "sorted")) (hG:GD W g gd) (B:Blk X N' scope map tg elt ifs g (dnT W dt) (dn W de)) (hi:JI X W false tg iter di) (hn:x≠"__name__":=by decide) (hdb:(x==("__debug__" : Str))=false:=by decide)
 (hs:∀ x,foldedSetIterable iter X.env x=pure x:=by intro _;rfl) (hpl:(backTo pos (starEach ([]:List Expr) X.env)).any (·.1)=false:=by rfl):JF X W (.Call (.Name x p) [.SetComp elt [⟨tg,iter,ifs,0⟩] scope cpos] [] pos) (Q1c map gd di dt de) :=
 ⟨(DR (SH W.K hK hc) hg hm hv (AF (J4x hu B hi.h hs) DI) hn hdb rfl hpl).mono fun σ H Q hh=>by
   obtain ⟨pn,M,b,ρ,P,st,h,k⟩:=hh
   refine ⟨pn,M,b,ρ,_,st,h,fun items J need H1 hx hp hI hn k1 o1=>?_⟩
   have st1:=st.step k1 o1
   rw [hK]
   refine RY hG (st1.capt map) hp hI (fun q hq=>(hn q hq).1) hx.2 fun kas H' hP r k2 o2 D hD=>?_
   obtain ⟨m,m0,h64,hb,hP⟩:=hP
   have hKp:Kp b H' (upd H' D (TOb X.prog X.w kas D)):=Kp.upd hD
   have r2:Reps W.K M (upd H' D (TOb X.prog X.w kas D)) ((kas.map (·.1)).map Y4) (kas.map fun x=>V.ref x.2):=Reps.keep (fun c o _ e=>Same.upd hD c o e) _ _ r
   have st2:=st1.step k2 o2
   have o3:=st2.toHs.okU (o:=TOb X.prog X.w kas D) hD
   have st3:=st2.step hKp o3
   refine ⟨D,kas,m,rfl,Q6,fun x hx=>⟨SU (IP r2 x hx),hb _ (List.mem_map.mpr ⟨x,hx,rfl⟩)⟩,m0,by rwa [List.length_map] at h64,fun L qs hL sub nd cov so=>?_⟩
   have rq:Reps W.K M (upd H' D (TOb X.prog X.w kas D)) ((qs.map (·.2)).map Y4) (qs.map fun q=>V.ref q.1):=HG fun q hq=>IP r2 _ (sub q hq)
   refine k _ _ L _ (hP (qs.map (·.2)) nd (fun z=>⟨fun hz=>?_,fun hz=>?_⟩) (by rw [List.pairwise_map];exact so)) (GN ((k1.trans k2).trans hKp) o3 hL) Q6 (Reps.keep (fun c o _ e=>Same.upd hL c o e) _ _ (Reps.avoid (fun c z=>z.imp id fun y=>by rw [y];exact hL) _ _ rq)) (((k1.trans k2).trans hKp).trans (Kp.upd hL)) (st3.toHs.okU hL)
   · obtain ⟨q,hq,rfl⟩:=List.mem_map.mp hz
     exact List.mem_map.mpr ⟨_,sub q hq,rfl⟩
   · obtain ⟨y,hy,rfl⟩:=List.mem_map.mp hz
     exact cov y hy⟩
end
end L2
namespace K
open PySem PySem.Spec PyProof.Rows L2
local macro_rules | `(tactic| walk_at "o") => `(tactic| first | exact Or.inl rfl | exact Or.inr rfl)
local macro_rules | `(tactic| walk_at "v") => `(tactic| first | exact Or.inl rfl | exact Or.inr (Or.inl rfl) | exact Or.inr (Or.inr rfl))
local macro_rules | `(tactic| walk_at "bg") => `(tactic| first | assumption | exact Bag.same (by walk_at "bg") (Same.upd (by assumption)) | exact Bag.same (by walk_at "bg") (by assumption))
local macro_rules | `(tactic| walk_at "hp") => `(tactic| first | assumption | exact Q6 | (refine Same.get (Same.upd (by assumption)) ?_; walk_at "hp") | (refine Same.get (by assumption) ?_; walk_at "hp") | (refine Keep.tup (by assumption) (by walk_at "bg") ?_; (walk_at "hp")))
local macro_rules | `(tactic| walk_at "sm") => `(tactic| first | exact Same.refl _ | assumption | (refine Same.trans ?_ (Same.upd (by assumption)); walk_at "sm") | (refine Same.trans ?_ (by assumption); walk_at "sm"))
local macro_rules | `(tactic| walk_at "kp") => `(tactic| first | exact Keep.refl _ _ | assumption | (refine Keep.trans ?_ (Same.keep (Same.upd (by assumption))); walk_at "kp") | (refine Keep.trans ?_ (by assumption); walk_at "kp") | (refine Keep.trans ?_ (Same.keep (by assumption)); walk_at "kp"))
local macro_rules | `(tactic| walk_at "bd") => `(tactic| first | assumption | exact Bd.mul (by walk_at "bd") (by walk_at "bd") | exact Bd.add (by walk_at "bd") (by walk_at "bd") | exact Bd.sub (by walk_at "bd") (by walk_at "bd") | exact Bd.neg (by walk_at "bd") | exact Bd.num _ (by decide))
local macro_rules | `(tactic| walk_at "rd1") => `(tactic| first | refine ⟨_,_,rfl,rfl,?_⟩ | refine ⟨_,rfl,?_⟩ | (refine' ⟨_,?xs,_,?vv,rfl,rfl,SqT.of ?ia,?ib,?_⟩; (case ia => walk_at "hp"); (case ib => rfl)) | refine And.intro (CMulB.right (Bd.num _ (by decide))) ?_ | (refine' rd_mul ?m1 ?m2 ?m3 ?_; (case m1 => walk_at "bd"); (case m2 => walk_at "bd"); (case m3 => first | decide | omega)) | refine ⟨rfl,?_⟩)
local macro_rules | `(tactic| walk_at "rd") => `(tactic| repeat (walk_at "rd1"))
local macro_rules | `(tactic| walk_at "al") => `(tactic| (refine ⟨(Nat.le_trans (Nat.le_of_ble_eq_true rfl) AT),?_⟩; intro p en))
local macro_rules | `(tactic| walk_at "w") => `(tactic| (conv => whnf))
local macro_rules | `(tactic| walk_at "go1") => `(tactic| first | refine And.intro (by exact rfl) ?_ | refine IfP.t (by exact rfl) ?_ | refine IfP.f (by exact rfl) ?_ | refine And.intro (by exact Nat.le_of_ble_eq_true rfl) ?_ | refine And.intro (by decide) ?_ | refine And.intro (by dsimp only; decide) ?_ | refine And.intro (CMulB.right (Bd.num _ (by decide))) ?_ | refine And.intro (Or.inl ⟨_,_,by walk_at "bd",by walk_at "bd",by first | decide | omega⟩) ?_| refine And.intro ⟨by decide,by decide⟩ ?_)
local macro_rules | `(tactic| walk_at "g") => `(tactic| ((conv => whnf); repeat (walk_at "go1"; (conv => whnf))))
local macro_rules | `(tactic| walk_at "nz") => `(tactic| simp only [AJ,List.map_cons,List.map_nil,List.length_cons,List.length_nil,List.replicate,List.cons_append,List.nil_append,List.set_cons_succ,List.set_cons_zero,DW,List.getElem?_cons_succ,List.getElem?_cons_zero,Option.bind_some,Option.bind_none,Option.join_some,Option.join_none,JC,Nat.reduceAdd,Nat.reduceSub,Int.reduceAdd,Nat.zero_add])
local macro_rules | `(tactic| walk_at "gr") => `(tactic| ((try walk_at "nz"); refine for_rec ?_; walk_at "g"))
local macro_rules | `(tactic| walk_at "gc") => `(tactic| ((try walk_at "nz"); refine J2u ?_; walk_at "g"))
local macro_rules | `(tactic| walk_at "sp") => `(tactic| (refine IfP.of (fun h => ?_) (fun h => ?_) <;> (try simp only [decide_eq_true_eq,Bool.bne_false,Bool.bne_true,Bool.not_eq_true',decide_eq_false_iff_not,Bool.not_true,Bool.not_false,Bool.not_eq_false',bne_iff_ne,ne_eq,Bool.not_not] at h)))
def top (i:Nat):Stmt:=PySem.Challenge.pw_onceshade_k57_whole_outlines_of_closed_b.main.body.getD i (.Pass ⟨0,0,0,0⟩)
structure Bi (mg:Str->Option Value):Prop where
 abs_:mg "abs" = none
 len_:mg "len" = none
 max_:mg "max" = none
 min_:mg "min" = none
 range_:mg "range" = none
 isinstance_:mg "isinstance" = none
 int_:mg "int" = none
 bool_:mg "bool" = none
 tuple_:mg "tuple" = none
 zip_:mg "zip" = none
 sum_:mg "sum" = none
 all_:mg "all" = none
 any_:mg "any" = none
 list_:mg "list" = none
 sorted_:mg "sorted" = none
structure Cs where
 ShadeError:Addr
 Behind:Addr
structure Ex (K:Fg)(mg:Str->Option Value)(base:Heap)(c:Cs):Prop where
 g_ShadeError:mg "ShadeError" = some (.ref c.ShadeError)
 g_Behind:mg "Behind" = some (.ref c.Behind)
 o_Behind:OwnCls "Behind" c.Behind bmV "ValueError.__new__" mg base
 x_Behind:XCls K c.Behind
 v_Behind:PySem.W.subIn K (.ref c.Behind) (.type "ValueError")=some true
 s_Behind:PySem.W.subIn K (.ref c.Behind) (.ref c.ShadeError)=some true
 sh:XBase K c.ShadeError
def BagP (H:Hp)(p:Addr):Prop:=∃ f m q:Int,H p=some (.lst [.int f,.int m,.int q])/\0<=f/\0<=m/\m<4294967296/\2147483353<=q/\q<=2147483629
theorem BagP.same {H H':Hp}{p:Addr}(b:BagP H p)(S:Same H H'):BagP H' p:=by
 obtain ⟨f,m,st,e,q⟩:=b
 exact ⟨f,m,st,S _ _ e,q⟩
theorem BagP.ne {H:Hp}{p a:Addr}{xs:List V}(b:BagP H p)(h:H a=some (.tup xs)):a≠p:=by
 obtain ⟨f,m,st,e,_⟩:=b
 exact J7j h e (by intro z;cases z)
def Q6d (p:Addr)(many:Int)(H:Hp)(Q:VK):Prop:=∀ (r:Int) H',0<=r->r<many->BagP H' p->Keep p H H'->Q (.int r) H'
abbrev BJ:Stmt:=top 25
abbrev xl1:List Str:=["_law_script","_law_at"]
theorem AZ:FnScope ["_law_script","_law_at","_law_cell","_law_prime","_law_great"] xl1 (J4 BJ):=⟨rfl,rfl,rfl,by decide +kernel,rfl,by decide +kernel,by decide +kernel⟩
noncomputable def ZG (K:Fg):Sp:=fun vs H Q _=>∃ (a:Addr) (ns:List Int) (i:Nat),vs=[.ref a,.int i]/\SqL K H a (ns.map V.int)/\i<=1000/\∀ p H',H p=none->Same H H'->BagP H' p->Q (.ref p) H'
abbrev xc1 (P:Program) (w:World) (K:Fg) (mg:Str → Option Value) (base:Heap) (f:Addr) (cdv:Value) (A:Around) (outer:List Env) (s:Shared) (H:Hp) (E:XK):Cx:=Z8 CX0 P w K mg base ["_law_script","_law_at","_law_cell","_law_prime","_law_great"] "_law_bag" (J4 BJ) f cdv A outer s H E
theorem OE {w:World} {f:Addr} (F:Fun K "_law_bag" "_law_bag" BJ f fd) (Z:Bi mg) {c:Cs} (Y:Ex K mg base c):FnOk P w K mg base CX0 1 f fd xl1 (ZG K):=by
 refine F.ok AZ (fun vs H Q E h=>?_) (fun cdv A outer s H vs Q E hr h=>?_)
 · obtain ⟨a,ns,i,rfl,hS,hi,k⟩:=h
   rfl
 · obtain ⟨a,ns,i,rfl,hS,hi,k⟩:=h
   obtain ⟨es1,hes1⟩:∃ es:List Expr,es=List.map (fun c:Int×Nat×Pos=>Expr.Constant (.int c.1) c.2.1 c.2.2) [(2147483629,0,⟨79,18,79,28⟩),(2147483587,0,⟨79,30,79,40⟩),(2147483579,0,⟨79,42,79,52⟩),(2147483563,0,⟨79,54,79,64⟩),(2147483549,0,⟨79,66,79,76⟩),(2147483543,0,⟨79,78,79,88⟩),(2147483497,0,⟨79,90,79,100⟩),(2147483489,0,⟨79,102,79,112⟩),(2147483477,0,⟨79,114,79,124⟩),(2147483423,0,⟨79,126,79,136⟩),(2147483399,0,⟨79,138,79,148⟩),(2147483353,0,⟨79,150,79,160⟩)]:=⟨_,rfl⟩
   have hT1:PS (xc1 P w K mg base f cdv A outer s H E).nox (Stmt.Assign [Expr.Name "_law_prime" ⟨79,4,79,14⟩] (Expr.Subscript (Expr.Tuple es1 0 ⟨79,17,79,161⟩) (Expr.BinOp (Expr.Name "_law_at" ⟨79,162,79,169⟩) .Mod (Expr.Constant (Const.int 12) 0 ⟨79,172,79,174⟩) ⟨79,162,79,174⟩) ⟨79,17,79,175⟩) ⟨79,4,79,175⟩) _:=BX (i:=3) AZ.nd rfl (by walk_at "o") (GV (VO K (by rfl)) (TF (x1:=0) (pos:=⟨79,17,79,161⟩) [(2147483629,0,⟨79,18,79,28⟩),(2147483587,0,⟨79,30,79,40⟩),(2147483579,0,⟨79,42,79,52⟩),(2147483563,0,⟨79,54,79,64⟩),(2147483549,0,⟨79,66,79,76⟩),(2147483543,0,⟨79,78,79,88⟩),(2147483497,0,⟨79,90,79,100⟩),(2147483489,0,⟨79,102,79,112⟩),(2147483477,0,⟨79,114,79,124⟩),(2147483423,0,⟨79,126,79,136⟩),(2147483399,0,⟨79,138,79,148⟩),(2147483353,0,⟨79,150,79,160⟩)] hes1) (BU EE (pv 1) Y5) (fun _ _=>rfl)) rfl (.inl rfl)
   generalize hst1:Stmt.Assign [Expr.Name "_law_prime" ⟨79,4,79,14⟩] (Expr.Subscript (Expr.Tuple es1 0 ⟨79,17,79,161⟩) (Expr.BinOp (Expr.Name "_law_at" ⟨79,162,79,169⟩) .Mod (Expr.Constant (Const.int 12) 0 ⟨79,172,79,174⟩) ⟨79,162,79,174⟩) ⟨79,17,79,175⟩) ⟨79,4,79,175⟩=st1 at hT1
   have hR1:=((AA (BX (i:=4) AZ.nd rfl (by walk_at "o") Y5)
    (AA (UZ (GU Q3j (pv 2) (BU TM Y5 Y5) (Z5 _)) (CH (BX (i:=4) AZ.nd rfl (by walk_at "o") (pv 2))) IR)
    (CH (EW (TL (AF (pv 4) (AF (BU EE (BU TM (BU CP (BU EE (pv 2) (pv 3)) Y5) Y5) (pv 3)) (AF (pv 3) DI)))))))):PSs (xc1 P w K mg base f cdv A outer s H E).nox ((AH BJ).drop 3) _)
   have hV1:=@ZU _ _ _ (AA hT1 hR1)
   refine ⟨_,(AA (BX (i:=2) AZ.nd rfl (by walk_at "o") Y5)
    (AA (UZ (GU J7h (pv 1) (DR (Y2 K (by rfl)) rfl Z.len_ EJ (AF (pv 0) DI)) (Z5 _)) (CH (BX (i:=2) AZ.nd rfl (by walk_at "o") (GV (BW K (by rfl)) (pv 0) (pv 1) (fun _ _=>rfl)))) IR)
    hV1)),?_⟩
   have ixp:∀ j:Int,∃ q:Int,atI [.int 2147483629,.int 2147483587,.int 2147483579,.int 2147483563,.int 2147483549,.int 2147483543,.int 2147483497,.int 2147483489,.int 2147483477,.int 2147483423,.int 2147483399,.int 2147483353] (j % 12)=some (V.int q)/\2147483353<=q/\q<=2147483629:=fun j=>by
    obtain ⟨v,ev,mv⟩:=J3f (xs:=[.int 2147483629,.int 2147483587,.int 2147483579,.int 2147483563,.int 2147483549,.int 2147483543,.int 2147483497,.int 2147483489,.int 2147483477,.int 2147483423,.int 2147483399,.int 2147483353]) (i:=j % 12) (Int.emod_nonneg _ (by decide)) (Int.emod_lt_of_pos _ (by decide))
    simp only [List.mem_cons,List.not_mem_nil,or_false] at mv
    rcases mv with e|e|e|e|e|e|e|e|e|e|e|e<;>exact ⟨_,e▸ev,by decide,by decide⟩
   obtain ⟨q,xq,q0,q1⟩:=ixp (i:Int)
   have fin:∀ (cv f:Int) (H1:Hp),Same H H1->0<=f->∀ p,H1 p=none->Q (.ref p) (upd H1 p (.lst [.int f,.int ((cv % q+7919) ^ (3:Int).toNat % q),.int q])):=fun cv f H1 S hf p hp=>by
    have h1:=Int.emod_nonneg ((cv % q+7919) ^ (3:Int).toNat) (show q≠0 by omega)
    have h2:=Int.emod_lt_of_pos ((cv % q+7919) ^ (3:Int).toNat) (show 0<q by omega)
    exact k p _ (S.free hp) (S.trans (Same.upd hp)) ⟨_,_,_,Q6,hf,h1,by omega,q0,q1⟩
   have hpw:∀ cv:Int,(cv % q+7919).natAbs<2 ^ 64:=fun cv=>by
    have h1:=Int.emod_nonneg cv (show q≠0 by omega)
    have h2:=Int.emod_lt_of_pos cv (show 0<q by omega)
    omega
   walk_at "rd"
   refine ⟨_,_,rfl,.inl hS,?_⟩
   walk_at "rd"
   refine J5w (fun h=>?_) (fun h=>?_)
   · have h:(i:Int)<((ns.map V.int).length:Nat):=J2i h
     have hi':i<ns.length:=by rw [List.length_map] at h;omega
     walk_at "rd"
     refine ⟨_,_,_,_,rfl,rfl,hS,IV (v:=V.int ns[i]) (by rw [List.getElem?_map,List.getElem?_eq_getElem hi'];rfl),?_⟩
     walk_at "rd"
     refine ⟨by rw [<- hst1,hes1];rfl,?_⟩
     walk_at "al"
     rename_i pr npr
     walk_at "rd"
     refine ⟨(by show (0:Int)<12;decide),?_⟩
     refine ⟨_,_,_,_,rfl,rfl,SqT.of Q6,xq,?_⟩
     walk_at "rd"
     refine ⟨⟨by decide,by decide,by decide⟩,?_⟩
     walk_at "rd"
     refine J5w (fun h=>?_) (fun h=>?_)
     all_goals
      walk_at "rd"
      refine ⟨(by show 0<q;omega),?_⟩
      walk_at "rd"
      refine ⟨⟨by decide,by decide,hpw _⟩,?_⟩
      walk_at "rd"
      refine ⟨(by show 0<q;omega),?_⟩
      walk_at "rd"
      refine ⟨(Nat.le_trans (Nat.le_of_ble_eq_true rfl) AT),?_⟩
     · exact fin _ _ _ (Same.upd npr) (by have h:(10:Int) ^ Int.toNat 18<=_:=J2i h;have e:(10:Int) ^ Int.toNat 18=1000000000000000000:=(by decide);omega)
     · exact fin _ _ _ (Same.upd npr) (by decide)
   · walk_at "rd"
     refine ⟨by rw [<- hst1,hes1];rfl,?_⟩
     walk_at "al"
     rename_i pr npr
     walk_at "rd"
     refine ⟨(by show (0:Int)<12;decide),?_⟩
     refine ⟨_,_,_,_,rfl,rfl,SqT.of Q6,xq,?_⟩
     walk_at "rd"
     refine ⟨⟨by decide,by decide,by decide⟩,?_⟩
     walk_at "rd"
     refine ⟨(by show 0<q;omega),?_⟩
     walk_at "rd"
     refine ⟨⟨by decide,by decide,hpw _⟩,?_⟩
     walk_at "rd"
     refine ⟨(by show 0<q;omega),?_⟩
     walk_at "rd"
     refine ⟨(Nat.le_trans (Nat.le_of_ble_eq_true rfl) AT),?_⟩
     exact fin _ _ _ (Same.upd npr) (by decide)
abbrev CG:Stmt:=top 26
abbrev xl2:List Str:=["_law_bag_here","_law_many"]
theorem FX:FnScope ["_law_bag_here","_law_many","_law_found"] xl2 (J4 CG):=⟨rfl,rfl,rfl,by decide +kernel,rfl,by decide +kernel,by decide +kernel⟩
noncomputable def QE:Sp:=fun vs H Q _=>∃ (p:Addr) (many:Int) (n:Nat),vs=[.ref p,.int many]/\BagP H p/\0<many/\Bd n many/\n<=9000/\Q6d p many H Q
theorem JV {w:World} {f:Addr} (F:Fun K "_law_digit" "_law_digit" CG f fd) (Z:Bi mg) {c:Cs} (Y:Ex K mg base c):FnOk P w K mg base CX0 1 f fd xl2 QE:=by
 refine F.ok FX (fun vs H Q E h=>?_) (fun cdv A outer s H vs Q E hr h=>?_)
 · obtain ⟨p,many,n,rfl,⟨fg,m,q,hp,hf,hm,hm2,q0,q1⟩,h0,hb,hn,k⟩:=h
   rfl
 · obtain ⟨p,many,n,rfl,⟨fg,m,q,hp,hf,hm,hm2,q0,q1⟩,h0,hb,hn,k⟩:=h
   refine ⟨_,(AA (UZ (GU J7i (GV (BW K (by rfl)) (pv 0) Y5 (fun _ _=>rfl)) Y5 (Z5 _)) (AA (BX (i:=2) FX.nd rfl (by walk_at "o") (BU EE (GV (BW K (by rfl)) (pv 0) Y5 (fun _ _=>rfl)) (pv 1)))
    (AA (NV (BU JM (GV (BW K (by rfl)) (pv 0) Y5 (fun _ _=>rfl)) (pv 1)) (SZ (pv 0) Y5 QK))
    (CH (EW (pv 2))))) IR)
    (AA (NV (BU EE (BU CP (BU AG (GV (BW K (by rfl)) (pv 0) Y5 (fun _ _=>rfl)) Y5) Y5) (GV (BW K (by rfl)) (pv 0) Y5 (fun _ _=>rfl))) (SZ (pv 0) Y5 QK))
    (CH (EW (BU EE (BU JM (BU EE (BU TM (GV (BW K (by rfl)) (pv 0) Y5 (fun _ _=>rfl)) Y5) Y5) Y5) (pv 1)))))),?_⟩
   have md:∀ x:Int,0<=x % many/\x % many<many:=fun x=>⟨Int.emod_nonneg _ (by omega),Int.emod_lt_of_pos _ h0⟩
   walk_at "rd"
   refine ⟨_,_,_,_,rfl,rfl,SqL.of hp,rfl,?_⟩
   walk_at "rd"
   refine J5w (fun h=>?_) (fun h=>?_)
   · have h:0<fg:=J2i h
     walk_at "rd"
     refine ⟨_,_,_,_,rfl,rfl,SqL.of hp,rfl,?_⟩
     walk_at "rd"
     refine ⟨h0,?_⟩
     walk_at "rd"
     refine ⟨_,_,_,_,rfl,rfl,SqL.of hp,rfl,?_⟩
     walk_at "rd"
     refine ⟨⟨h0,n,hb,hn⟩,?_⟩
     walk_at "rd"
     refine ⟨_,_,_,0,rfl,rfl,hp,rfl,?_⟩
     walk_at "rd"
     exact k _ _ (md fg).1 (md fg).2 ⟨_,_,_,Q6,Int.ediv_nonneg hf (by omega),hm,hm2,q0,q1⟩ Keep.upd
   · have bm:Bd 32 m:=Bd.of (by omega) (by omega)
     walk_at "rd"
     refine ⟨_,_,_,_,rfl,rfl,SqL.of hp,rfl,?_⟩
     walk_at "rd"
     refine ⟨_,_,_,_,rfl,rfl,SqL.of hp,rfl,?_⟩
     walk_at "rd"
     refine ⟨(by show 0<q;omega),?_⟩
     walk_at "rd"
     refine ⟨_,_,_,1,rfl,rfl,hp,rfl,?_⟩
     have h1:=Int.emod_nonneg (m*48271+7919) (show q≠0 by omega)
     have h2:=Int.emod_lt_of_pos (m*48271+7919) (show 0<q by omega)
     walk_at "rd"
     refine ⟨_,_,_,_,rfl,rfl,SqL.of Q6,rfl,?_⟩
     walk_at "rd"
     refine ⟨⟨by decide,by decide,(by show ((m*48271+7919) % q).natAbs<2 ^ 64;omega)⟩,?_⟩
     walk_at "rd"
     refine ⟨(by show (0:Int)<2147483647;decide),?_⟩
     walk_at "rd"
     refine ⟨⟨by decide,64,Bd.num _ (by decide),by decide⟩,?_⟩
     walk_at "rd"
     refine ⟨h0,?_⟩
     exact k _ _ (md _).1 (md _).2 ⟨_,_,_,Q6,hf,h1,by omega,q0,q1⟩ Keep.upd
def BT:BagT:=⟨fun p H=>BagP H p,fun p H H' b k=>by
 obtain ⟨f,m,q,e,r⟩:=b
 exact ⟨f,m,q,k _ e,r⟩,fun p H b=>by
 obtain ⟨f,m,q,e,r⟩:=b
 exact ⟨_,e⟩⟩
theorem J5q {p:Addr}{H H':Hp}(k:Keep p H H'):Kp (some p) H H':=fun c o n e=>k c o (fun z=>n (by rw [z])) e
def NW:List D->Prop:=fun ds=>∃ (ns:List Int) (i:Nat),ds=[.scr ns,.int i]/\i<=1000
theorem PZ:∀ vs H Q E,(SI K BT NW) vs H Q E->(ZG K) vs H Q E:=by
 rintro vs H Q E ⟨M,b,ds,hr,⟨ns,i,rfl,hi⟩,k⟩
 obtain ⟨v,r,rfl,⟨a,rfl,hS⟩,u,r',rfl,h2,h3⟩:=hr
 cases (show _=_ from h2)
 cases (show _=_ from h3)
 exact ⟨a,ns,i,rfl,hS.imp (·.2) id,hi,k⟩
theorem QY {w:World} {f:Addr} (F:Fun K "_law_bag" "_law_bag" BJ f fd) (Z:Bi mg) {c:Cs} (Y:Ex K mg base c):FnOk P w K mg base CX0 1 f fd xl1 (SI K BT NW):=FnOk.imp (OE F Z Y) PZ
noncomputable def DC:DSp:=fun ds P _=>∃ (many:Int) (n:Nat),ds=[.bag,.int many]/\0<many/\Bd n many/\n<=9000/\∀ r,0<=r->r<many->P (.int r)
theorem LD:∀ vs H Q E,(Q4 K BT DC) vs H Q E->QE vs H Q E:=by
 rintro vs H Q E ⟨M,b,ds,P,Ed,⟨many,n,rfl,h0,hbd,hn,hP⟩,⟨v,r,rfl,⟨p,rfl,rfl⟩,u,r',rfl,h2,h3⟩,ho,hb,hd,hq,hx⟩
 cases (show _=_ from h2)
 cases (show _=_ from h3)
 exact ⟨p,many,n,rfl,ho p rfl,h0,hbd,hn,fun r H' r0 r1 b' k=>hq _ _ H' (hP r r0 r1) rfl (J5q k) fun q e=>by cases e;exact b'⟩
theorem LM {w:World} {f:Addr} (F:Fun K "_law_digit" "_law_digit" CG f fd) (Z:Bi mg) {c:Cs} (Y:Ex K mg base c):FnOk P w K mg base CX0 1 f fd xl2 (Q4 K BT DC):=FnOk.imp (JV F Z Y) LD
noncomputable def J3m:DSp:=fun ds P _=>∃ a b:Int,ds=[.int a,.int b]/\P (.int (Int.gcd a b))
abbrev AR:Stmt:=top 4
abbrev xl3:List Str:=["one","other"]
theorem CY:FnScope xl3 xl3 (J4 AR):=⟨rfl,rfl,rfl,by decide +kernel,rfl,by decide +kernel,by decide +kernel⟩
noncomputable def CW:Sp:=fun vs H Q _=>∃ a b:Int,vs=[.int a,.int b]/\Q (.int (Int.gcd a b)) H
theorem GK {w:World} {f:Addr} (F:Fun K "common_divisor" "common_divisor" AR f fd) (Z:Bi mg) {c:Cs} (Y:Ex K mg base c):FnOk P w K mg base CX0 1 f fd xl3 CW:=by
 refine F.ok CY (fun vs H Q E h=>?_) (fun cdv A outer s H vs Q E hr h=>?_)
 · obtain ⟨a,b,rfl,k⟩:=h
   rfl
 · obtain ⟨a,b,rfl,k⟩:=h
   refine ⟨_,(AA (ZV PassesOwn.never (GU J7g (pv 1) Y5 (Z5 _)) (CH (J8z (i:=0) (j:=1) rfl CY.nd rfl rfl (by decide) rfl rfl (AF (pv 1) (AF (BU J5b (pv 0) (pv 1)) DI)) rfl)))
    (CH (EW (DR J2x rfl Z.abs_ Q1r (AF (pv 0) DI))))),?_⟩
   have ab:∀ x:Int,(if x<0 then -x else x)=(x.natAbs:Int):=fun x=>by split<;>omega
   refine YX (fun σ H'=>H'=H/\∃ x y:Int,σ=[some (.int x),some (.int y)]/\Int.gcd x y=Int.gcd a b) (fun σ _=>match σ with | [_,some (.int y)]=>y.natAbs|_=>0) ⟨rfl,_,_,rfl,rfl⟩ ?_ ?_
   · rintro σ H' ⟨rfl,x,y,rfl,hg⟩
     walk_at "rd"
     refine J5w (fun h=>?_) (fun h=>?_)
     · have h:y≠0:=J5h h
       walk_at "rd"
       refine ⟨h,?_⟩
       refine ⟨_,_,rfl,⟨rfl,_,_,rfl,by rw [J1z];exact hg⟩,?_⟩
       show (x.fmod y).natAbs<y.natAbs
       exact Q4a h
     · have h:y=0:=J5i h
       walk_at "rd"
       subst h
       have e:((Int.gcd a b:Nat):Int)=(if x<0 then -x else x):=by rw [<- hg,Int.gcd_zero_right,ab]
       rw [e] at k
       exact k
   · rintro σ H' Q1 Q2 hq ⟨v,e1,e2,k',e4,q⟩
     exact ⟨v,e1,e2,k',e4,hq _ _ q⟩
theorem GO:∀ vs H Q E,(Q4 K BT J3m) vs H Q E->CW vs H Q E:=by
 rintro vs H Q E ⟨M,b,ds,P,Ed,⟨x,y,rfl,hP⟩,⟨v,r,rfl,h1,u,r',rfl,h2,h3⟩,ho,hb,hd,hq,hx⟩
 cases (show _=_ from h1)
 cases (show _=_ from h2)
 cases (show _=_ from h3)
 exact ⟨x,y,rfl,hq _ _ H hP rfl (Kp.refl _ _) ho⟩
theorem GX {w:World} {f:Addr} (F:Fun K "common_divisor" "common_divisor" AR f fd) (Z:Bi mg) {c:Cs} (Y:Ex K mg base c):FnOk P w K mg base CX0 1 f fd xl3 (Q4 K BT J3m):=FnOk.imp (GK F Z Y) GO
abbrev DG:Stmt:=top 7
theorem JG:FnScope ["a","b","c"] ["a","b","c"] (J4 DG):=⟨rfl,rfl,rfl,by decide +kernel,rfl,by decide +kernel,by decide +kernel⟩
def det (a0 a1 a2 b0 b1 b2 c0 c1 c2:Int):Int:=a0*(b1*c2 - b2*c1) - a1*(b0*c2 - b2*c0)+a2*(b0*c1 - b1*c0)
noncomputable def J7w:DSp:=fun ds P _=>∃ (a0 a1 a2 b0 b1 b2 c0 c1 c2:Int),ds=[t3 a0 a1 a2,t3 b0 b1 b2,t3 c0 c1 c2]/\(Bd 2000 a0/\Bd 2000 a1/\Bd 2000 a2)/\(Bd 2000 b0/\Bd 2000 b1/\Bd 2000 b2)/\(Bd 2000 c0/\Bd 2000 c1/\Bd 2000 c2)/\P (.int (det a0 a1 a2 b0 b1 b2 c0 c1 c2))
theorem JP {w:World} {f:Addr} (F:Fun K "determinant" "determinant" DG f fd) (Z:Bi mg) {c:Cs} (Y:Ex K mg base c):FnOk P w K mg base CX0 1 f fd ["a","b","c"] (Q4 K BT J7w):=by
 refine F.okD JG (fun ds PP Ed h=>?_) (fun cdv A outer s H E M bg ds PP Ed hr hS_=>?_)
 · obtain ⟨a0,a1,a2,b0,b1,b2,c0,c1,c2,rfl,⟨p0,p1,p2⟩,⟨q0,q1,q2⟩,⟨r0,r1,r2⟩,hP⟩:=h
   rfl
 · obtain ⟨a0,a1,a2,b0,b1,b2,c0,c1,c2,rfl,⟨p0,p1,p2⟩,⟨q0,q1,q2⟩,⟨r0,r1,r2⟩,hP⟩:=hS_
   refine ⟨_,(J9 (V4 (V0 CP BV (V0 EX BV (V0 AG EY (Q8 (Q9 K (by rfl)) V8 (jdv 0) J1 (fun _ _=>rfl)) (V0 EX BV (V0 AG EY (Q8 (Q9 K (by rfl)) V8 (jdv 1) J1 (fun _ _=>rfl)) (Q8 (Q9 K (by rfl)) V8 (jdv 2) J1 (fun _ _=>rfl))) (V0 AG EY (Q8 (Q9 K (by rfl)) V8 (jdv 1) J1 (fun _ _=>rfl)) (Q8 (Q9 K (by rfl)) V8 (jdv 2) J1 (fun _ _=>rfl))))) (V0 AG EY (Q8 (Q9 K (by rfl)) V8 (jdv 0) J1 (fun _ _=>rfl)) (V0 EX BV (V0 AG EY (Q8 (Q9 K (by rfl)) V8 (jdv 1) J1 (fun _ _=>rfl)) (Q8 (Q9 K (by rfl)) V8 (jdv 2) J1 (fun _ _=>rfl))) (V0 AG EY (Q8 (Q9 K (by rfl)) V8 (jdv 1) J1 (fun _ _=>rfl)) (Q8 (Q9 K (by rfl)) V8 (jdv 2) J1 (fun _ _=>rfl)))))) (V0 AG EY (Q8 (Q9 K (by rfl)) V8 (jdv 0) J1 (fun _ _=>rfl)) (V0 EX BV (V0 AG EY (Q8 (Q9 K (by rfl)) V8 (jdv 1) J1 (fun _ _=>rfl)) (Q8 (Q9 K (by rfl)) V8 (jdv 2) J1 (fun _ _=>rfl))) (V0 AG EY (Q8 (Q9 K (by rfl)) V8 (jdv 1) J1 (fun _ _=>rfl)) (Q8 (Q9 K (by rfl)) V8 (jdv 2) J1 (fun _ _=>rfl)))))))),?_⟩
   walk_at "g"
   exact hP
abbrev GG:Stmt:=top 16
theorem QN:FnScope ["a"] ["a"] (J4 GG):=⟨rfl,rfl,rfl,by decide +kernel,rfl,by decide +kernel,by decide +kernel⟩
noncomputable def LA:DSp:=fun ds P _=>∃ (x y z w:Int),ds=[sp4 x y z w]/\P (t3 x y w)
theorem QX {w:World} {f:Addr} (F:Fun K "on_board" "on_board" GG f fd) (Z:Bi mg) {c:Cs} (Y:Ex K mg base c):FnOk P w K mg base CX0 1 f fd ["a"] (Q4 K BT LA):=by
 refine F.okD QN (fun ds PP Ed h=>?_) (fun cdv A outer s H E M bg ds PP Ed hr hS_=>?_)
 · obtain ⟨x,y,z,w,rfl,hP⟩:=h
   rfl
 · obtain ⟨x,y,z,w,rfl,hP⟩:=hS_
   refine ⟨_,(J9 (V4 (J7 (J0 (Q8 (Q9 K (by rfl)) V8 (jdv 0) J1 (fun _ _=>rfl)) (J0 (Q8 (Q9 K (by rfl)) V8 (jdv 0) J1 (fun _ _=>rfl)) (J0 (Q8 (Q9 K (by rfl)) V8 (jdv 0) J1 (fun _ _=>rfl)) J3)))))),?_⟩
   walk_at "g"
   exact hP
abbrev BF:Stmt:=top 5
theorem Z9:FnScope ["numbers","shared","number"] ["numbers"] (J4 BF):=⟨rfl,rfl,rfl,by decide +kernel,rfl,by decide +kernel,by decide +kernel⟩
def fdD (s:Int):D->D
 | .int x=>.int (x.fdiv s)
 | d=>d
noncomputable def J7u:DSp:=fun ds P _=>∃ (ns:List Int) (last:Int) (n:Nat),ds=[.tup (ns.map D.int++[.int last])]/\last≠0/\Bd n last/\n<=9000/\ns.length<=10/\P (.tup ((ns.map fun x=>.int (x.fdiv (low ns last)))++[.int (last.fdiv (low ns last))]))
abbrev xc2 (P:Program) (w:World) (K:Fg) (mg:Str → Option Value) (base:Heap) (f:Addr) (cdv:Value) (A:Around) (outer:List Env) (s:Shared) (H:Hp) (E:XK):Cx:=Z8 CX0 P w K mg base ["numbers","shared","number"] "lowest_terms" (J4 BF) f cdv A outer s H E
theorem II {w:World} {f:Addr} (F:Fun K "lowest_terms" "lowest_terms" BF f fd) (Z:Bi mg) {c:Cs} (Y:Ex K mg base c) (zg0:Callee P w K mg base CX0 "common_divisor" 1 xl3 (Q4 K BT J3m)):FnOk P w K mg base CX0 2 f fd ["numbers"] (Q4 K BT J7u):=by
 refine F.okD Z9 (fun ds PP Ed h=>?_) (fun cdv A outer s H E M bg ds PP Ed hr hS_=>?_)
 · obtain ⟨ns,last,n,rfl,h0,hbd,hn,hl,hP⟩:=h
   rfl
 · obtain ⟨ns,last,n,rfl,h0,hbd,hn,hl,hP⟩:=hS_
   refine ⟨_,(J5 (V5 (i:=1) Z9.nd rfl (by walk_at "o") J1)
    (J5 (CK (V1 2) PassesOwn.never rfl (Z3 (by rfl) (jdv 0)) (pg_name (i:=2) Z9.nd rfl (by walk_at "o")) (J9 (V5 (i:=1) Z9.nd rfl (by walk_at "o") (Q5 zg0 hr.m rfl (J0 (jdv 1) (J0 (jdv 2) J3))))))
    (J5 (BM (Z1 J7h J0o (Q8 (Q9 K (by rfl)) V8 (jdv 0) (FR J1) (fun _ _=>rfl)) J1 (Z5 _)) (J9 (V5 (i:=1) Z9.nd rfl (by walk_at "o") (FR (jdv 1)))) AB)
    (J9 (V4 (AM (Z6 K (by rfl)) DV rfl Z.tuple_ DX (J0 (AC (X:=(xc2 P w K mg base f cdv A outer s H E).nox) (V1 0) (EO (X:=(xc2 P w K mg base f cdv A outer s H E).nox) (N':=["number","shared"]) (map:=[none,some 1]) (by rfl) (by rfl) (by decide +kernel) (by rfl) ⟨⟨rfl,rfl,rfl,by walk_at "o"⟩,True.intro⟩ (gkeep_name rfl) fun cl0 C0 fp0 s0 H0=>⟨(pg_name (X:=(J6 (xc2 P w K mg base f cdv A outer s H E).nox ["number","shared"] _ cl0 C0 fp0 s0 H0)) (i:=0) (V9 ["number","shared"] (by decide +kernel)) rfl (by walk_at "o")),Y7,(V0 (X:=(J6 (xc2 P w K mg base f cdv A outer s H E).nox ["number","shared"] _ cl0 C0 fp0 s0 H0)) J0i EY (jdv 0) (jdv 1))⟩) (Z3 (by rfl) (jdv 0))) J3))))))),?_⟩
   have getL:∀ (i:Nat) x,(ns.map D.int++[.int last])[i]?=some x->∃ m,x=.int m/\(ns++[last])[i]?=some m:=fun i x e=>by
    have e':(ns.map D.int++[.int last])=(ns++[last]).map D.int:=by simp
    rw [e',List.getElem?_map] at e
    cases q:(ns++[last])[i]? with
    | none=>rw [q] at e;cases e
    | some m=>rw [q] at e;exact ⟨m,(Option.some.inj e).symm,rfl⟩
   walk_at "g"
   refine ⟨fun i ρ=>∃ v,ρ=[some (.tup (ns.map D.int++[.int last])),some (.int (IK ((ns++[last]).take i))),v],⟨none,rfl⟩,fun i x ρ e ⟨v,q⟩=>?_,fun ρ ⟨v,q⟩=>?_⟩
   · obtain ⟨m,rfl,em⟩:=getL i x e
     subst q
     walk_at "g"
     refine ⟨_,_,rfl,?_⟩
     walk_at "g"
     refine ⟨some (.int m),?_⟩
     rw [List.take_add_one,em,Option.toList_some,MU]
     rfl
   · subst q
     have et:(ns++[last]).take (ns.map D.int++[D.int last]).length=ns++[last]:=List.take_of_length_le (by simp)
     rw [et]
     have hg:=FT (ns:=ns) h0
     have hlow:∀ s:Int,s=low ns last->compI (gdN 0) MZ (dOp (oI (fun _ j=>j≠0/\∃ n,Bd n j/\n<=9000) Int.fdiv) (YH 0) (YH 1)) [none,some (.int s)] (ns.map D.int++[.int last]) (fun acc=>PP (.tup acc)):=fun s es=>by
      refine SB (fdD s) (fun x Q hx q=>?_) (fun x hx=>?_) ?_
      · obtain ⟨i,ei⟩:=List.getElem?_of_mem hx
        obtain ⟨m,rfl,_⟩:=getL i x ei
        walk_at "w"
        refine ⟨⟨by rw [es];exact J0x h0,n,?_,hn⟩,q⟩
        rw [es]
        exact Nat.lt_of_le_of_lt (J9s h0) hbd
      · obtain ⟨i,ei⟩:=List.getElem?_of_mem hx
        obtain ⟨m,rfl,_⟩:=getL i x ei
        rfl
      · rw [List.map_append,List.map_map,es]
        exact hP
     have hlen:(ns.map D.int++[D.int last]).length<=1000:=by simp;omega
     simp only [SJ,YQ,Q1f,J2r,Q1h,Q1j,YI,gdN,dOp,YH,dC,dUn,J9n,J2n,Q1v,J3j,NA,dCB,J6p,J2s,Q0e,oI,oB0,oIx,J0p,DW,List.map_cons,List.map_nil,AJ,List.length_cons,List.length_nil,List.replicate,List.cons_append,List.nil_append,Nat.reduceAdd,Nat.reduceSub,Nat.zero_add,List.append_nil,Option.bind_some,Option.bind_none,Option.join_some,Option.join_none,List.getElem?_cons_succ,List.getElem?_cons_zero,List.set_cons_succ,List.set_cons_zero,List.all_cons,List.all_nil,OG,L2.plain,Bool.and_true,Bool.true_and,true_and,J6y,Option.elim_some]
     walk_at "sp"
     · rename_i hlt
       refine ⟨hlen,hlow _ ?_⟩
       unfold low;rw [if_pos hlt]
     · rename_i hlt
       refine ⟨hlen,hlow _ ?_⟩
       unfold low;rw [if_neg hlt]
structure T3 where
 ax:Int
 ay:Int
 az:Int
 aw:Int
 bx:Int
 b_y:Int
 bz:Int
 bw:Int
 cx:Int
 cy:Int
 cz:Int
 cw:Int
structure T3.ok (t:T3)(n:Nat):Prop where
 ax:Bd n t.ax
 ay:Bd n t.ay
 az:Bd n t.az
 aw:Bd n t.aw
 bx:Bd n t.bx
 b_y:Bd n t.b_y
 bz:Bd n t.bz
 bw:Bd n t.bw
 cx:Bd n t.cx
 cy:Bd n t.cy
 cz:Bd n t.cz
 cw:Bd n t.cw
abbrev T3.d (t:T3):D:=.tup [sp4 t.ax t.ay t.az t.aw,sp4 t.bx t.b_y t.bz t.bw,sp4 t.cx t.cy t.cz t.cw]
def T3.tn (t:T3):Int:=det t.ax t.ay t.aw t.bx t.b_y t.bw t.cx t.cy t.cw
def T3.wA (t:T3)(px py:Int):Int:=det t.bx t.b_y t.bw t.cx t.cy t.cw px py 1
def T3.wB (t:T3)(px py:Int):Int:=det t.cx t.cy t.cw t.ax t.ay t.aw px py 1
def T3.wC (t:T3)(px py:Int):Int:=det t.ax t.ay t.aw t.bx t.b_y t.bw px py 1
def T3.top (t:T3)(px py:Int):Int:=t.wA px py*t.az+t.wB px py*t.bz+t.wC px py*t.cz
abbrev ST:Stmt:=top 18
theorem DZ:FnScope ["face","a","b","c"] ["face"] (J4 ST):=⟨rfl,rfl,rfl,by decide +kernel,rfl,by decide +kernel,by decide +kernel⟩
noncomputable def UQ:DSp:=fun ds P _=>∃ (t:T3) (n:Nat),ds=[t.d]/\t.ok n/\n<=2000/\P (.int t.tn)
theorem J5e {w:World} {f:Addr} (F:Fun K "turn" "turn" ST f fd) (Z:Bi mg) {c:Cs} (Y:Ex K mg base c) (zg0:Callee P w K mg base CX0 "determinant" 1 ["a","b","c"] (Q4 K BT J7w)) (zg1:Callee P w K mg base CX0 "on_board" 1 ["a"] (Q4 K BT LA)):FnOk P w K mg base CX0 2 f fd ["face"] (Q4 K BT UQ):=by
 refine F.okD DZ (fun ds PP Ed h=>?_) (fun cdv A outer s H E M bg ds PP Ed hr hS_=>?_)
 · obtain ⟨t,n,rfl,ok,hn,hP⟩:=h
   rfl
 · obtain ⟨t,n,rfl,ok,hn,hP⟩:=hS_
   refine ⟨_,(J5 (FQ (EH [1,2,3]) (jdv 0) (PG.or (CI (n:=3) K (by rfl) (by rfl) (J8 (pg_name (i:=1) DZ.nd rfl (by walk_at "o")) (J8 (pg_name (i:=2) DZ.nd rfl (by walk_at "o")) (J8 (pg_name (i:=3) DZ.nd rfl (by walk_at "o")) Y9)))) (CJ (n:=3) K (by rfl) (by rfl) (J8 (pg_name (i:=1) DZ.nd rfl (by walk_at "o")) (J8 (pg_name (i:=2) DZ.nd rfl (by walk_at "o")) (J8 (pg_name (i:=3) DZ.nd rfl (by walk_at "o")) Y9))))))
    (J9 (V4 (Q5 zg0 hr.m rfl (J0 (Q5 zg1 hr.m rfl (J0 (jdv 1) J3)) (J0 (Q5 zg1 hr.m rfl (J0 (jdv 2) J3)) (J0 (Q5 zg1 hr.m rfl (J0 (jdv 3) J3)) J3))))))),?_⟩
   walk_at "g"
   refine ⟨_,_,_,_,rfl,?_⟩
   walk_at "g"
   refine ⟨_,_,_,_,rfl,?_⟩
   walk_at "g"
   refine ⟨_,_,_,_,rfl,?_⟩
   walk_at "g"
   exact ⟨_,_,_,_,_,_,_,_,_,rfl,⟨ok.ax.mono hn,ok.ay.mono hn,ok.aw.mono hn⟩,⟨ok.bx.mono hn,ok.b_y.mono hn,ok.bw.mono hn⟩,⟨ok.cx.mono hn,ok.cy.mono hn,ok.cw.mono hn⟩,hP⟩
structure R4 where
 x:Int
 y:Int
 z:Int
 w:Int
abbrev R4.d (r:R4):D:=sp4 r.x r.y r.z r.w
structure R4.ok (r:R4)(n:Nat):Prop where
 x:Bd n r.x
 y:Bd n r.y
 z:Bd n r.z
 w:Bd n r.w
theorem R4.ok.mono {r:R4}{m n:Nat}(h:r.ok m)(k:m<=n):r.ok n:=⟨h.x.mono k,h.y.mono k,h.z.mono k,h.w.mono k⟩
structure M4 where
 a:R4
 b:R4
 c:R4
 e:R4
abbrev M4.d (m:M4):D:=.tup [m.a.d,m.b.d,m.c.d,m.e.d]
structure M4.ok (m:M4)(n:Nat):Prop where
 a:m.a.ok n
 b:m.b.ok n
 c:m.c.ok n
 e:m.e.ok n
theorem M4.ok.mono {r:M4}{m n:Nat}(h:r.ok m)(k:m<=n):r.ok n:=⟨h.a.mono k,h.b.mono k,h.c.mono k,h.e.mono k⟩
def CA (r s:R4):Int:=r.x*s.x+r.y*s.y+r.z*s.z+r.w*s.w
theorem CM {r s:R4}{m n:Nat}(h:r.ok m)(k:s.ok n):Bd (m+n+3) (CA r s) :=
 (Bd.add (Bd.add (Bd.add (Bd.mul h.x k.x) (Bd.mul h.y k.y)) (Bd.mul h.z k.z)) (Bd.mul h.w k.w)).mono (by omega)
def app (m:M4)(s:R4):R4:=⟨CA m.a s,CA m.b s,CA m.c s,CA m.e s⟩
theorem J3g {m:M4}{s:R4}{i j:Nat}(h:m.ok i)(k:s.ok j):(app m s).ok (i+j+3):=⟨CM h.a k,CM h.b k,CM h.c k,CM h.e k⟩
structure Scal (r r':R4):Prop where
 x:r'.x*r.w=r.x*r'.w
 y:r'.y*r.w=r.y*r'.w
 z:r'.z*r.w=r.z*r'.w
 w:0<r'.w
abbrev AQ:Stmt:=top 6
theorem GT:FnScope xl3 xl3 (J4 AQ):=⟨rfl,rfl,rfl,by decide +kernel,rfl,by decide +kernel,by decide +kernel⟩
noncomputable def WL:DSp:=fun ds P _=>∃ (r s:R4) (n:Nat),ds=[r.d,s.d]/\r.ok n/\s.ok n/\n<=4000/\P (.int (CA r s))
abbrev xc3 (P:Program) (w:World) (K:Fg) (mg:Str → Option Value) (base:Heap) (f:Addr) (cdv:Value) (A:Around) (outer:List Env) (s:Shared) (H:Hp) (E:XK):Cx:=Z8 CX0 P w K mg base xl3 "products_added" (J4 AQ) f cdv A outer s H E
abbrev xl4:List Str:=["first","second"]
theorem GW {w:World} {f:Addr} (F:Fun K "products_added" "products_added" AQ f fd) (Z:Bi mg) {c:Cs} (Y:Ex K mg base c):FnOk P w K mg base CX0 1 f fd xl3 (Q4 K BT WL):=by
 refine F.okD GT (fun ds PP Ed h=>?_) (fun cdv A outer s H E M bg ds PP Ed hr hS_=>?_)
 · obtain ⟨r,t,n,rfl,⟨h1,h2,h3,h4⟩,⟨k1,k2,k3,k4⟩,hn,hP⟩:=h
   rfl
 · obtain ⟨r,t,n,rfl,⟨h1,h2,h3,h4⟩,⟨k1,k2,k3,k4⟩,hn,hP⟩:=hS_
   refine ⟨_,(J9 (V4 (Y0 (NE K (by rfl) (by rfl)) J2v rfl Z.sum_ J2y (J0 (AC (X:=(xc3 P w K mg base f cdv A outer s H E).nox) (EH [0,1]) (EO (X:=(xc3 P w K mg base f cdv A outer s H E).nox) (N':=xl4) (map:=[none,none]) (by rfl) (by rfl) (by decide +kernel) (by rfl) True.intro (gkeep_seq (js:=[0,1]) (by decide)) fun cl0 C0 fp0 s0 H0=>⟨(PG.or (CI (n:=2) K (by rfl) (by rfl) (J8 (pg_name (i:=0) (V9 xl4 (by decide +kernel)) rfl (by walk_at "o")) (J8 (pg_name (i:=1) (V9 xl4 (by decide +kernel)) rfl (by walk_at "o")) Y9))) (CJ (n:=2) K (by rfl) (by rfl) (J8 (pg_name (i:=0) (V9 xl4 (by decide +kernel)) rfl (by walk_at "o")) (J8 (pg_name (i:=1) (V9 xl4 (by decide +kernel)) rfl (by walk_at "o")) Y9)))),Y7,(V0 (X:=(J6 (xc3 P w K mg base f cdv A outer s H E).nox xl4 _ cl0 C0 fp0 s0 H0)) AG EY (jdv 0) (jdv 1))⟩) (VN (by rfl) true true rfl Z.zip_ (J0 (jdv 0) (J0 (jdv 1) J3)) (VA K (by rfl) true true rfl Z.zip_ (JA.h (J0 (jdv 0) (J0 (jdv 1) J3)))))) J3)))),?_⟩
   walk_at "g"
   walk_at "gc"
   have e:[r.x*t.x,r.y*t.y,r.z*t.z,r.w*t.w].sum=CA r t:=by unfold CA;simp only [List.sum_cons,List.sum_nil];omega
   rw [<- e] at hP
   exact hP
structure Prim (r:R4):Prop where
 w:0<r.w
 g:Nat.gcd (Int.gcd r.x r.y) (Int.gcd r.z r.w)=1
def TW (r:R4):R4:=⟨r.x.fdiv (low [r.x,r.y,r.z] r.w),r.y.fdiv (low [r.x,r.y,r.z] r.w),r.z.fdiv (low [r.x,r.y,r.z] r.w),r.w.fdiv (low [r.x,r.y,r.z] r.w)⟩
theorem J5m {r:R4}(h:0<r.w):Prim (TW r)/\Scal r (TW r)/\∀ n,r.ok n->(TW r).ok n:=by
 obtain ⟨a1,a2,a3,a4,e1,e2,e3,e4,p4,pg,⟨q1,q2,q3⟩,⟨l1,l2,l3,l4⟩⟩:=J0w (x:=r.x) (y:=r.y) (z:=r.z) (w:=r.w) (by omega)
 have:TW r=⟨a1,a2,a3,a4⟩:=by unfold TW;rw [e1,e2,e3,e4]
 rw [this]
 exact ⟨⟨p4,pg⟩,⟨q1,q2,q3,p4⟩,fun n ro=>⟨Nat.lt_of_le_of_lt l1 ro.x,Nat.lt_of_le_of_lt l2 ro.y,Nat.lt_of_le_of_lt l3 ro.z,Nat.lt_of_le_of_lt l4 ro.w⟩⟩
abbrev IM:Stmt:=top 20
theorem QO:FnScope ["move","spot","sums"] ["move","spot"] (J4 IM):=⟨rfl,rfl,rfl,by decide +kernel,rfl,by decide +kernel,by decide +kernel⟩
noncomputable def WM (c:Cs):DSp:=fun ds P Ed=>∃ (m:M4) (s:R4) (n:Nat),ds=[m.d,s.d]/\m.ok n/\s.ok n/\n<=2000/\((app m s).w<=0->Ed c.Behind)/\(0<(app m s).w->P (TW (app m s)).d)
abbrev xc4 (P:Program) (w:World) (K:Fg) (mg:Str → Option Value) (base:Heap) (f:Addr) (cdv:Value) (A:Around) (outer:List Env) (s:Shared) (H:Hp) (E:XK):Cx:=Z8 (CX1 P w base) P w K mg base ["move","spot","sums"] "moved" (J4 IM) f cdv A outer s H E
theorem J0k {w:World} {f:Addr} (F:Fun K "moved" "moved" IM f fd) (Z:Bi mg) {c:Cs} (Y:Ex K mg base c) (zg0:Callee P w K mg base CX0 "lowest_terms" 2 ["numbers"] (Q4 K BT J7u)) (zg1:Callee P w K mg base CX0 "products_added" 1 xl3 (Q4 K BT WL)):FnOk P w K mg base (CX1 P w base) 3 f fd ["move","spot"] (Q4 K BT (WM c)):=by
 refine F.okDX QO (fun ds PP Ed h=>?_) (fun cdv A outer s H E M bg ds PP Ed hr hE hS_=>?_)
 · obtain ⟨m,t,n,rfl,mo,so,hn,h0,h1⟩:=h
   rfl
 · obtain ⟨m,t,n,rfl,mo,so,hn,h0,h1⟩:=hS_
   refine ⟨_,(J5 (V5 (i:=2) QO.nd rfl (by walk_at "o") (AM (Z6 K (by rfl)) DV rfl Z.tuple_ DX (J0 (AC (X:=(xc4 P w K mg base f cdv A outer s H E)) (V1 0) (EO (X:=(xc4 P w K mg base f cdv A outer s H E)) (N':=["row","spot"]) (map:=[none,some 1]) (by rfl) (by rfl) (by decide +kernel) (by rfl) ⟨⟨rfl,rfl,rfl,by walk_at "o"⟩,True.intro⟩ (gkeep_name rfl) fun cl0 C0 fp0 s0 H0=>⟨(pg_name (X:=(J6 (xc4 P w K mg base f cdv A outer s H E) ["row","spot"] _ cl0 C0 fp0 s0 H0)) (i:=0) (V9 ["row","spot"] (by decide +kernel)) rfl (by walk_at "o")),Y7,(Q5 (X:=(J6 (xc4 P w K mg base f cdv A outer s H E) ["row","spot"] _ cl0 C0 fp0 s0 H0)) zg1 hr.m rfl (J0 (jdv 0) (J0 (jdv 1) J3)))⟩) (Z3 (by rfl) (jdv 0))) J3)))
    (J5 (BM (Z1 Q3i J0o (Q8 (Q9 K (by rfl)) V8 (jdv 2) J1 (fun _ _=>rfl)) J1 (Z5 _)) (J9 (XW hE (XC Y.o_Behind rfl))) AB)
    (J9 (V4 (Q5 zg0 hr.m rfl (J0 (jdv 2) J3)))))),?_⟩
   have ao:=J3g mo so
   walk_at "g"
   walk_at "gc"
   refine ⟨m.a,t,n,rfl,mo.a,so,by omega,?_⟩
   walk_at "g"
   refine ⟨m.b,t,n,rfl,mo.b,so,by omega,?_⟩
   walk_at "g"
   refine ⟨m.c,t,n,rfl,mo.c,so,by omega,?_⟩
   walk_at "g"
   refine ⟨m.e,t,n,rfl,mo.e,so,by omega,?_⟩
   walk_at "g"
   walk_at "sp"
   · rename_i h
     exact h0 h
   · rename_i h
     have hw:0<(app m t).w:=by have h':¬ CA m.e t<=0:=h;show 0<CA m.e t;omega
     walk_at "g"
     refine ⟨[CA m.a t,CA m.b t,CA m.c t],CA m.e t,n+n+3,rfl,?_,ao.w,by omega,Nat.le_of_ble_eq_true rfl,?_⟩
     · have h':0<CA m.e t:=hw
       omega
     · exact h1 hw
abbrev DH:Stmt:=top 27
theorem Z4:FnScope ["_law_bag_here","_law_most","_law_size","_law_number_here","_law_k"] ["_law_bag_here","_law_most"] (J4 DH):=⟨rfl,rfl,rfl,by decide +kernel,rfl,by decide +kernel,by decide +kernel⟩
noncomputable def J7t:DSp:=fun ds P _=>∃ most:Int,ds=[.bag,.int most]/\0<=most/\most<=12/\∀ r:Int,Bd 40 r->P (.int r)
theorem JQ {w:World} {f:Addr} (F:Fun K "_law_number" "_law_number" DH f fd) (Z:Bi mg) {c:Cs} (Y:Ex K mg base c) (zg0:Callee P w K mg base CX0 "_law_digit" 1 xl2 (Q4 K BT DC)):FnOk P w K mg base CX0 2 f fd ["_law_bag_here","_law_most"] (Q4 K BT J7t):=by
 refine F.okD Z4 (fun ds PP Ed h=>?_) (fun cdv A outer s H E M bg ds PP Ed hr hS_=>?_)
 · obtain ⟨most,rfl,m0,m1,hP⟩:=h
   rfl
 · obtain ⟨most,rfl,m0,m1,hP⟩:=hS_
   refine ⟨_,(J5 (V5 (i:=2) Z4.nd rfl (by walk_at "o") (Q8 (Q9 K (by rfl)) V8 (BQ (J0 J1 (J0 J1 (J0 (jdv 1) (J0 (jdv 1) J3))))) (Q5 zg0 hr.m rfl (J0 (jdv 0) (J0 J1 J3))) (fun _ _=>rfl)))
    (J5 (V5 (i:=3) Z4.nd rfl (by walk_at "o") J1)
    (J5 (CK (V1 4) PassesOwn.never rfl (Y8 rfl Z.range_ (J0 (Y0 (FV (by rfl)) ND rfl Z.max_ PD (J0 J1 (J0 (V0 JM EY (Y0 (NF (by rfl)) ND rfl Z.min_ J2z (J0 (jdv 2) (J0 (jdv 1) J3))) J1) J3))) J3)) (pg_name (i:=4) Z4.nd rfl (by walk_at "o")) (J9 (V5 (i:=3) Z4.nd rfl (by walk_at "o") (V0 CP BV (V0 AG EY (jdv 3) J1) (Q5 zg0 hr.m rfl (J0 (jdv 0) (J0 J1 J3)))))))
    (J5 (BM (Z1 FY DJ (jdv 2) J1 (Z5 _)) (J9 (V5 (i:=3) Z4.nd rfl (by walk_at "o") (V0 EE EY (jdv 3) J1))) AB)
    (J9 (V4 (V0 AG EY (jdv 3) (Q8 (Q9 K (by rfl)) V8 (BQ (J0 J1 (J0 (FR J1) J3))) (Q5 zg0 hr.m rfl (J0 (jdv 0) (J0 J1 J3))) (fun _ _=>rfl))))))))),?_⟩
   walk_at "g"
   refine ⟨_,64,rfl,by decide,Bd.num _ (by decide),by decide,fun way y0 y1=>?_⟩
   walk_at "g"
   refine ixm y0 (by exact y1) fun dz mz=>?_
   obtain ⟨sz,rfl,z0,z1⟩:∃ sz:Int,dz=.int sz/\0<=sz/\sz<=12:=by
    simp only [List.mem_cons,List.not_mem_nil,or_false] at mz
    rcases mz with e|e|e|e<;>first|exact ⟨_,e,by decide,by decide⟩|exact ⟨_,e,m0,m1⟩
   walk_at "g"
   refine And.intro ⟨by decide,64,Bd.num _ (by decide),by decide⟩ ?_
   walk_at "g"
   have n3:((fun i j=>if j>i then j else i) 1 (((fun i j=>if j<i then j else i) sz most) / 3):Int)<=4:=by dsimp only;split<;>split<;>omega
   have n0:1<=((fun i j=>if j>i then j else i) 1 (((fun i j=>if j<i then j else i) sz most) / 3):Int):=by dsimp only;split<;>split<;>omega
   refine And.intro ⟨by omega,by omega⟩ ?_
   generalize ((fun i j=>if j>i then j else i) 1 (((fun i j=>if j<i then j else i) sz most) / 3):Int)=top at n3 n0 ⊢
   refine ⟨fun i ρ=>∃ (v:Int) (w:Option D),ρ=[some .bag,some (.int most),some (.int sz),some (.int v),w]/\0<=v/\v<1000 ^ i,⟨0,none,rfl,by decide,by decide⟩,?_,?_⟩
   · rintro i x ρ e ⟨v,w',rfl,v0,v1⟩
     obtain ⟨rfl,hi⟩:=BK e
     have hi4:i<4:=by omega
     have hp:(1000:Int) ^ i<=1000000000:=by
      rcases (show i=0\/i=1\/i=2\/i=3 by omega) with h|h|h|h<;>subst h<;>decide
     have bv:Bd 32 v:=Bd.of (by omega) (by omega)
     walk_at "g"
     refine ⟨_,64,rfl,by decide,Bd.num _ (by decide),by decide,fun r r0 r1=>?_⟩
     walk_at "g"
     refine ⟨_,_,rfl,by omega,?_⟩
     rw [Int.pow_succ]
     omega
   · rintro ρ ⟨v,w',rfl,v0,v1⟩
     have hp:(1000:Int) ^ (BL 0 top.toNat).length<=1000000000000:=by
      rw [rangeD_len]
      rcases (show top.toNat=1\/top.toNat=2\/top.toNat=3\/top.toNat=4 by omega) with h|h|h|h<;>rw [h]<;>decide
     walk_at "g"
     walk_at "sp"
     · walk_at "g"
       refine ⟨_,64,rfl,by decide,Bd.num _ (by decide),by decide,fun k k0 k1=>?_⟩
       walk_at "g"
       have bu:Bd 40 (v % 5):=by
        have h1:=Int.emod_lt_of_pos v (show (0:Int)<5 by decide)
        have h2:=Int.emod_nonneg v (show (5:Int)≠0 by decide)
        exact Bd.of (by omega) (by omega)
       refine ixm k0 (by exact k1) fun d md=>?_
       simp only [List.mem_cons,List.not_mem_nil,or_false] at md
       rcases md with e|e
       · subst e
         walk_at "g"
         exact hP _ (by show Bd 40 ((v % 5)*1);rw [Int.mul_one];exact bu)
       · subst e
         walk_at "g"
         exact hP _ (by show Bd 40 ((v % 5)*(-1));rw [Int.mul_neg,Int.mul_one];exact bu.neg)
     · walk_at "g"
       refine ⟨_,64,rfl,by decide,Bd.num _ (by decide),by decide,fun k k0 k1=>?_⟩
       walk_at "g"
       have bu:Bd 40 v:=Bd.of (by omega) (by omega)
       refine ixm k0 (by exact k1) fun d md=>?_
       simp only [List.mem_cons,List.not_mem_nil,or_false] at md
       rcases md with e|e
       · subst e
         walk_at "g"
         exact hP _ (by show Bd 40 (v*1);rw [Int.mul_one];exact bu)
       · subst e
         walk_at "g"
         exact hP _ (by show Bd 40 (v*(-1));rw [Int.mul_neg,Int.mul_one];exact bu.neg)
theorem sb {r:R4}{m n:Nat}{a b c e:Int}(h:r.ok m)(ha:Bd n a)(hb:Bd n b)(hc:Bd n c)(he:Bd n e):Bd (m+n+3) [r.x*a,r.y*b,r.z*c,r.w*e].sum:=by
 have:=CM (s:=⟨a,b,c,e⟩) h ⟨ha,hb,hc,he⟩
 unfold CA at this
 simp only [List.sum_cons,List.sum_nil]
 have e':r.x*a+(r.y*b+(r.z*c+(r.w*e+0)))=r.x*a+r.y*b+r.z*c+r.w*e:=by omega
 rw [e']
 exact this
theorem b1 {n:Nat}(h:3<=n):Bd n 1:=(Bd.of (by decide) (by decide):Bd 3 1).mono h
theorem b0 {n:Nat}(h:3<=n):Bd n 0:=(Bd.of (by decide) (by decide):Bd 3 0).mono h
theorem bm {n:Nat}(h:3<=n):Bd n (-1):=(Bd.of (by decide) (by decide):Bd 3 (-1)).mono h
theorem b2 {n:Nat}(h:3<=n):Bd n 2:=(Bd.of (by decide) (by decide):Bd 3 2).mono h
def cx (b:M4):R4:=⟨b.a.x,b.b.x,b.c.x,b.e.x⟩
def cy (b:M4):R4:=⟨b.a.y,b.b.y,b.c.y,b.e.y⟩
def cz (b:M4):R4:=⟨b.a.z,b.b.z,b.c.z,b.e.z⟩
def cw (b:M4):R4:=⟨b.a.w,b.b.w,b.c.w,b.e.w⟩
def WY (r:R4)(b:M4):R4:=⟨CA r (cx b),CA r (cy b),CA r (cz b),CA r (cw b)⟩
def J0u (a b:M4):M4:=⟨WY a.a b,WY a.b b,WY a.c b,WY a.e b⟩
theorem J6s {b:M4}{n:Nat}(h:b.ok n):(cx b).ok n/\(cy b).ok n/\(cz b).ok n/\(cw b).ok n:=⟨⟨h.a.x,h.b.x,h.c.x,h.e.x⟩,⟨h.a.y,h.b.y,h.c.y,h.e.y⟩,⟨h.a.z,h.b.z,h.c.z,h.e.z⟩,⟨h.a.w,h.b.w,h.c.w,h.e.w⟩⟩
theorem IN {r:R4}{b:M4}{m n:Nat}(h:r.ok m)(k:b.ok n):(WY r b).ok (m+n+3):=by
 obtain ⟨c1,c2,c3,c4⟩:=J6s k
 exact ⟨CM h c1,CM h c2,CM h c3,CM h c4⟩
theorem J5j {a b:M4}{m n:Nat}(h:a.ok m)(k:b.ok n):(J0u a b).ok (m+n+3):=⟨IN h.a k,IN h.b k,IN h.c k,IN h.e k⟩
def idM:M4:=⟨⟨1,0,0,0⟩,⟨0,1,0,0⟩,⟨0,0,1,0⟩,⟨0,0,0,1⟩⟩
theorem Q0d:idM.ok 3:=⟨⟨b1 (by decide),b0 (by decide),b0 (by decide),b0 (by decide)⟩,⟨b0 (by decide),b1 (by decide),b0 (by decide),b0 (by decide)⟩,⟨b0 (by decide),b0 (by decide),b1 (by decide),b0 (by decide)⟩,⟨b0 (by decide),b0 (by decide),b0 (by decide),b1 (by decide)⟩⟩
theorem Q2t (r:R4)(a b c e:Int):[r.x*a,r.y*b,r.z*c,r.w*e].sum=CA r ⟨a,b,c,e⟩:=by
 unfold CA
 simp only [List.sum_cons,List.sum_nil]
 omega
abbrev CF:Stmt:=top 30
abbrev xl5:List Str:=["_law_one","_law_other"]
theorem LG:FnScope xl5 xl5 (J4 CF):=⟨rfl,rfl,rfl,by decide +kernel,rfl,by decide +kernel,by decide +kernel⟩
noncomputable def WJ:DSp:=fun ds P _=>∃ (a b:M4) (m n:Nat),ds=[a.d,b.d]/\a.ok m/\b.ok n/\m+n<=1000/\P (J0u a b).d
abbrev xc5 (P:Program) (w:World) (K:Fg) (mg:Str → Option Value) (base:Heap) (f:Addr) (cdv:Value) (A:Around) (outer:List Env) (s:Shared) (H:Hp) (E:XK):Cx:=Z8 CX0 P w K mg base xl5 "_law_times" (J4 CF) f cdv A outer s H E
abbrev xl6:List Str:=["_law_row","_law_other"]
abbrev xl7:List Str:=["_law_j","_law_row","_law_other"]
abbrev xl8:List Str:=["_law_k","_law_row","_law_other","_law_j"]
theorem LK {w:World} {f:Addr} (F:Fun K "_law_times" "_law_times" CF f fd) (Z:Bi mg) {c:Cs} (Y:Ex K mg base c):FnOk P w K mg base CX0 1 f fd xl5 (Q4 K BT WJ):=by
 refine F.okD LG (fun ds PP Ed h=>?_) (fun cdv A outer s H E M bg ds PP Ed hr hS_=>?_)
 · obtain ⟨a,b,m,n,rfl,ao,bo,hn,hP⟩:=h
   rfl
 · obtain ⟨a,b,m,n,rfl,ao,bo,hn,hP⟩:=hS_
   refine ⟨_,(J9 (V4 (AM (Z6 K (by rfl)) DV rfl Z.tuple_ DX (J0 (AC (X:=(xc5 P w K mg base f cdv A outer s H E).nox) (V1 0) (EO (X:=(xc5 P w K mg base f cdv A outer s H E).nox) (N':=xl6) (map:=[none,some 1]) (by rfl) (by rfl) (by decide +kernel) (by rfl) ⟨⟨rfl,rfl,rfl,by walk_at "o"⟩,True.intro⟩ (gkeep_name rfl) fun cl0 C0 fp0 s0 H0=>⟨(pg_name (X:=(J6 (xc5 P w K mg base f cdv A outer s H E).nox xl6 _ cl0 C0 fp0 s0 H0)) (i:=0) (V9 xl6 (by decide +kernel)) rfl (by walk_at "o")),Y7,(AM (X:=(J6 (xc5 P w K mg base f cdv A outer s H E).nox xl6 _ cl0 C0 fp0 s0 H0)) (Z6 K (by rfl)) DV rfl Z.tuple_ DX (J0 (AC (X:=(J6 (xc5 P w K mg base f cdv A outer s H E).nox xl6 _ cl0 C0 fp0 s0 H0)) (V1 0) (EO (X:=(J6 (xc5 P w K mg base f cdv A outer s H E).nox xl6 _ cl0 C0 fp0 s0 H0)) (N':=xl7) (map:=[none,some 0,some 1]) (by rfl) (by rfl) (by decide +kernel) (by rfl) ⟨⟨rfl,rfl,rfl,by walk_at "o"⟩,⟨⟨rfl,rfl,rfl,by walk_at "o"⟩,True.intro⟩⟩ (gkeep_name rfl) fun cl1 C1 fp1 s1 H1=>⟨(pg_name (X:=(J6 (J6 (xc5 P w K mg base f cdv A outer s H E).nox xl6 _ cl0 C0 fp0 s0 H0) xl7 _ cl1 C1 fp1 s1 H1)) (i:=0) (V9 xl7 (by decide +kernel)) rfl (by walk_at "o")),Y7,(Y0 (X:=(J6 (J6 (xc5 P w K mg base f cdv A outer s H E).nox xl6 _ cl0 C0 fp0 s0 H0) xl7 _ cl1 C1 fp1 s1 H1)) (NE K (by rfl) (by rfl)) J2v rfl Z.sum_ J2y (J0 (AC (X:=(J6 (J6 (xc5 P w K mg base f cdv A outer s H E).nox xl6 _ cl0 C0 fp0 s0 H0) xl7 _ cl1 C1 fp1 s1 H1)) (V1 0) (EO (X:=(J6 (J6 (xc5 P w K mg base f cdv A outer s H E).nox xl6 _ cl0 C0 fp0 s0 H0) xl7 _ cl1 C1 fp1 s1 H1)) (N':=xl8) (map:=[none,some 1,some 2,some 0]) (by rfl) (by rfl) (by decide +kernel) (by rfl) ⟨⟨rfl,rfl,rfl,by walk_at "o"⟩,⟨⟨rfl,rfl,rfl,by walk_at "o"⟩,⟨⟨rfl,rfl,rfl,by walk_at "o"⟩,True.intro⟩⟩⟩ (gkeep_name rfl) fun cl2 C2 fp2 s2 H2=>⟨(pg_name (X:=(J6 (J6 (J6 (xc5 P w K mg base f cdv A outer s H E).nox xl6 _ cl0 C0 fp0 s0 H0) xl7 _ cl1 C1 fp1 s1 H1) xl8 _ cl2 C2 fp2 s2 H2)) (i:=0) (V9 xl8 (by decide +kernel)) rfl (by walk_at "o")),Y7,(V0 (X:=(J6 (J6 (J6 (xc5 P w K mg base f cdv A outer s H E).nox xl6 _ cl0 C0 fp0 s0 H0) xl7 _ cl1 C1 fp1 s1 H1) xl8 _ cl2 C2 fp2 s2 H2)) AG EY (Q8 (Q9 K (by rfl)) V8 (jdv 1) (jdv 0) (fun _ _=>rfl)) (Q8 (Q9 K (by rfl)) V8 (Q8 (Q9 K (by rfl)) V8 (jdv 2) (jdv 0) (fun _ _=>rfl)) (jdv 3) (fun _ _=>rfl)))⟩) (Y8 rfl Z.range_ (J0 J1 J3))) J3))⟩) (Y8 rfl Z.range_ (J0 J1 J3))) J3))⟩) (Z3 (by rfl) (jdv 0))) J3)))),?_⟩
   obtain ⟨⟨p1,p2,p3,p4⟩,⟨p5,p6,p7,p8⟩,⟨p9,p10,p11,p12⟩,⟨p13,p14,p15,p16⟩⟩:=ao
   obtain ⟨⟨q1,q2,q3,q4⟩,⟨q5,q6,q7,q8⟩,⟨q9,q10,q11,q12⟩,⟨q13,q14,q15,q16⟩⟩:=bo
   walk_at "g"
   walk_at "gc"
   repeat (walk_at "gc")
   have e:J0u a b=⟨⟨_,_,_,_⟩,⟨_,_,_,_⟩,⟨_,_,_,_⟩,⟨_,_,_,_⟩⟩:=rfl
   simp only [Q2t]
   exact hP
abbrev e4:R4:=⟨0,0,0,1⟩
structure Aff (m:M4)(n:Nat):Prop where
 ok:m.ok n
 e:m.e=e4
theorem Aff.mul {a b:M4}{m n:Nat}(h:Aff a m)(k:Aff b n):Aff (J0u a b) (m+n+3):=⟨J5j h.ok k.ok,by
 have e1:=h.e
 have e2:=k.e
 unfold J0u
 simp only
 rw [e1]
 unfold WY
 simp [CA,cx,cy,cz,cw,e2]⟩
theorem Q1u:Aff idM 3:=⟨Q0d,rfl⟩
abbrev AD:Stmt:=top 31
abbrev xl9:List Str:=["_law_bag_here"]
theorem V2:FnScope ["_law_bag_here","_law_way","_law_a","_law_b","_law_c"] xl9 (J4 AD):=⟨rfl,rfl,rfl,by decide +kernel,rfl,by decide +kernel,by decide +kernel⟩
noncomputable def WK:DSp:=fun ds P _=>ds=[.bag]/\∀ m:M4,Aff m 41->P m.d
abbrev xc6 (P:Program) (w:World) (K:Fg) (mg:Str → Option Value) (base:Heap) (f:Addr) (cdv:Value) (A:Around) (outer:List Env) (s:Shared) (H:Hp) (E:XK):Cx:=Z8 CX0 P w K mg base ["_law_bag_here","_law_way","_law_a","_law_b","_law_c"] "_law_plain_move" (J4 AD) f cdv A outer s H E
abbrev IG:List Str:=["_law_k","_law_bag_here"]
theorem GH {w:World} {f:Addr} (F:Fun K "_law_plain_move" "_law_plain_move" AD f fd) (Z:Bi mg) {c:Cs} (Y:Ex K mg base c) (zg0:Callee P w K mg base CX0 "_law_digit" 1 xl2 (Q4 K BT DC)) (zg1:Callee P w K mg base CX0 "_law_number" 2 ["_law_bag_here","_law_most"] (Q4 K BT J7t)):FnOk P w K mg base CX0 3 f fd xl9 (Q4 K BT WK):=by
 refine F.okD V2 (fun ds PP Ed h=>?_) (fun cdv A outer s H E M bg ds PP Ed hr hS_=>?_)
 · obtain ⟨rfl,hP⟩:=h
   rfl
 · obtain ⟨rfl,hP⟩:=hS_
   refine ⟨_,(J5 (V5 (i:=1) V2.nd rfl (by walk_at "o") (Q5 zg0 hr.m rfl (J0 (jdv 0) (J0 J1 J3))))
    (J5 (FQ (EH [2,3,4]) (AC (X:=(xc6 P w K mg base f cdv A outer s H E).nox) (V1 0) (EO (X:=(xc6 P w K mg base f cdv A outer s H E).nox) (N':=IG) (map:=[none,some 0]) (by rfl) (by rfl) (by decide +kernel) (by rfl) ⟨⟨rfl,rfl,rfl,by walk_at "o"⟩,True.intro⟩ (gkeep_name rfl) fun cl0 C0 fp0 s0 H0=>⟨(pg_name (X:=(J6 (xc6 P w K mg base f cdv A outer s H E).nox IG _ cl0 C0 fp0 s0 H0)) (i:=0) (V9 IG (by decide +kernel)) rfl (by walk_at "o")),Y7,(Q5 (X:=(J6 (xc6 P w K mg base f cdv A outer s H E).nox IG _ cl0 C0 fp0 s0 H0)) zg1 hr.m rfl (J0 (jdv 1) (J0 J1 J3)))⟩) (Y8 rfl Z.range_ (J0 J1 J3))) (PG.or (CI (n:=3) K (by rfl) (by rfl) (J8 (pg_name (i:=2) V2.nd rfl (by walk_at "o")) (J8 (pg_name (i:=3) V2.nd rfl (by walk_at "o")) (J8 (pg_name (i:=4) V2.nd rfl (by walk_at "o")) Y9)))) (CJ (n:=3) K (by rfl) (by rfl) (J8 (pg_name (i:=2) V2.nd rfl (by walk_at "o")) (J8 (pg_name (i:=3) V2.nd rfl (by walk_at "o")) (J8 (pg_name (i:=4) V2.nd rfl (by walk_at "o")) Y9))))))
    (J5 (BM (Z1 FY DJ (jdv 1) J1 (Z5 _)) (J9 (V4 (J7 (J0 (J7 (J0 J1 (J0 J1 (J0 J1 (J0 (jdv 2) J3))))) (J0 (J7 (J0 J1 (J0 J1 (J0 J1 (J0 (jdv 3) J3))))) (J0 (J7 (J0 J1 (J0 J1 (J0 J1 (J0 (jdv 4) J3))))) (J0 (J7 (J0 J1 (J0 J1 (J0 J1 (J0 J1 J3))))) J3))))))) AB)
    (J5 (BM (Z1 FY DJ (jdv 1) J1 (Z5 _)) (J9 (V4 (Q8 (Q9 K (by rfl)) V8 (BQ (J0 (J7 (J0 (J7 (J0 J1 (J0 J1 (J0 J1 (J0 J1 J3))))) (J0 (J7 (J0 J1 (J0 J1 (J0 (FR J1) (J0 J1 J3))))) (J0 (J7 (J0 J1 (J0 J1 (J0 J1 (J0 J1 J3))))) (J0 (J7 (J0 J1 (J0 J1 (J0 J1 (J0 J1 J3))))) J3))))) (J0 (J7 (J0 (J7 (J0 J1 (J0 J1 (J0 J1 (J0 J1 J3))))) (J0 (J7 (J0 J1 (J0 J1 (J0 J1 (J0 J1 J3))))) (J0 (J7 (J0 (FR J1) (J0 J1 (J0 J1 (J0 J1 J3))))) (J0 (J7 (J0 J1 (J0 J1 (J0 J1 (J0 J1 J3))))) J3))))) (J0 (J7 (J0 (J7 (J0 J1 (J0 (FR J1) (J0 J1 (J0 J1 J3))))) (J0 (J7 (J0 J1 (J0 J1 (J0 J1 (J0 J1 J3))))) (J0 (J7 (J0 J1 (J0 J1 (J0 J1 (J0 J1 J3))))) (J0 (J7 (J0 J1 (J0 J1 (J0 J1 (J0 J1 J3))))) J3))))) J3)))) (Q5 zg0 hr.m rfl (J0 (jdv 0) (J0 J1 J3))) (fun _ _=>rfl)))) AB)
    (J5 (BM (Z1 FY DJ (jdv 1) J1 (Z5 _)) (J9 (V4 (Q8 (Q9 K (by rfl)) V8 (BQ (J0 (J7 (J0 (J7 (J0 J1 (J0 (jdv 2) (J0 J1 (J0 J1 J3))))) (J0 (J7 (J0 J1 (J0 J1 (J0 J1 (J0 J1 J3))))) (J0 (J7 (J0 J1 (J0 J1 (J0 J1 (J0 J1 J3))))) (J0 (J7 (J0 J1 (J0 J1 (J0 J1 (J0 J1 J3))))) J3))))) (J0 (J7 (J0 (J7 (J0 J1 (J0 J1 (J0 J1 (J0 J1 J3))))) (J0 (J7 (J0 J1 (J0 J1 (J0 (jdv 2) (J0 J1 J3))))) (J0 (J7 (J0 J1 (J0 J1 (J0 J1 (J0 J1 J3))))) (J0 (J7 (J0 J1 (J0 J1 (J0 J1 (J0 J1 J3))))) J3))))) (J0 (J7 (J0 (J7 (J0 J1 (J0 J1 (J0 J1 (J0 J1 J3))))) (J0 (J7 (J0 J1 (J0 J1 (J0 J1 (J0 J1 J3))))) (J0 (J7 (J0 (jdv 2) (J0 J1 (J0 J1 (J0 J1 J3))))) (J0 (J7 (J0 J1 (J0 J1 (J0 J1 (J0 J1 J3))))) J3))))) J3)))) (Q5 zg0 hr.m rfl (J0 (jdv 0) (J0 J1 J3))) (fun _ _=>rfl)))) AB)
    (J9 (V4 (J7 (J0 (J7 (J0 (V0 CP BV (jdv 2) (AM NG WB rfl Z.int_ J3a (J0 (OL FY DJ (jdv 2) J1 (Z5 _)) J3))) (J0 J1 (J0 J1 (J0 J1 J3))))) (J0 (J7 (J0 J1 (J0 (V0 CP BV (jdv 3) (AM NG WB rfl Z.int_ J3a (J0 (OL FY DJ (jdv 3) J1 (Z5 _)) J3))) (J0 J1 (J0 J1 J3))))) (J0 (J7 (J0 J1 (J0 J1 (J0 J1 (J0 J1 J3))))) (J0 (J7 (J0 J1 (J0 J1 (J0 J1 (J0 J1 J3))))) J3)))))))))))),?_⟩
   walk_at "g"
   refine ⟨_,64,rfl,by decide,Bd.num _ (by decide),by decide,fun way y0 y1=>?_⟩
   walk_at "g"
   walk_at "gc"
   refine ⟨3,rfl,by decide,by decide,fun a ha=>?_⟩
   walk_at "g"
   refine ⟨3,rfl,by decide,by decide,fun b hb=>?_⟩
   walk_at "g"
   refine ⟨3,rfl,by decide,by decide,fun c hc=>?_⟩
   have ha4:=ha
   have hb4:=hb
   have ha:=ha.mono (show 40<=41 by decide)
   have hb:=hb.mono (show 40<=41 by decide)
   have hc:=hc.mono (show 40<=41 by decide)
   have i0:Bd 41 0:=b0 (by decide)
   have i1:Bd 41 1:=b1 (by decide)
   have i2:Bd 41 2:=b2 (by decide)
   have im:Bd 41 (-1):=bm (by decide)
   walk_at "g"
   walk_at "sp"
   · walk_at "g"
     exact hP ⟨⟨_,_,_,_⟩,⟨_,_,_,_⟩,⟨_,_,_,_⟩,⟨_,_,_,_⟩⟩ ⟨⟨⟨i1,i0,i0,ha⟩,⟨i0,i1,i0,hb⟩,⟨i0,i0,i1,hc⟩,⟨i0,i0,i0,i1⟩⟩,rfl⟩
   · walk_at "g"
     walk_at "sp"
     · walk_at "g"
       refine ⟨_,64,rfl,by decide,Bd.num _ (by decide),by decide,fun k k0 k1=>?_⟩
       walk_at "g"
       refine ixm k0 (by exact k1) fun d md=>?_
       simp only [List.mem_cons,List.not_mem_nil,or_false] at md
       rcases md with e|e|e<;>subst e<;>refine hP ⟨⟨_,_,_,_⟩,⟨_,_,_,_⟩,⟨_,_,_,_⟩,⟨_,_,_,_⟩⟩ ⟨⟨?_,?_,?_,?_⟩,rfl⟩<;>constructor<;>assumption
     · walk_at "g"
       walk_at "sp"
       · walk_at "g"
         refine ⟨_,64,rfl,by decide,Bd.num _ (by decide),by decide,fun k k0 k1=>?_⟩
         walk_at "g"
         refine ixm k0 (by exact k1) fun d md=>?_
         simp only [List.mem_cons,List.not_mem_nil,or_false] at md
         rcases md with e|e|e<;>subst e<;>refine hP ⟨⟨_,_,_,_⟩,⟨_,_,_,_⟩,⟨_,_,_,_⟩,⟨_,_,_,_⟩⟩ ⟨⟨?_,?_,?_,?_⟩,rfl⟩<;>constructor<;>assumption
       · walk_at "g"
         have hk:∀ (v:Int) (q:Bool),Bd 40 v->Bd 41 (v+if q=true then 1 else 0):=fun v q hv=>by
          have:=hv.lt
          cases q
          · exact Bd.of (by simp;omega) (by simp;omega)
          · exact Bd.of (by simp;omega) (by simp;omega)
         exact hP ⟨⟨_,_,_,_⟩,⟨_,_,_,_⟩,⟨_,_,_,_⟩,⟨_,_,_,_⟩⟩ ⟨⟨⟨hk a _ ha4,i0,i0,i0⟩,⟨i0,hk b _ hb4,i0,i0⟩,⟨i0,i0,i2,i0⟩,⟨i0,i0,i0,i1⟩⟩,rfl⟩
abbrev CD:Stmt:=top 21
abbrev SL:List Str:=["body","move"]
theorem Z2:FnScope ["body","move","corners","faces","used","face","at","spots"] SL (J4 CD):=⟨rfl,rfl,rfl,by decide +kernel,rfl,by decide +kernel,by decide +kernel⟩
theorem DK {α:Type}{g:α->D}{l:List α}{i:Nat}{x:D}(h:(l.map g)[i]?=some x):∃ a,l[i]?=some a/\x=g a:=by
 rw [List.getElem?_map] at h
 obtain ⟨a,e,rfl⟩:=Option.map_eq_some_iff.mp h
 exact ⟨a,e,rfl⟩
theorem MO (g:Int->D):∀ (ks:List Int) (k:Int),k∈ks->JX ks (ks.map g) k=some (g k)
 | [],k,h=>by cases h
 | n::ks,k,h=>by
   rw [List.map_cons]
   unfold JX
   by_cases q:k=n
   · rw [if_pos q,q]
   · rw [if_neg q]
     exact MO g ks k ((List.mem_cons.mp h).resolve_left q)
structure R3 where
 x:Int
 y:Int
 z:Int
abbrev R3.d (r:R3):D:=t3 r.x r.y r.z
abbrev R3.s (r:R3):R4:=⟨r.x,r.y,r.z,1⟩
structure F3i where
 i:Nat
 j:Nat
 k:Nat
abbrev F3i.d (f:F3i):D:=t3 f.i f.j f.k
def F3i.has (f:F3i)(n:Nat):Prop:=n=f.i\/n=f.j\/n=f.k
def cor (cs:List R3)(n:Nat):R3:=cs.getD n ⟨0,0,0⟩
def spt (m:M4)(cs:List R3)(n:Nat):R4:=TW (app m (cor cs n).s)
abbrev UW (m:M4)(cs:List R3)(f:F3i):D:=.tup [(spt m cs f.i).d,(spt m cs f.j).d,(spt m cs f.k).d]
noncomputable def PJ (c:Cs):DSO:=fun ds P Ed=>∃ (cs:List R3) (fs:List F3i) (m:M4) (n:Nat),ds=[.tup [.lst (cs.map R3.d),.lst (fs.map F3i.d)],m.d]/\m.ok n/\(∀ r∈cs,r.s.ok n)/\n<=2000/\cs.length<=24/\fs.length<=100/\(∀ f∈fs,∀ q,f.has q->q<cs.length) /\
 ((∃ f∈fs,∃ q,f.has q/\(app m (cor cs q).s).w<=0)->Ed c.Behind)/\((∀ f∈fs,∀ q,f.has q->0<(app m (cor cs q).s).w)->P (fs.map (UW m cs)))
abbrev xc7 (P:Program) (w:World) (K:Fg) (mg:Str → Option Value) (base:Heap) (f:Addr) (cdv:Value) (A:Around) (outer:List Env) (s:Shared) (H:Hp) (E:XK):Cx:=Z8 (CX1 P w base) P w K mg base ["body","move","corners","faces","used","face","at","spots"] "faces_seen" (J4 CD) f cdv A outer s H E
abbrev PQ:List Str:=["face","spots"]
theorem LJ {w:World} {f:Addr} (F:Fun K "faces_seen" "faces_seen" CD f fd) (Z:Bi mg) {c:Cs} (Y:Ex K mg base c) (zg0:Callee P w K mg base (CX1 P w base) "moved" 3 ["move","spot"] (Q4 K BT (WM c))):FnOk P w K mg base (CX1 P w base) 4 f fd SL (Y6 K BT (PJ c)):=by
 refine F.okDXO Z2 (fun ds PP Ed h=>?_) (fun cdv A outer s H E M bg ds PP Ed hr hE hS_=>?_)
 · obtain ⟨cs,fs,m,n_,rfl,mo,co,hn,hc,hf,hi,h0,h1⟩:=h
   rfl
 · obtain ⟨cs,fs,m,n_,rfl,mo,co,hn,hc,hf,hi,h0,h1⟩:=hS_
   refine ⟨_,(J5 (FQ (EH [2,3]) (jdv 0) (PG.or (CI (n:=2) K (by rfl) (by rfl) (J8 (pg_name (i:=2) Z2.nd rfl (by walk_at "o")) (J8 (pg_name (i:=3) Z2.nd rfl (by walk_at "o")) Y9))) (CJ (n:=2) K (by rfl) (by rfl) (J8 (pg_name (i:=2) Z2.nd rfl (by walk_at "o")) (J8 (pg_name (i:=3) Z2.nd rfl (by walk_at "o")) Y9)))))
    (J5 (V5 (i:=4) Z2.nd rfl (by walk_at "o") (XY (X:=(xc7 P w K mg base f cdv A outer s H E)) (by rfl) rfl Z.sorted_ HX (V1 0) (V1 1) (Q4u (X:=(xc7 P w K mg base f cdv A outer s H E)) (N':=["face","at"]) (map:=[none,none]) (mp2:=[some 0,none]) (by rfl) (by rfl) (by decide +kernel) (by rfl) True.intro (gkeep_name rfl) (gkeep_name rfl) rfl rfl fun cl0 C0 fp0 s0 H0=>⟨(pg_name (X:=(J6 (xc7 P w K mg base f cdv A outer s H E) ["face","at"] _ cl0 C0 fp0 s0 H0).nox) (i:=0) (V9 ["face","at"] (by decide +kernel)) rfl (by walk_at "o")),(Z3 (X:=(J6 (xc7 P w K mg base f cdv A outer s H E) ["face","at"] _ cl0 C0 fp0 s0 H0).nox) (by rfl) (jdv 0)),(pg_name (X:=(J6 (xc7 P w K mg base f cdv A outer s H E) ["face","at"] _ cl0 C0 fp0 s0 H0).nox) (i:=1) (V9 ["face","at"] (by decide +kernel)) rfl (by walk_at "o")),Y7,(jdv (X:=(J6 (xc7 P w K mg base f cdv A outer s H E) ["face","at"] _ cl0 C0 fp0 s0 H0).nox) 1)⟩) (Z3 (by rfl) (jdv 3))))
    (J5 (TY (X:=(xc7 P w K mg base f cdv A outer s H E)) (i:=7) (P:=P) (w:=w) rfl rfl Z2.nd rfl (by walk_at "o") (by rfl) (V1 0) (J6w (by rfl) (Q4t (X:=(xc7 P w K mg base f cdv A outer s H E)) (N':=["at","move","corners"]) (map:=[none,some 1,some 2]) (by rfl) (by rfl) (by decide +kernel) (by rfl) ⟨⟨rfl,rfl,rfl,by walk_at "o"⟩,⟨⟨rfl,rfl,rfl,by walk_at "o"⟩,True.intro⟩⟩ (gkeep_name rfl) fun cl0 C0 fp0 s0 H0 hI=>⟨(pg_name (X:=(J6 (xc7 P w K mg base f cdv A outer s H E) ["at","move","corners"] _ cl0 C0 fp0 s0 H0)) (i:=0) (V9 ["at","move","corners"] (by decide +kernel)) rfl (by walk_at "o")),Y7,(J1n (X:=(J6 (xc7 P w K mg base f cdv A outer s H E) ["at","move","corners"] _ cl0 C0 fp0 s0 H0)) hE (YJ hI) zg0 hr.m rfl (J0 (jdv 1) (J0 (V0 (J0j K (by rfl)) J0n (Q8 (Q9 K (by rfl)) V8 (jdv 2) (jdv 0) (fun _ _=>rfl)) (J7 (J0 J1 J3))) J3)))⟩) (fun _ _ _ _ _=>jdv 0)) (Z3 (by rfl) (jdv 4)))
    (J9 (J1g (X:=(xc7 P w K mg base f cdv A outer s H E)) (V1 0) (EO (X:=(xc7 P w K mg base f cdv A outer s H E)) (N':=PQ) (map:=[none,some 7]) (by rfl) (by rfl) (by decide +kernel) (by rfl) ⟨⟨rfl,rfl,rfl,by walk_at "o"⟩,True.intro⟩ (gkeep_name rfl) fun cl0 C0 fp0 s0 H0=>⟨(pg_name (X:=(J6 (xc7 P w K mg base f cdv A outer s H E) PQ _ cl0 C0 fp0 s0 H0)) (i:=0) (V9 PQ (by decide +kernel)) rfl (by walk_at "o")),Y7,(AM (X:=(J6 (xc7 P w K mg base f cdv A outer s H E) PQ _ cl0 C0 fp0 s0 H0)) (Z6 K (by rfl)) DV rfl Z.tuple_ DX (J0 (AC (X:=(J6 (xc7 P w K mg base f cdv A outer s H E) PQ _ cl0 C0 fp0 s0 H0)) (V1 0) (EO (X:=(J6 (xc7 P w K mg base f cdv A outer s H E) PQ _ cl0 C0 fp0 s0 H0)) (N':=["at","spots"]) (map:=[none,some 1]) (by rfl) (by rfl) (by decide +kernel) (by rfl) ⟨⟨rfl,rfl,rfl,by walk_at "o"⟩,True.intro⟩ (gkeep_name rfl) fun cl1 C1 fp1 s1 H1=>⟨(pg_name (X:=(J6 (J6 (xc7 P w K mg base f cdv A outer s H E) PQ _ cl0 C0 fp0 s0 H0) ["at","spots"] _ cl1 C1 fp1 s1 H1)) (i:=0) (V9 ["at","spots"] (by decide +kernel)) rfl (by walk_at "o")),Y7,(Q8 (X:=(J6 (J6 (xc7 P w K mg base f cdv A outer s H E) PQ _ cl0 C0 fp0 s0 H0) ["at","spots"] _ cl1 C1 fp1 s1 H1)) (J9z (P:=P) (w:=w) (by rfl) (by rfl)) J9l (jdv 1) (jdv 0) (fun _ _=>rfl))⟩) (Z3 (by rfl) (jdv 0))) J3))⟩) (Z3 (by rfl) (jdv 3))))))),?_⟩
   walk_at "g"
   refine And.intro (by rw [List.length_map];omega) ?_
   refine ⟨fun i acc=>∃ ns:List Int,acc=ns.map D.int/\ns.length=3*i/\i<=fs.length/\(∀ z,z∈ns↔∃ f∈fs.take i,∃ q:Nat,f.has q/\z=(q:Int)),⟨[],rfl,rfl,Nat.zero_le _,by simp⟩,?_,?_⟩
   · rintro i x acc e ⟨ns,rfl,hl,hle,hm⟩
     obtain ⟨f,ef,rfl⟩:=DK e
     have hi':i<fs.length:=(List.getElem?_eq_some_iff.mp ef).1
     walk_at "g"
     refine ⟨fun n acc=>n<=3/\acc=(ns++([(f.i:Int),(f.j:Int),(f.k:Int)].take n)).map D.int,?_,⟨by decide,by simp⟩,?_,?_⟩
     · rintro n acc ⟨h3,rfl⟩
       refine ⟨⟨_,rfl⟩,?_⟩
       rw [List.length_map,List.length_append,List.length_take]
       simp only [List.length_cons,List.length_nil]
       omega
     · rintro n x acc e ⟨h3,rfl⟩
       rcases n with _|_|_|n
       · cases (Option.some.inj e)
         walk_at "g"
         simp
       · cases (Option.some.inj e)
         walk_at "g"
         simp
       · cases (Option.some.inj e)
         walk_at "g"
         simp
       · simp at e
     · rintro acc ⟨_,rfl⟩
       refine ⟨_,rfl,by simp;omega,hi',fun z=>?_⟩
       rw [List.take_add_one,ef]
       simp only [Option.toList_some,List.mem_append,hm z]
       constructor
       · rintro (⟨g',hg,q,hq⟩|hz)
         · exact ⟨g',.inl hg,q,hq⟩
         · have hz:z=f.i\/z=f.j\/z=f.k:=by simpa using hz
           rcases hz with rfl|rfl|rfl
           · exact ⟨f,.inr (by simp),f.i,.inl rfl,rfl⟩
           · exact ⟨f,.inr (by simp),f.j,.inr (.inl rfl),rfl⟩
           · exact ⟨f,.inr (by simp),f.k,.inr (.inr rfl),rfl⟩
       · rintro ⟨g',hg|hg,q,hq,rfl⟩
         · exact .inl ⟨g',hg,q,hq,rfl⟩
         · rw [List.mem_singleton.mp hg] at hq
           refine .inr ?_
           show _∈[(f.i:Int),(f.j:Int),(f.k:Int)]
           rcases hq with rfl|rfl|rfl<;>simp
   · rintro acc ⟨ns,rfl,hl,hle,hm⟩
     rw [List.length_map] at hl hle hm
     rw [List.take_length] at hm
     have rng:∀ z∈ns,0<=z/\z<(24:Nat):=fun z hz=>by
      obtain ⟨f,hf',q,hq,rfl⟩:=(hm z).mp hz
      have:=hi f hf' q hq
      omega
     refine ⟨ns,rfl,24,rng,by decide,fun ks so me=>?_⟩
     have kin:∀ z,z∈ks↔∃ f∈fs,∃ q:Nat,f.has q/\z=(q:Int):=fun z=>(me z).trans (hm z)
     have kl:ks.length<=24:=EZ 24 ks (so.imp fun {a b} h=>Int.ne_of_lt h) fun z hz=>rng z ((me z).mp hz)
     walk_at "g"
     refine And.intro (by rw [List.length_map];omega) ?_
     have up:ks.Nodup:=so.imp fun {a b} h=>Int.ne_of_lt h
     refine ⟨fun n acc=>acc=(ks.take n).map (fun z=>(z,(spt m cs z.toNat).d))/\∀ z∈ks.take n,0<(app m (cor cs z.toNat).s).w,⟨rfl,by simp⟩,?_,?_⟩
     · rintro n x acc e ⟨rfl,hpos⟩
       obtain ⟨z,ez,rfl⟩:=DK e
       have zm:=List.mem_of_getElem? ez
       obtain ⟨f,hf',q,hq,rfl⟩:=(kin z).mp zm
       have hqc:=hi f hf' q hq
       have hx:atI (cs.map R3.d) (q:Int)=some (cor cs q).d:=IV (j:=q) (by
        rw [List.getElem?_map]
        unfold cor
        rw [List.getElem?_eq_getElem hqc,List.getD_eq_getElem?_getD,List.getElem?_eq_getElem hqc]
        rfl)
       have cm:(cor cs q).s.ok n_:=co _ (by
        unfold cor
        rw [List.getD_eq_getElem?_getD,List.getElem?_eq_getElem hqc]
        exact List.getElem_mem hqc)
       have nk:(q:Int)∉((ks.take n).map (fun z:Int=>(z,(spt m cs z.toNat).d))).map (·.1):=by
        rw [List.map_map]
        intro h
        have h:(q:Int)∈ks.take n:=by
         obtain ⟨y,hy,e⟩:=List.mem_map.mp h
         have e:y=(q:Int):=e
         rw [<- e];exact hy
        obtain ⟨j,hj,ej⟩:=List.mem_iff_getElem.mp h
        rw [List.length_take] at hj
        rw [List.getElem_take] at ej
        have hn':n<ks.length:=(List.getElem?_eq_some_iff.mp ez).1
        have en:ks[n]=(q:Int):=(List.getElem?_eq_some_iff.mp ez).2
        have:=List.pairwise_iff_getElem.mp so j n (by omega) hn' (by omega)
        omega
       walk_at "g"
       refine ⟨(q:Int),rfl,nk,?_⟩
       walk_at "g"
       rw [hx]
       walk_at "g"
       refine ⟨m,(cor cs q).s,n_,rfl,mo,cm,hn,fun h=>h0 ⟨f,hf',q,hq,h⟩,fun h=>⟨rfl,?_,fun z hz=>?_⟩⟩
       · rw [List.take_add_one,ez,Option.toList_some,List.map_append]
         rfl
       · rw [List.take_add_one,ez,Option.toList_some] at hz
         rcases List.mem_append.mp hz with hz|hz
         · exact hpos z hz
         · rw [List.mem_singleton.mp hz];exact h
     · rintro acc ⟨rfl,hpos⟩
       intro a
       rw [List.length_map,List.take_length] at hpos
       have e1:((ks.take (ks.map D.int).length).map fun z=>(z,(spt m cs z.toNat).d)).map (·.1)=ks:=by
        rw [List.length_map,List.take_length,List.map_map]
        simp [Function.comp_def]
       have e2:((ks.take (ks.map D.int).length).map fun z=>(z,(spt m cs z.toNat).d)).map (·.2)=ks.map fun z=>(spt m cs z.toNat).d:=by
        rw [List.length_map,List.take_length,List.map_map]
        rfl
       rw [e1,e2]
       have lk:∀ q:Nat,(q:Int)∈ks->JX ks (ks.map fun z=>(spt m cs z.toNat).d) (q:Int)=some (spt m cs q).d:=fun q hq=>by
        rw [MO _ _ _ hq]
        rfl
       generalize (ks.map fun z=>(spt m cs z.toNat).d)=vs at *
       walk_at "g"
       refine And.intro (by rw [List.length_map];omega) ?_
       refine KR (fun i y=>∃ f,fs[i]?=some f/\y=UW m cs f) (fun j x Q e hQ=>?_) (fun j y ⟨p,_,e⟩=>by rw [e];rfl) fun acc hl' ha=>?_
       · obtain ⟨f,ef,rfl⟩:=DK e
         have fm:=List.mem_of_getElem? ef
         have k1:=lk f.i ((kin _).mpr ⟨f,fm,f.i,.inl rfl,rfl⟩)
         have k2:=lk f.j ((kin _).mpr ⟨f,fm,f.j,.inr (.inl rfl),rfl⟩)
         have k3:=lk f.k ((kin _).mpr ⟨f,fm,f.k,.inr (.inr rfl),rfl⟩)
         walk_at "g"
         walk_at "gc"
         refine ⟨a,ks,vs,(f.i:Int),_,rfl,rfl,k1,?_⟩
         walk_at "g"
         refine ⟨a,ks,vs,(f.j:Int),_,rfl,rfl,k2,?_⟩
         walk_at "g"
         refine ⟨a,ks,vs,(f.k:Int),_,rfl,rfl,k3,?_⟩
         walk_at "g"
         exact hQ _ ⟨f,ef,rfl⟩
       have eacc:acc=fs.map (UW m cs):=by
        apply List.ext_getElem?
        intro n
        rw [List.getElem?_map]
        cases q:acc[n]? with
        | none =>
          have h1:=List.getElem?_eq_none_iff.mp q
          rw [hl',List.length_map] at h1
          rw [List.getElem?_eq_none_iff.mpr h1]
          rfl
        | some y =>
          obtain ⟨p,ep,rfl⟩:=ha n y q
          rw [ep]
          rfl
       rw [eacc]
       exact h1 fun f hf' q hq=>hpos (q:Int) ((kin _).mpr ⟨f,hf',q,hq,rfl⟩)
def sdR (f:F3i):List (List Int):=[[(f.i:Int),(f.j:Int)],[(f.j:Int),(f.k:Int)],[(f.k:Int),(f.i:Int)]]
def sdsR (fs:List F3i):List (List Int):=fs.flatMap sdR
def CL:List Int->List Int
 | [a,b]=>[b,a]
 | r=>r
theorem DN (fs:List F3i):(sdsR fs).length=3*fs.length:=by
 induction fs with
 | nil=>rfl
 | cons f fs ih =>
   show (sdR f++sdsR fs).length=_
   rw [List.length_append,ih,List.length_cons]
   show 3+_=_
   omega
theorem JD {fs:List F3i}{r:List Int}(h:r∈sdsR fs):∃ (f:F3i) (a b:Nat),f∈fs/\f.has a/\f.has b/\r=[(a:Int),(b:Int)]:=by
 obtain ⟨f,hf,hr⟩:=List.mem_flatMap.mp h
 simp only [sdR,List.mem_cons,List.not_mem_nil,or_false] at hr
 rcases hr with rfl|rfl|rfl
 · exact ⟨f,f.i,f.j,hf,.inl rfl,.inr (.inl rfl),rfl⟩
 · exact ⟨f,f.j,f.k,hf,.inr (.inl rfl),.inr (.inr rfl),rfl⟩
 · exact ⟨f,f.k,f.i,hf,.inr (.inr rfl),.inl rfl,rfl⟩
structure Cnt (L:List (List Int))(ks:List (List Int))(xs:List D):Prop where
 len:ks.length=xs.length
 nd:ks.Nodup
 get:∀ r,AN ks xs r=if r∈L then some (.int (L.count r)) else none
 mem:∀ r,r∈ks↔r∈L
theorem Cnt.nil:Cnt [] [] []:=⟨rfl,List.nodup_nil,fun r=>by simp [AN],fun r=>Iff.rfl⟩
theorem Cnt.add {L ks:List (List Int)}{xs:List D}(h:Cnt L ks xs)(n:List Int):Cnt (L++[n]) (DQ ks xs n (.int (L.count n+1))).1 (DQ ks xs n (.int (L.count n+1))).2:=by
 refine ⟨ZS ks xs h.len,SW h.nd,fun r=>?_,fun r=>?_⟩
 · rw [XA ks xs h.len,h.get r]
   by_cases e:n=r
   · subst e
     rw [if_pos rfl,if_pos (by simp),List.count_append,List.count_singleton]
     simp
   · rw [if_neg e]
     by_cases m:r∈L
     · rw [if_pos m,if_pos (List.mem_append_left _ m),List.count_append,List.count_singleton,if_neg (by simpa using e)]
       rfl
     · rw [if_neg m,if_neg (fun z=>(List.mem_append.mp z).elim m fun y=>e (List.mem_singleton.mp y).symm)]
 · rw [MH]
   by_cases q:n∈ks
   · rw [if_pos q,h.mem r]
     constructor
     · exact fun m=>List.mem_append_left _ m
     · intro m
       rcases List.mem_append.mp m with m|m
       · exact m
       · rw [List.mem_singleton.mp m];exact (h.mem n).mp q
   · rw [if_neg q,List.mem_append,List.mem_append,h.mem r]
theorem Cnt.getD {L ks:List (List Int)}{xs:List D}(h:Cnt L ks xs)(r:List Int):(AN ks xs r).getD (.int 0)=.int (L.count r):=by
 rw [h.get r]
 by_cases m:r∈L
 · rw [if_pos m];rfl
 · rw [if_neg m,List.count_eq_zero_of_not_mem m];rfl
theorem Cnt.small {L ks:List (List Int)}{xs:List D}(h:Cnt L ks xs):ks.length<=L.length:=by
 have:∀ (ks L:List (List Int)),ks.Nodup->(∀ r∈ks,r∈L)->ks.length<=L.length:=by
  intro ks
  induction ks with
  | nil=>exact fun _ _ _=>Nat.zero_le _
  | cons k ks ih =>
    intro L nd h
    have hk:=h k (List.mem_cons_self ..)
    have:=ih (L.erase k) (List.nodup_cons.mp nd).2 fun r hr=>(List.mem_erase_of_ne (fun (z:r=k)=>(List.nodup_cons.mp nd).1 (by rw [<- z];exact hr))).mpr (h r (List.mem_cons_of_mem _ hr))
    rw [List.length_erase_of_mem hk] at this
    have:=List.length_pos_of_mem hk
    rw [List.length_cons]
    omega
 exact this ks L h.nd fun r hr=>(h.mem r).mp hr
def CQ (L:List (List Int))(r:List Int):Nat:=L.count r - L.count (CL r)
def CS (L ks:List (List Int)):List (List Int):=ks.flatMap fun r=>List.replicate (CQ L r) r
theorem IA {L:List (List Int)}:∀ {ks:List (List Int)},ks.Nodup->∀ r,(CS L ks).count r=if r∈ks then CQ L r else 0
 | [],_,r=>by simp [CS]
 | k::ks,nd,r=>by
   obtain ⟨n1,n2⟩:=List.nodup_cons.mp nd
   have ih:=IA (L:=L) n2 r
   show (List.replicate (CQ L k) k++CS L ks).count r=_
   rw [List.count_append,ih,List.count_replicate]
   by_cases e:k=r
   · subst e
     rw [if_neg n1,if_pos (by simp)]
     simp
   · have e2:¬ r=k:=fun z=>e z.symm
     simp [e,e2]
theorem MC:∀ {ks:List (List Int)} (L:List (List Int)),ks.Nodup->(ks.map fun k=>L.count k).sum<=L.length
 | [],L,_=>Nat.zero_le _
 | k::ks,L,nd=>by
   obtain ⟨n1,n2⟩:=List.nodup_cons.mp nd
   have ih:=MC (ks:=ks) (L.filter fun x=>x != k) n2
   have e1:(ks.map fun q=>(L.filter fun x=>x != k).count q)=ks.map fun q=>L.count q:=List.map_congr_left fun q hq=>by
    have:q≠k:=fun z=>n1 (z▸hq)
    rw [List.count_filter (by simpa using this)]
   rw [e1] at ih
   have e2:(L.filter fun x=>x != k).length+L.count k=L.length:=by
    have h1:=List.length_eq_countP_add_countP (fun x=>x != k) (l:=L)
    have h2:L.count k=L.countP (fun a=>decide (¬ (a != k)=true)):=by
     unfold List.count
     refine List.countP_congr fun x _=>?_
     simp
    rw [List.countP_eq_length_filter] at h1
    omega
   rw [List.map_cons,List.sum_cons]
   omega
theorem MQ {L ks:List (List Int)}(nd:ks.Nodup):(CS L ks).length<=L.length:=by
 refine Nat.le_trans ?_ (MC L nd)
 clear nd
 induction ks with
 | nil=>exact Nat.zero_le _
 | cons k ks ih =>
   show (List.replicate (CQ L k) k++CS L ks).length<=_
   rw [List.length_append,List.length_replicate,List.map_cons,List.sum_cons]
   have:CQ L k<=L.count k:=Nat.sub_le ..
   omega
theorem TX {L ks:List (List Int)}{i:Nat}{r:List Int}(e:ks[i]?=some r):CS L (ks.take (i+1))=CS L (ks.take i)++List.replicate (CQ L r) r:=by
 unfold CS
 rw [List.take_add_one,e,Option.toList_some,List.flatMap_append]
 simp
structure Lack (fs:List F3i)(rows:List (List Int)):Prop where
 srt:rows.Pairwise (fun x y=>AI 0 x<=AI 0 y)
 cnt:∀ r,rows.count r=CQ (sdsR fs) r
theorem KB {fs:List F3i}{rows:List (List Int)}(h:Lack fs rows){r:List Int}(m:r∈rows):r∈sdsR fs:=by
 have h1:=h.cnt r
 have h2:=List.count_pos_iff.mpr m
 apply Decidable.byContradiction
 intro n
 have:=List.count_eq_zero_of_not_mem n
 unfold CQ at h1
 omega
theorem EB {fs:List F3i}{n:Nat}(hn:n<=1000)(hi:∀ f∈fs,∀ q,f.has q->q<n){r:List Int}(m:r∈sdsR fs):r.length=2/\∀ z∈r,Z7 z:=by
 obtain ⟨f,a,b,hf,ha,hb,rfl⟩:=JD m
 have:=hi f hf a ha
 have:=hi f hf b hb
 refine ⟨rfl,fun z hz=>?_⟩
 simp only [List.mem_cons,List.not_mem_nil,or_false] at hz
 unfold Z7
 omega
theorem RJ {fs:List F3i}{n:Nat}(hn:n<=1000)(hi:∀ f∈fs,∀ q,f.has q->q<n){xs ys:List (List Int)}(hx:Lack fs xs)(hy:Lack fs ys):xs=ys:=by
 have hp:xs.Perm ys:=List.perm_iff_count.mpr fun r=>by rw [hx.cnt,hy.cnt]
 refine List.Perm.eq_of_pairwise (le:=fun r s=>AI 0 r<=AI 0 s) (fun a b ha hb h1 h2=>?_) hx.srt hy.srt hp
 have a1:=EB hn hi (KB hx ha)
 have b1:=EB hn hi (KB hy hb)
 exact (RU a b 0 0 (by rw [a1.1,b1.1]) a1.2 b1.2 (Int.le_antisymm h1 h2)).2
theorem noLs_rows (rows:List (List Int)):EF (rows.map Y4)=true:=by
 induction rows with
 | nil=>rfl
 | cons r rows ih =>
   rw [List.map_cons]
   unfold EF
   rw [ih]
   have:noL (Y4 r)=true:=by
    unfold Y4 noL
    induction r with
    | nil=>rfl
    | cons a r ih=>rw [List.map_cons];unfold EF;rw [ih];rfl
   rw [this];rfl
theorem HU (rows:List (List Int)):BZ 2 (rows.map Y4)=true:=by
 induction rows with
 | nil=>rfl
 | cons r rows ih =>
   rw [List.map_cons]
   unfold BZ
   rw [ih]
   have:AV 2 (Y4 r)=true:=by
    unfold Y4 AV
    induction r with
    | nil=>rfl
    | cons a r ih=>rw [List.map_cons];unfold BZ;rw [ih];rfl
   rw [this];rfl
theorem J4j (n:Nat)(d:D):(List.replicate n [d]).flatten=List.replicate n d:=by
 induction n with
 | zero=>rfl
 | succ n ih=>rw [List.replicate_succ,List.flatten_cons,ih,List.replicate_succ];rfl
abbrev GF:Stmt:=top 9
theorem AK:FnScope ["face","i","j","k"] ["face"] (J4 GF):=⟨rfl,rfl,rfl,by decide +kernel,rfl,by decide +kernel,by decide +kernel⟩
noncomputable def Q1y:DSp:=fun ds P _=>∃ f:F3i,ds=[f.d]/\P (.lst ((sdR f).map Y4))
theorem QW {w:World} {f:Addr} (F:Fun K "sides_of" "sides_of" GF f fd) (Z:Bi mg) {c:Cs} (Y:Ex K mg base c):FnOk P w K mg base CX0 1 f fd ["face"] (Q4 K BT Q1y):=by
 refine F.okD AK (fun ds PP Ed h=>?_) (fun cdv A outer s H E M bg ds PP Ed hr hS_=>?_)
 · obtain ⟨f_,rfl,hP⟩:=h
   rfl
 · obtain ⟨f_,rfl,hP⟩:=hS_
   refine ⟨_,(J5 (FQ (EH [1,2,3]) (jdv 0) (PG.or (CI (n:=3) K (by rfl) (by rfl) (J8 (pg_name (i:=1) AK.nd rfl (by walk_at "o")) (J8 (pg_name (i:=2) AK.nd rfl (by walk_at "o")) (J8 (pg_name (i:=3) AK.nd rfl (by walk_at "o")) Y9)))) (CJ (n:=3) K (by rfl) (by rfl) (J8 (pg_name (i:=1) AK.nd rfl (by walk_at "o")) (J8 (pg_name (i:=2) AK.nd rfl (by walk_at "o")) (J8 (pg_name (i:=3) AK.nd rfl (by walk_at "o")) Y9))))))
    (J9 (V4 (BQ (J0 (J7 (J0 (jdv 1) (J0 (jdv 2) J3))) (J0 (J7 (J0 (jdv 2) (J0 (jdv 3) J3))) (J0 (J7 (J0 (jdv 3) (J0 (jdv 1) J3))) J3))))))),?_⟩
   walk_at "g"
   exact hP
abbrev JJ:Stmt:=top 10
theorem WW:FnScope ["pair"] ["pair"] (J4 JJ):=⟨rfl,rfl,rfl,by decide +kernel,rfl,by decide +kernel,by decide +kernel⟩
noncomputable def J3n:DSp:=fun ds P _=>∃ a b:Int,ds=[t2 a b]/\P (t2 b a)
theorem XJ {w:World} {f:Addr} (F:Fun K "fellow" "fellow" JJ f fd) (Z:Bi mg) {c:Cs} (Y:Ex K mg base c):FnOk P w K mg base CX0 1 f fd ["pair"] (Q4 K BT J3n):=by
 refine F.okD WW (fun ds PP Ed h=>?_) (fun cdv A outer s H E M bg ds PP Ed hr hS_=>?_)
 · obtain ⟨a,b,rfl,hP⟩:=h
   rfl
 · obtain ⟨a,b,rfl,hP⟩:=hS_
   refine ⟨_,(J9 (V4 (J7 (J0 (Q8 (Q9 K (by rfl)) V8 (jdv 0) J1 (fun _ _=>rfl)) (J0 (Q8 (Q9 K (by rfl)) V8 (jdv 0) J1 (fun _ _=>rfl)) J3))))),?_⟩
   walk_at "g"
   exact hP
abbrev DF:Stmt:=top 11
theorem BE:FnScope ["faces","counts","face","pair"] ["faces"] (J4 DF):=⟨rfl,rfl,rfl,by decide +kernel,rfl,by decide +kernel,by decide +kernel⟩
noncomputable def J3k:DSp:=fun ds P _=>∃ fs:List F3i,ds=[.lst (fs.map F3i.d)]/\fs.length<=300/\∀ t ks xs,Cnt (sdsR fs) ks xs->P (.dct t ks xs)
theorem ZK {fs:List F3i}{i:Nat}{f:F3i}(e:fs[i]?=some f):sdsR (fs.take (i+1))=sdsR (fs.take i)++sdR f:=by
 unfold sdsR
 rw [List.take_add_one,e,Option.toList_some,List.flatMap_append]
 simp
theorem JN {w:World} {f:Addr} (F:Fun K "side_counts" "side_counts" DF f fd) (Z:Bi mg) {c:Cs} (Y:Ex K mg base c) (zg0:Callee P w K mg base CX0 "sides_of" 1 ["face"] (Q4 K BT Q1y)):FnOk P w K mg base CX0 2 f fd ["faces"] (Q4 K BT J3k):=by
 refine F.okD BE (fun ds PP Ed h=>?_) (fun cdv A outer s H E M bg ds PP Ed hr hS_=>?_)
 · obtain ⟨fs,rfl,hl,hP⟩:=h
   rfl
 · obtain ⟨fs,rfl,hl,hP⟩:=hS_
   refine ⟨_,(J5 (XV (i:=1) BE.nd rfl (by walk_at "o"))
    (J5 (CK (V1 2) PassesOwn.never rfl (Z3 (by rfl) (jdv 0)) (pg_name (i:=2) BE.nd rfl (by walk_at "o")) (J9 (CK (V1 3) PassesOwn.never rfl (Z3 (by rfl) (Q5 zg0 hr.m rfl (J0 (jdv 2) J3))) (pg_name (i:=3) BE.nd rfl (by walk_at "o")) (J9 (J1f (i:=1) (by rfl) (V0 CP BV (RO (i:=1) (by rfl) hr.units (jdv 3) J1 rfl (by walk_at "v") ⟨rfl,rfl,rfl,rfl⟩) J1) (SZ (pv 1) (JE.h (jdv 3)) (J4g K (by rfl) hr.units)))))))
    (XU 1 (J9 (V4 (jdv 1)))))),?_⟩
   walk_at "g"
   intro a t
   walk_at "g"
   refine ⟨fun i ρ=>∃ a t ks xs v2 v3,ρ=[some (.lst (fs.map F3i.d)),some (dcg K a t ks xs),v2,v3]/\Cnt (sdsR (fs.take i)) ks xs,⟨a,t,[],[],_,_,rfl,Cnt.nil⟩,?_,?_⟩
   · rintro i x ρ e ⟨a,t,ks,xs,v2,v3,rfl,hc⟩
     obtain ⟨f_,ef,rfl⟩:=DK e
     have hi:i<fs.length:=(List.getElem?_eq_some_iff.mp ef).1
     rw [ZK ef]
     have hz:(sdsR (fs.take i)).length<=900:=by rw [DN,List.length_take];omega
     generalize sdsR (fs.take i)=L at *
     walk_at "g"
     refine ⟨f_,rfl,?_⟩
     walk_at "g"
     refine ⟨fun n ρ=>∃ a t ks xs v3,ρ=[some (.lst (fs.map F3i.d)),some (dcg K a t ks xs),some f_.d,v3]/\Cnt (L++(sdR f_).take n) ks xs,⟨a,t,ks,xs,_,rfl,by rw [List.take_zero,List.append_nil];exact hc⟩,?_,?_⟩
     · rintro n y ρ e2 ⟨a,t,ks,xs,v3,rfl,hc⟩
       obtain ⟨r,er,rfl⟩:=DK e2
       have hn:n<3:=(List.getElem?_eq_some_iff.mp er).1
       have es:(sdR f_).take (n+1)=(sdR f_).take n++[r]:=by rw [List.take_add_one,er,Option.toList_some]
       rw [es,<- List.append_assoc]
       have hz:ks.length<1000:=by
        have:=hc.small
        rw [List.length_append,List.length_take] at this
        have:(sdR f_).length=3:=rfl
        omega
       obtain ⟨p,q,rfl⟩:∃ p q:Int,r=[p,q]:=by
        have:=List.mem_of_getElem? er
        simp only [sdR,List.mem_cons,List.not_mem_nil,or_false] at this
        rcases this with rfl|rfl|rfl<;>exact ⟨_,_,rfl⟩
       generalize L++(sdR f_).take n=L' at *
       walk_at "g"
       refine ⟨a,t,ks,xs,rfl,?_⟩
       walk_at "g"
       refine ⟨_,t,ks,xs,rfl,.inr ⟨a,rfl⟩,?_⟩
       walk_at "g"
       refine ⟨[p,q],rfl,?_⟩
       walk_at "g"
       rw [hc.getD]
       walk_at "g"
       refine ⟨[p,q],rfl,hz,fun t'=>?_⟩
       walk_at "g"
       exact ⟨a,t',_,_,_,rfl,hc.add _⟩
     · rintro ρ ⟨a,t,ks,xs,v3,rfl,hc⟩
       have e3:(sdR f_).take ((sdR f_).map Y4).length=sdR f_:=rfl
       rw [e3] at hc
       exact ⟨a,t,ks,xs,_,_,rfl,hc⟩
   · rintro ρ ⟨a,t,ks,xs,v2,v3,rfl,hc⟩
     rw [List.length_map,List.take_length] at hc
     walk_at "g"
     exact hP t ks xs hc
abbrev FM:Stmt:=top 12
theorem CN:FnScope ["body","counts","told","pair","more"] ["body"] (J4 FM):=⟨rfl,rfl,rfl,by decide +kernel,rfl,by decide +kernel,by decide +kernel⟩
noncomputable def NL:DSO:=fun ds P _=>∃ (cs:List D) (fs:List F3i) (n:Nat),ds=[.tup [.lst cs,.lst (fs.map F3i.d)]]/\fs.length<=21/\n<=1000/\(∀ f∈fs,∀ q,f.has q->q<n)/\∀ rows,Lack fs rows->P (rows.map Y4)
theorem TQ {w:World} {f:Addr} (F:Fun K "lacking" "lacking" FM f fd) (Z:Bi mg) {c:Cs} (Y:Ex K mg base c) (zg0:Callee P w K mg base CX0 "side_counts" 2 ["faces"] (Q4 K BT J3k)) (zg1:Callee P w K mg base CX0 "fellow" 1 ["pair"] (Q4 K BT J3n)):FnOk P w K mg base CX0 3 f fd ["body"] (Y6 K BT NL):=by
 refine F.okDO CN (fun ds PP Ed h=>?_) (fun cdv A outer s H E M bg ds PP Ed hr hS_=>?_)
 · obtain ⟨cs,fs,n_,rfl,hl,hn_,hi,hP⟩:=h
   rfl
 · obtain ⟨cs,fs,n_,rfl,hl,hn_,hi,hP⟩:=hS_
   refine ⟨_,(J5 (V5 (i:=1) CN.nd rfl (by walk_at "o") (Q5 zg0 hr.m rfl (J0 (Q8 (Q9 K (by rfl)) V8 (jdv 0) J1 (fun _ _=>rfl)) J3)))
    (J5 (KD (i:=2) CN.nd rfl (by walk_at "o") J3)
    (J5 (CK (V1 3) PassesOwn.never rfl (J1k (by rfl) (jdv 1)) (pg_name (i:=3) CN.nd rfl (by walk_at "o")) (J5 (V5 (i:=4) CN.nd rfl (by walk_at "o") (V0 EX BV (Q8 (J5v K (by rfl) hr.units) J9k (jdv 1) (jdv 3) (fun _ _=>rfl)) (RO (i:=1) (by rfl) hr.units (Q5 zg1 hr.m rfl (J0 (jdv 3) J3)) J1 rfl (by walk_at "v") ⟨rfl,rfl,rfl,rfl⟩)))
    (J9 (GL (i:=2) (by rfl) (J0 (V0 J0h J0l (BQ (J0 (jdv 3) J3)) (Y0 (FV (by rfl)) ND rfl Z.max_ PD (J0 (jdv 4) (J0 J1 J3)))) J3) (VC PySem.F.plainAttrs_list PySem.F.slot_list_extend PySem.F.type_list_extend HL (pv 2) (JA.h (J0 (V0 J0h J0l (BQ (J0 (jdv 3) J3)) (Y0 (FV (by rfl)) ND rfl Z.max_ PD (J0 (jdv 4) (J0 J1 J3)))) J3)))))))
    (J9 (RN (XX (X:=(Z8 CX0 P w K mg base ["body","counts","told","pair","more"] "lacking" (J4 FM) f cdv A outer s H E).nox) (J0 (jdv 2) J3) (DR (UJ K (by rfl) (by rfl)) rfl Z.sorted_ HX (JA.h (J0 (jdv 2) J3))))))))),?_⟩
   walk_at "g"
   refine ⟨fs,rfl,by omega,fun t ks xs hc=>?_⟩
   walk_at "g"
   refine ⟨t,ks,xs,.inl rfl,?_⟩
   have zl:=DN fs
   have sm:=fun {r}=>EB (r:=r) hn_ hi
   have lr:∀ rows:List (List Int),rows.Perm (CS (sdsR fs) ks)->rows.Pairwise (fun x y=>AI 0 x<=AI 0 y)->Lack fs rows:=fun rows p so=>⟨so,fun r=>by
    rw [p.count_eq,IA hc.nd]
    by_cases m:r∈ks
    · rw [if_pos m]
    · rw [if_neg m]
      have:(sdsR fs).count r=0:=List.count_eq_zero_of_not_mem fun z=>m ((hc.mem r).mpr z)
      unfold CQ
      omega⟩
   have lm:∀ r∈CS (sdsR fs) ks,r∈sdsR fs:=fun r hr=>by
    obtain ⟨k,hk,hr⟩:=List.mem_flatMap.mp hr
    rw [List.eq_of_mem_replicate hr]
    exact (hc.mem k).mp hk
   have zz:=MQ (L:=sdsR fs) hc.nd
   generalize sdsR fs=L at *
   refine ⟨fun i ρ=>∃ v3 v4,ρ=[some (.tup [.lst cs,.lst (fs.map F3i.d)]),some (.dct t ks xs),some (.own ((CS L (ks.take i)).map Y4)),v3,v4],⟨_,_,rfl⟩,?_,?_⟩
   · rintro i x ρ e ⟨v3,v4,rfl⟩
     have e':(EN ks)[i]?=some x:=e
     unfold EN at e'
     rw [List.getElem?_map] at e'
     obtain ⟨r,er,rfl⟩:=Option.map_eq_some_iff.mp e'
     have rm:r∈L:=(hc.mem r).mp (List.mem_of_getElem? er)
     obtain ⟨p,q,rfl⟩:∃ p q:Int,r=[p,q]:=by
      have:=(sm rm).1
      match r,this with
      | [p,q],_=>exact ⟨p,q,rfl⟩
     have g1:AN ks xs [p,q]=some (.int (L.count [p,q])):=by rw [hc.get,if_pos rm]
     have tk:(CS L (ks.take i)).length<=L.length:=MQ (List.Sublist.nodup (List.take_sublist i ks) hc.nd)
     have nk:CQ L [p,q]<=L.length:=Nat.le_trans (Nat.sub_le ..) List.count_le_length
     have nm:((fun i j=>if j>i then j else i) ((L.count [p,q]:Int) - (L.count [q,p]:Int)) 0:Int)=(CQ L [p,q]:Int):=by
      dsimp only
      show _=((L.count [p,q] - L.count [q,p]:Nat):Int)
      split<;>omega
     clear e e'
     walk_at "g"
     refine ⟨t,ks,xs,[p,q],_,.inl rfl,rfl,g1,?_⟩
     walk_at "g"
     refine ⟨_,t,ks,xs,rfl,.inl rfl,?_⟩
     walk_at "g"
     refine ⟨p,q,rfl,?_⟩
     walk_at "g"
     refine ⟨[q,p],rfl,?_⟩
     walk_at "g"
     rw [hc.getD]
     walk_at "g"
     rw [nm]
     refine And.intro ⟨by omega,by omega,by rw [Int.toNat_natCast];simp;omega⟩ ?_
     rw [Int.toNat_natCast]
     walk_at "g"
     refine And.intro (by simp;omega) ?_
     rw [TX er]
     exact ⟨_,_,by rw [J4j,List.map_append,List.map_replicate];rfl⟩
   · rintro ρ ⟨v3,v4,rfl⟩
     walk_at "g"
     have e3:(CS L (List.take ((fun ks x=>EN ks) ks xs).length ks))=CS L ks:=by
      show CS L (ks.take (EN ks).length)=_
      unfold EN
      rw [List.length_map,List.take_length]
     rw [e3]
     exact ⟨_,2,rfl,by decide,by omega,fun r hr=>sm (lm r hr),fun rows' p so=>hP rows' (lr rows' p so)⟩
abbrev EV:Stmt:=top 13
theorem NS:FnScope ["body"] ["body"] (J4 EV):=⟨rfl,rfl,rfl,by decide +kernel,rfl,by decide +kernel,by decide +kernel⟩
noncomputable def J7v:DSp:=fun ds P _=>∃ (cs:List D) (fs:List F3i) (n:Nat),ds=[.tup [.lst cs,.lst (fs.map F3i.d)]]/\fs.length<=21/\n<=1000/\(∀ f∈fs,∀ q,f.has q->q<n)/\∀ rows,Lack fs rows->P (.bl rows.isEmpty)
theorem OC {w:World} {f:Addr} (F:Fun K "is_closed" "is_closed" EV f fd) (Z:Bi mg) {c:Cs} (Y:Ex K mg base c) (zg0:Callee P w K mg base CX0 "lacking" 3 ["body"] (Y6 K BT NL)):FnOk P w K mg base CX0 4 f fd ["body"] (Q4 K BT J7v):=by
 refine F.okD NS (fun ds PP Ed h=>?_) (fun cdv A outer s H E M bg ds PP Ed hr hS_=>?_)
 · obtain ⟨cs,fs,n_,rfl,hl,hn_,hi,hP⟩:=h
   rfl
 · obtain ⟨cs,fs,n_,rfl,hl,hn_,hi,hP⟩:=hS_
   refine ⟨_,(J9 (V4 (OL (J9g K (by rfl) hr.units) J0m (KE zg0 hr.m rfl (J0 (jdv 0) J3)) (BQ J3) (Z5 _)))),?_⟩
   walk_at "g"
   refine ⟨cs,fs,n_,rfl,hl,hn_,hi,fun rows lk=>?_⟩
   have hP:=hP rows lk
   refine ⟨noLs_rows rows,?_⟩
   walk_at "g"
   refine J2c 2 (HU rows) ?_
   have e:((rows.map Y4).isEmpty != false)=rows.isEmpty:=by cases rows<;>rfl
   rw [e]
   walk_at "g"
   exact hP
theorem J9p (cs:List R3):EF (cs.map R3.d)=true:=noLs_all fun d hd=>by
 obtain ⟨t,_,rfl⟩:=List.mem_map.mp hd
 rfl
theorem J9q (fs:List F3i):EF (fs.map F3i.d)=true:=noLs_all fun d hd=>by
 obtain ⟨t,_,rfl⟩:=List.mem_map.mp hd
 rfl
theorem J9r (cs:List R3)(fs:List F3i):∀ r∈[cs.map R3.d,fs.map F3i.d],EF r=true:=fun r hr=>by
 rcases List.mem_cons.mp hr with rfl|hr
 · exact J9p cs
 · rw [List.mem_singleton.mp hr]
   exact J9q fs
def F3i.flip (f:F3i):F3i:=⟨f.i,f.k,f.j⟩
def flD:D->D
 | .tup [a,b,c]=>.tup [a,c,b]
 | d=>d
theorem J5y (fs:List F3i):(fs.map F3i.d).map flD=(fs.map F3i.flip).map F3i.d:=by
 rw [List.map_map,List.map_map]
 exact List.map_congr_left fun f _=>rfl
theorem FU (r:List Int):CL (CL r)=r:=by
 match r with
 | []=>rfl
 | [_]=>rfl
 | [_,_]=>rfl
 | _::_::_::_=>rfl
theorem BC (L:List (List Int))(r:List Int):(L.map CL).count r=L.count (CL r):=by
 induction L with
 | nil=>rfl
 | cons k L ih =>
   rw [List.map_cons,List.count_cons,List.count_cons,ih]
   have:(CL k==r)=(k==CL r):=by
    rw [Bool.eq_iff_iff]
    simp only [beq_iff_eq]
    exact ⟨fun h=>by rw [<- h,FU],fun h=>by rw [h,FU]⟩
   rw [this]
theorem ET (fs:List F3i):(sdsR (fs.map F3i.flip)).Perm ((sdsR fs).map CL):=by
 induction fs with
 | nil=>exact List.Perm.refl _
 | cons f fs ih =>
   show (sdR f.flip++sdsR (fs.map F3i.flip)).Perm ((sdR f++sdsR fs).map CL)
   rw [List.map_append]
   refine List.Perm.append ?_ ih
   show List.Perm [[(f.i:Int),(f.k:Int)],[(f.k:Int),(f.j:Int)],[(f.j:Int),(f.i:Int)]] ([[(f.j:Int),(f.i:Int)],[(f.k:Int),(f.j:Int)],[(f.i:Int),(f.k:Int)]])
   exact (List.reverse_perm _).symm
theorem J2a {fs:List F3i}{n:Nat}(hi:∀ f∈fs,∀ q,f.has q->q<n):∀ f∈fs.map F3i.flip,∀ q,f.has q->q<n:=fun f hf q hq=>by
 obtain ⟨f0,h0,rfl⟩:=List.mem_map.mp hf
 refine hi f0 h0 q ?_
 rcases hq with z|z|z
 · exact .inl z
 · exact .inr (.inr z)
 · exact .inr (.inl z)
theorem GZ:∀ (xs ys:List (List Int)),(∀ r,xs.count r<=ys.count r)->xs.length<=ys.length
 | [],_,_=>Nat.zero_le _
 | x::xs,ys,h=>by
   have hx:x∈ys:=List.count_pos_iff.mp (Nat.lt_of_lt_of_le (by simp) (h x))
   have ih:=GZ xs (ys.erase x) fun r=>by
    have:=h r
    rw [List.count_cons] at this
    rw [List.count_erase]
    by_cases e:x=r
    · simp [e] at this ⊢;omega
    · simp [e] at this ⊢;omega
   rw [List.length_erase_of_mem hx] at ih
   have:=List.length_pos_of_mem hx
   rw [List.length_cons]
   omega
theorem J1c {fs:List F3i}{rows:List (List Int)}(h:Lack fs rows):rows.length<=3*fs.length:=by
 have:=GZ rows (sdsR fs) fun r=>by rw [h.cnt];exact Nat.sub_le ..
 rwa [DN] at this
def BR (fs:List F3i):Prop:=∀ r,(sdsR fs).count r=(sdsR fs).count (CL r)
theorem SC {fs:List F3i}(h:BR fs):Lack fs []:=⟨List.Pairwise.nil,fun r=>by
 unfold CQ
 rw [h r]
 simp⟩
theorem SE {fs:List F3i}(h:BR fs):BR (fs.map F3i.flip):=fun r=>by
 rw [(ET fs).count_eq,(ET fs).count_eq,BC,BC]
 exact h _
theorem GS (f:F3i)(fs:List F3i):sdsR (f::fs)=sdR f++sdsR fs:=rfl
theorem QL (xs ys:List F3i):sdsR (xs++ys)=sdsR xs++sdsR ys:=List.flatMap_append
structure F3i.un (f:F3i):Prop where
 ij:f.i≠f.j
 jk:f.j≠f.k
 ki:f.k≠f.i
theorem NB {fs:List F3i}(σ:Nat->Int)(L:List (Nat×Nat))(h:(L.map Prod.swap).Perm L)(e:sdsR fs=L.map fun p=>[σ p.1,σ p.2]):BR fs:=fun r=>by
 rw [<- BC,e,List.map_map]
 have:(CL∘fun p:Nat×Nat=>[σ p.1,σ p.2])=(fun p:Nat×Nat=>[σ p.1,σ p.2])∘Prod.swap:=rfl
 rw [this,<- List.map_map]
 exact ((h.map _).count_eq r).symm
theorem SD (i j k t:Nat):BR [⟨i,k,j⟩,⟨i,j,t⟩,⟨j,k,t⟩,⟨k,i,t⟩] :=
 NB (fun n=>match n with|0=>(i:Int)|1=>(j:Int)|2=>(k:Int)|_=>(t:Int)) [(0,2),(2,1),(1,0),(0,1),(1,3),(3,0),(1,2),(2,3),(3,1),(2,0),(0,3),(3,2)] (by decide) rfl
theorem UF (i j k t l:Nat):BR [⟨i,j,t⟩,⟨j,k,t⟩,⟨k,i,t⟩,⟨j,i,l⟩,⟨k,j,l⟩,⟨i,k,l⟩] :=
 NB (fun n=>match n with|0=>(i:Int)|1=>(j:Int)|2=>(k:Int)|3=>(t:Int)|_=>(l:Int)) [(0,1),(1,3),(3,0),(1,2),(2,3),(3,1),(2,0),(0,3),(3,2),(1,0),(0,4),(4,1),(2,1),(1,4),(4,2),(0,2),(2,4),(4,0)] (by decide) rfl
abbrev CC:Stmt:=top 14
theorem AU:FnScope ["body","corners","faces"] ["body"] (J4 CC):=⟨rfl,rfl,rfl,by decide +kernel,rfl,by decide +kernel,by decide +kernel⟩
noncomputable def Q4y (K:Fg):YR:=fun ds P _=>∃ (xs:List D) (fs:List F3i),ds=[.tup [.lst xs,.lst (fs.map F3i.d)]]/\fs.length<=42/\∀ p rs,P (tpF K p rs [xs,(fs.map F3i.flip).map F3i.d]) (.tup ([xs,(fs.map F3i.flip).map F3i.d].map D.lst))
abbrev xc8 (P:Program) (w:World) (K:Fg) (mg:Str → Option Value) (base:Heap) (f:Addr) (cdv:Value) (A:Around) (outer:List Env) (s:Shared) (H:Hp) (E:XK):Cx:=Z8 (CX1 P w base) P w K mg base ["body","corners","faces"] "inside_out" (J4 CC) f cdv A outer s H E
abbrev PN:List Str:=["i","j","k"]
theorem LH {w:World} {f:Addr} (F:Fun K "inside_out" "inside_out" CC f fd) (Z:Bi mg) {c:Cs} (Y:Ex K mg base c):FnOk P w K mg base (CX1 P w base) 1 f fd ["body"] (BH K BT (Q4y K)):=by
 refine F.okDXP AU (fun ds PP Ed h=>?_) (fun cdv A outer s H E M bg ds PP Ed hr hE hS_=>?_)
 · obtain ⟨xs,fs,rfl,hl,hP⟩:=h
   rfl
 · obtain ⟨xs,fs,rfl,hl,hP⟩:=hS_
   refine ⟨_,(J1d (FQ (EH [1,2]) (jdv 0) (PG.or (CI (n:=2) K (by rfl) (by rfl) (J8 (pg_name (i:=1) AU.nd rfl (by walk_at "o")) (J8 (pg_name (i:=2) AU.nd rfl (by walk_at "o")) Y9))) (CJ (n:=2) K (by rfl) (by rfl) (J8 (pg_name (i:=1) AU.nd rfl (by walk_at "o")) (J8 (pg_name (i:=2) AU.nd rfl (by walk_at "o")) Y9)))))
    (XT (AF (JF.h (J1l (J0 (jdv 1) J3) (MJ (LV K (by rfl)) rfl Z.list_ J6v (JA.h (J0 (jdv 1) J3))))) (AF (JF.h (J1m (X:=(xc8 P w K mg base f cdv A outer s H E)) (EH [0,1,2]) (EO (X:=(xc8 P w K mg base f cdv A outer s H E)) (N':=PN) (map:=[none,none,none]) (by rfl) (by rfl) (by decide +kernel) (by rfl) True.intro (gkeep_seq (js:=[0,1,2]) (by decide)) fun cl0 C0 fp0 s0 H0=>⟨(PG.or (CI (n:=3) K (by rfl) (by rfl) (J8 (pg_name (i:=0) (V9 PN (by decide +kernel)) rfl (by walk_at "o")) (J8 (pg_name (i:=1) (V9 PN (by decide +kernel)) rfl (by walk_at "o")) (J8 (pg_name (i:=2) (V9 PN (by decide +kernel)) rfl (by walk_at "o")) Y9)))) (CJ (n:=3) K (by rfl) (by rfl) (J8 (pg_name (i:=0) (V9 PN (by decide +kernel)) rfl (by walk_at "o")) (J8 (pg_name (i:=1) (V9 PN (by decide +kernel)) rfl (by walk_at "o")) (J8 (pg_name (i:=2) (V9 PN (by decide +kernel)) rfl (by walk_at "o")) Y9))))),Y7,(J7 (X:=(J6 (xc8 P w K mg base f cdv A outer s H E) PN _ cl0 C0 fp0 s0 H0)) (J0 (jdv 0) (J0 (jdv 2) (J0 (jdv 1) J3))))⟩) (Z3 (by rfl) (jdv 2)))) DI)))),?_⟩
   walk_at "g"
   refine And.intro (by rw [List.length_map];omega) ?_
   refine SB flD (fun x Q hx hQ=>?_) (fun x hx=>?_) ?_
   · obtain ⟨f,_,rfl⟩:=List.mem_map.mp hx
     walk_at "g"
     exact hQ
   · obtain ⟨f,_,rfl⟩:=List.mem_map.mp hx
     rfl
   rw [J5y]
   exact hP
theorem IC:∀ s r:List Int,PyData.eqvAll (s.map PyData.int) (r.map PyData.int)=decide (s=r)
 | [],[]=>by simp [PyData.eqvAll]
 | [],_::_=>by simp [PyData.eqvAll]
 | _::_,[]=>by simp [PyData.eqvAll]
 | a::s,b::r=>by
   simp only [List.map_cons]
   unfold PyData.eqvAll
   rw [IC s r]
   have:PyData.eqv (.int a) (.int b)=decide (a=b):=by simp only [PyData.eqv];rfl
   rw [this]
   by_cases h1:a=b<;>by_cases h2:s=r<;>simp [h1,h2]
theorem J3h (L:List (List Int))(r:List Int):((L.map fun s=>PyData.tuple (s.map PyData.int)).any fun y=>PyData.eqv y (.tuple (r.map PyData.int)))=decide (r∈L):=by
 induction L with
 | nil=>rfl
 | cons s L ih =>
   rw [List.map_cons,List.any_cons,ih]
   have:PyData.eqv (.tuple (s.map PyData.int)) (.tuple (r.map PyData.int))=decide (s=r):=by rw [<- IC];unfold PyData.eqv;rfl
   rw [this]
   by_cases z:r=s
   · simp [z]
   · have:¬ s=r:=fun y=>z y.symm
     simp [z,this]
theorem QS:∀ L:List (List Int),BA (L.map Y4)=some (L.map fun s=>PyData.tuple (s.map PyData.int))
 | []=>rfl
 | r::L=>by
   rw [List.map_cons]
   unfold BA
   rw [QS L]
   have:V6 (Y4 r)=some (.tuple (r.map PyData.int)):=by unfold Y4 V6;rw [DP];rfl
   rw [this]
   rfl
theorem J1u {neg:Bool}{r:List Int}{L:List (List Int)}{P:D->Prop}(h:P (.bl (decide (r∈L)!=neg))):InG neg (Y4 r) (.lst (L.map Y4)) P:=by
 have e:V6 (Y4 r)=some (.tuple (r.map PyData.int)):=by unfold Y4 V6;rw [DP];rfl
 have f:AV 2 (Y4 r)=true:=by
  have:=HU [r]
  rw [List.map_cons] at this
  unfold BZ at this
  exact ((Bool.and_eq_true _ _).mp this).1
 obtain ⟨p,e1,d1,_⟩:=IT 2 (Y4 r) f
 rw [e] at e1
 cases e1
 exact ⟨_,_,_,e,by unfold V6;rw [QS];rfl,rfl,Nat.le_trans (Nat.min_le_right _ _) (Nat.le_trans d1 (by decide)),by rw [J3h];exact h⟩
def tri (a b c:R4):T3:=⟨a.x,a.y,a.z,a.w,b.x,b.y,b.z,b.w,c.x,c.y,c.z,c.w⟩
theorem J8k {a b c:R4}{n:Nat}(ha:a.ok n)(hb:b.ok n)(hc:c.ok n):(tri a b c).ok n:=⟨ha.x,ha.y,ha.z,ha.w,hb.x,hb.y,hb.z,hb.w,hc.x,hc.y,hc.z,hc.w⟩
abbrev tM (m:M4)(cs:List R3)(f:F3i):T3:=tri (spt m cs f.i) (spt m cs f.j) (spt m cs f.k)
def AS (m:M4)(cs:List R3)(f:F3i):Bool:=decide (0<(tM m cs f).tn)
def ML (fs:List F3i):Prop:=∀ r,(sdsR fs).count r<=1
theorem ES (p:F3i->Bool)(r:List Int):∀ fs:List F3i,(sdsR fs).count r=(sdsR (fs.filter p)).count r+(sdsR (fs.filter fun f=>!p f)).count r
 | []=>rfl
 | f::fs=>by
   have ih:=ES p r fs
   rw [GS,List.count_append,List.filter_cons,List.filter_cons]
   cases e:p f
   · simp only [Bool.not_false,if_true,Bool.false_eq_true,if_false]
     rw [GS,List.count_append]
     omega
   · simp only [Bool.not_true,if_true,Bool.false_eq_true,if_false]
     rw [GS,List.count_append]
     omega
def XF (p:F3i->Bool)(fs:List F3i):List (List Int):=(sdsR (fs.filter p)).filter fun r=>decide (CL r∈sdsR (fs.filter fun f=>!p f))
theorem J0e {p:F3i->Bool}{fs:List F3i}(cl:BR fs)(on:ML fs){rows:List (List Int)}(nd:rows.Nodup)(same:∀ r,r∈rows↔r∈XF p fs)(so:rows.Pairwise (fun x y=>AI 0 x<=AI 0 y)):Lack (fs.filter p) rows:=⟨so,fun r=>by
 have e1:=ES p r fs
 have e2:=ES p (CL r) fs
 have e3:=cl r
 have e4:=on r
 unfold CQ
 by_cases m:r∈rows
 · rw [nd.count,if_pos m]
   have m:=(same r).mp m
   unfold XF at m
   obtain ⟨m1,m2⟩:=List.mem_filter.mp m
   have a1:=List.count_pos_iff.mpr m1
   have a2:=List.count_pos_iff.mpr (of_decide_eq_true m2)
   omega
 · rw [List.count_eq_zero_of_not_mem m]
   have m:r∉XF p fs:=fun z=>m ((same r).mpr z)
   by_cases m1:r∈sdsR (fs.filter p)
   · have m2:¬ CL r∈sdsR (fs.filter fun f=>!p f):=fun z=>m (List.mem_filter.mpr ⟨m1,decide_eq_true z⟩)
     have:=List.count_eq_zero_of_not_mem m2
     omega
   · have:=List.count_eq_zero_of_not_mem m1
     omega⟩
theorem J0g (p:F3i->Bool)(fs:List F3i):(XF p fs).length<=3*fs.length:=by
 refine Nat.le_trans (List.length_filter_le ..) ?_
 rw [DN]
 have:=List.length_filter_le p fs
 omega
theorem J0f {p:F3i->Bool}{fs:List F3i}{r:List Int}(h:r∈XF p fs):r∈sdsR fs:=by
 obtain ⟨f,hf,hr⟩:=List.mem_flatMap.mp (List.mem_filter.mp h).1
 exact List.mem_flatMap.mpr ⟨f,(List.mem_filter.mp hf).1,hr⟩
theorem J3q {a b:F3i->D}(fs:List F3i):LC (fs.map a) (fs.map b)=fs.map fun f=>.tup [a f,b f]:=by
 unfold LC
 rw [List.zipWith_map,List.zipWith_self]
theorem BS {α:Type}{p:α->Bool}{l:List α}{i:Nat}{x:α}(e:l[i]?=some x):(l.take (i+1)).filter p=(l.take i).filter p++if p x then [x] else []:=by
 rw [List.take_add_one,e,Option.toList_some,List.filter_append]
 cases h:p x<;>simp [h]
theorem QM (f:F3i):sdsR [f]=sdR f:=List.append_nil _
theorem QA (a b c:R4):(tri a c b).tn = -(tri a b c).tn:=by unfold tri T3.tn det;grind
theorem SQ {m:M4}{cs:List R3}{n:Nat}(hm:m.ok n)(hc:∀ r∈cs,r.s.ok n)(hw:∀ q,0<(app m (cor cs q).s).w)(h3:3<=n)(q:Nat):(spt m cs q).ok (2*n+3):=by
 have h:(cor cs q).s.ok n:=by
  unfold cor
  rw [List.getD_eq_getElem?_getD]
  cases e:cs[q]? with
  | none=>exact ⟨b0 h3,b0 h3,b0 h3,b1 h3⟩
  | some r=>exact hc r (List.mem_of_getElem? e)
 exact (J5m (hw q)).2.2 _ (by have:=J3g hm h;rwa [show n+n+3=2*n+3 by omega] at this)
theorem J7c {m:M4}{cs:List R3}{n:Nat}(hm:m.ok n)(hc:∀ r∈cs,r.s.ok n)(hw:∀ q,0<(app m (cor cs q).s).w)(h3:3<=n)(f:F3i):(tM m cs f).ok (2*n+3):=J8k (SQ hm hc hw h3 _) (SQ hm hc hw h3 _) (SQ hm hc hw h3 _)
abbrev FL:Stmt:=top 23
theorem AX:FnScope ["body","move","here","others","face","seen","pair"] SL (J4 FL):=⟨rfl,rfl,rfl,by decide +kernel,rfl,by decide +kernel,by decide +kernel⟩
noncomputable def J3l:DSO:=fun ds P _=>∃ (cs:List R3) (fs:List F3i) (m:M4) (n:Nat),ds=[.tup [.lst (cs.map R3.d),.lst (fs.map F3i.d)],m.d]/\m.ok n/\(∀ r∈cs,r.s.ok n)/\(3<=n/\n<=900)/\cs.length<=24/\fs.length<=20/\(∀ f∈fs,∀ q,f.has q->q<cs.length)/\(∀ q,0<(app m (cor cs q).s).w)/\BR fs/\ML fs/\∀ rows,Lack (fs.filter (AS m cs)) rows->P (rows.map Y4)
abbrev xc9 (P:Program) (w:World) (K:Fg) (mg:Str → Option Value) (base:Heap) (f:Addr) (cdv:Value) (A:Around) (outer:List Env) (s:Shared) (H:Hp) (E:XK):Cx:=Z8 CX0 P w K mg base ["body","move","here","others","face","seen","pair"] "outline" (J4 FL) f cdv A outer s H E
theorem TN {w:World} {f:Addr} (F:Fun K "outline" "outline" FL f fd) (Z:Bi mg) {c:Cs} (Y:Ex K mg base c) (zg0:Callee P w K mg base (CX1 P w base) "faces_seen" 4 SL (Y6 K BT (PJ c))) (zg1:Callee P w K mg base CX0 "turn" 2 ["face"] (Q4 K BT UQ)) (zg2:Callee P w K mg base CX0 "sides_of" 1 ["face"] (Q4 K BT Q1y)) (zg3:Callee P w K mg base CX0 "fellow" 1 ["pair"] (Q4 K BT J3n)):FnOk P w K mg base CX0 5 f fd SL (Y6 K BT J3l):=by
 refine F.okDO AX (fun ds PP Ed h=>?_) (fun cdv A outer s H E M bg ds PP Ed hr hS_=>?_)
 · obtain ⟨cs,fs,m,n_,rfl,mo,co,⟨h3,hn⟩,c24,f20,hi,hw,cl,on,hP⟩:=h
   rfl
 · obtain ⟨cs,fs,m,n_,rfl,mo,co,⟨h3,hn⟩,c24,f20,hi,hw,cl,on,hP⟩:=hS_
   refine ⟨_,(J5 (KD (i:=2) AX.nd rfl (by walk_at "o") J3)
    (J5 (KD (i:=3) AX.nd rfl (by walk_at "o") J3)
    (J5 (CK (EH [4,5]) PassesOwn.never rfl (VN (by rfl) false false rfl Z.zip_ (J0 (Q8 (Q9 K (by rfl)) V8 (jdv 0) J1 (fun _ _=>rfl)) (J0 (HP KQ NZ zg0 hr.m rfl (J0 (jdv 0) (J0 (jdv 1) J3))) J3)) (VA K (by rfl) false false rfl Z.zip_ (JA.h (J0 (Q8 (Q9 K (by rfl)) V8 (jdv 0) J1 (fun _ _=>rfl)) (J0 (HP KQ NZ zg0 hr.m rfl (J0 (jdv 0) (J0 (jdv 1) J3))) J3))))) (PG.or (CI (n:=2) K (by rfl) (by rfl) (J8 (pg_name (i:=4) AX.nd rfl (by walk_at "o")) (J8 (pg_name (i:=5) AX.nd rfl (by walk_at "o")) Y9))) (CJ (n:=2) K (by rfl) (by rfl) (J8 (pg_name (i:=4) AX.nd rfl (by walk_at "o")) (J8 (pg_name (i:=5) AX.nd rfl (by walk_at "o")) Y9)))) (J9 (BM (Z1 J7i J0o (Q5 zg1 hr.m rfl (J0 (jdv 5) J3)) J1 (Z5 _)) (J9 (GL (i:=2) (by rfl) (J0 (Q5 zg2 hr.m rfl (J0 (jdv 4) J3)) J3) (VC PySem.F.plainAttrs_list PySem.F.slot_list_extend PySem.F.type_list_extend HL (pv 2) (JA.h (J0 (Q5 zg2 hr.m rfl (J0 (jdv 4) J3)) J3))))) (J9 (GL (i:=3) (by rfl) (J0 (Q5 zg2 hr.m rfl (J0 (jdv 4) J3)) J3) (VC PySem.F.plainAttrs_list PySem.F.slot_list_extend PySem.F.type_list_extend HL (pv 3) (JA.h (J0 (Q5 zg2 hr.m rfl (J0 (jdv 4) J3)) J3))))))))
    (RM 3 (RM 2 (J9 (RN (TZ (X:=(xc9 P w K mg base f cdv A outer s H E).nox) (by rfl) (Nat.lt_of_le_of_lt (Nat.add_le_add_left (by decide) _) hr.units) rfl rfl Z.sorted_ HX (V1 0) (EO (X:=(xc9 P w K mg base f cdv A outer s H E).nox) (N':=["pair","others"]) (map:=[none,some 3]) (by rfl) (by rfl) (by decide +kernel) (by rfl) ⟨⟨rfl,rfl,rfl,by walk_at "o"⟩,True.intro⟩ (gkeep_name rfl) fun cl0 C0 fp0 s0 H0=>⟨(pg_name (X:=(J6 (xc9 P w K mg base f cdv A outer s H E).nox ["pair","others"] _ cl0 C0 fp0 s0 H0)) (i:=0) (V9 ["pair","others"] (by decide +kernel)) rfl (by walk_at "o")),(FE (Z1 (J9f K (by rfl) hr.units) OF (Q5 zg3 hr.m rfl (J0 (jdv 0) J3)) (jdv 1) (by with_unfolding_all rfl))),(jdv (X:=(J6 (xc9 P w K mg base f cdv A outer s H E).nox ["pair","others"] _ cl0 C0 fp0 s0 H0)) 0)⟩) (Z3 (by rfl) (jdv 2)))))))))),?_⟩
   walk_at "g"
   refine ⟨cs,fs,m,n_,rfl,mo,co,by omega,c24,by omega,hi,fun ⟨f,_,q,_,z⟩=>absurd (hw q) (by omega),fun _=>?_⟩
   walk_at "g"
   refine And.intro (noLs_all fun x hx=>by obtain ⟨t,_,rfl⟩:=List.mem_map.mp hx;rfl) ?_
   walk_at "g"
   refine And.intro (by simp) ?_
   rw [J3q]
   refine ⟨fun i ρ=>∃ v4 v5 v6,ρ=[some (.tup [.lst (cs.map R3.d),.lst (fs.map F3i.d)]),some m.d,some (.own ((sdsR ((fs.take i).filter (AS m cs))).map Y4)),some (.own ((sdsR ((fs.take i).filter fun f=>!AS m cs f)).map Y4)),v4,v5,v6],⟨_,_,_,rfl⟩,?_,?_⟩
   · rintro i x ρ e ⟨v4,v5,v6,rfl⟩
     obtain ⟨f,ef,rfl⟩:=DK e
     have hi':i<fs.length:=(List.getElem?_eq_some_iff.mp ef).1
     have l1:∀ p:F3i->Bool,(sdsR ((fs.take i).filter p)).length<=60:=fun p=>by
      rw [DN]
      have a1:=List.length_filter_le p (fs.take i)
      rw [List.length_take] at a1
      omega
     have t1:=BS (p:=AS m cs) ef
     have t2':=BS (p:=fun f=>!AS m cs f) ef
     have ok:=J7c mo co hw h3 f
     walk_at "g"
     refine ⟨tM m cs f,2*n_+3,rfl,ok,by omega,?_⟩
     walk_at "g"
     by_cases z:0<(tM m cs f).tn
     · have fz:AS m cs f=true:=decide_eq_true z
       refine IfP.t (by simp [z]) ?_
       walk_at "g"
       refine ⟨f,rfl,?_⟩
       walk_at "g"
       refine And.intro (by rw [List.length_map,List.length_map];have:=l1 (AS m cs);show _+3<=1000;omega) ?_
       rw [t1,t2',fz]
       simp only [Bool.not_true,if_true,Bool.false_eq_true,if_false,List.append_nil]
       rw [QL,QM,List.map_append]
       exact ⟨_,_,_,rfl⟩
     · have fz:AS m cs f=false:=decide_eq_false z
       refine IfP.f (by simp [z]) ?_
       walk_at "g"
       refine ⟨f,rfl,?_⟩
       walk_at "g"
       refine And.intro (by rw [List.length_map,List.length_map];have:=l1 (fun f=>!AS m cs f);show _+3<=1000;omega) ?_
       rw [t1,t2',fz]
       simp only [Bool.not_false,if_true,Bool.false_eq_true,if_false,List.append_nil]
       rw [QL,QM,List.map_append]
       exact ⟨_,_,_,rfl⟩
   · rintro ρ ⟨v4,v5,v6,rfl⟩
     rw [List.length_map,List.take_length]
     have lo:=J0g (AS m cs) fs
     have hm:=fun {r}=>J0f (p:=AS m cs) (fs:=fs) (r:=r)
     have hP':=fun rows nd same so=>hP rows (J0e (p:=AS m cs) cl on (rows:=rows) nd same so)
     have hs:=fun {r}=>EB (n:=24) (r:=r) (by decide) (fun f hf q hq=>Nat.lt_of_lt_of_le (hi f hf q hq) c24)
     have hl2:(sdsR (fs.filter (AS m cs))).length<=60:=by
      rw [DN]
      have:=List.length_filter_le (AS m cs) fs
      omega
     have r2:∀ r∈sdsR (fs.filter (AS m cs)),∃ a b:Int,r=[a,b]:=fun r hr=>by
      obtain ⟨f,a,b,_,_,_,rfl⟩:=JD hr
      exact ⟨_,_,rfl⟩
     unfold XF at lo hm hP'
     generalize sdsR (fs.filter (AS m cs))=A at *
     generalize sdsR (fs.filter fun f=>!AS m cs f)=B at *
     walk_at "g"
     refine And.intro (by rw [List.length_map];omega) ?_
     refine ⟨fun i rows=>rows=(A.take i).filter fun r=>decide (CL r∈B),rfl,?_,?_⟩
     · rintro i x rows e rfl
       obtain ⟨r,er,rfl⟩:=DK e
       have tf:=BS (p:=fun r=>decide (CL r∈B)) er
       have ll:((A.take i).filter fun r=>decide (CL r∈B)).length<=60:=by
        refine Nat.le_trans (List.length_filter_le ..) ?_
        rw [List.length_take]
        omega
       obtain ⟨a,b,rfl⟩:=r2 r (List.mem_of_getElem? er)
       generalize (A.take i).filter (fun r=>decide (CL r∈B))=rows at *
       walk_at "g"
       refine ⟨a,b,rfl,?_⟩
       walk_at "g"
       refine J1u (r:=[b,a]) (L:=B) ?_
       by_cases z:[b,a]∈B
       · refine IfP.t (by simp [z]) ?_
         walk_at "g"
         refine ⟨[a,b],rfl,by omega,?_⟩
         rw [tf,if_pos (decide_eq_true (show CL [a,b]∈B from z))]
       · refine IfP.f (by simp [z]) ?_
         rw [tf,if_neg (by simpa using (show CL [a,b]∉B from z)),List.append_nil]
     · rintro rows rfl
       rw [List.length_map,List.take_length]
       refine ⟨2,by decide,by omega,fun r hr=>hs (hm hr),fun rows' nd same so=>?_⟩
       exact hP' rows' nd same so
structure R3.sm (r:R3):Prop where
 x : -999999<=r.x/\r.x<=999999
 y : -999999<=r.y/\r.y<=999999
 z : -999999<=r.z/\r.z<=999999
structure F3i.ok (f:F3i)(n:Nat):Prop where
 i:f.i<n
 j:f.j<n
 k:f.k<n
 ij:f.i≠f.j
 jk:f.j≠f.k
 ki:f.k≠f.i
def cb (ex:List Int)(n:Nat):Nat:=(ex.filter fun z:Int=>decide (z<(n:Int))).length
theorem WC (ex:List Int)(n:Nat):cb ex n<=cb ex (n+1):=by
 induction ex with
 | nil=>exact Nat.le_refl _
 | cons z ex ih =>
   unfold cb at ih ⊢
   rw [List.filter_cons,List.filter_cons]
   by_cases h:z<(n:Int)
   · have h':z<((n+1:Nat):Int):=by omega
     simp only [h,h',decide_true,if_true,List.length_cons]
     omega
   · by_cases h':z<((n+1:Nat):Int)
     · simp only [h,h',decide_true,decide_false,if_true,Bool.false_eq_true,if_false,List.length_cons]
       omega
     · simp only [h,h',decide_false,Bool.false_eq_true,if_false]
       exact ih
theorem Q4s {ex:List Int}{n:Nat}(h:(n:Int)∈ex):cb ex n+1<=cb ex (n+1):=by
 induction ex with
 | nil=>cases h
 | cons z ex ih =>
   have mo:=WC ex n
   unfold cb at ih mo ⊢
   rw [List.filter_cons,List.filter_cons]
   by_cases e:z=(n:Int)
   · have h1:¬ z<(n:Int):=by omega
     have h2:z<((n+1:Nat):Int):=by omega
     simp only [h1,h2,decide_true,decide_false,if_true,Bool.false_eq_true,if_false,List.length_cons]
     omega
   · have ih:=ih ((List.mem_cons.mp h).resolve_left fun z=>e z.symm)
     by_cases h1:z<(n:Int)
     · have h2:z<((n+1:Nat):Int):=by omega
       simp only [h1,h2,decide_true,if_true,List.length_cons]
       omega
     · have h2:¬ z<((n+1:Nat):Int):=by omega
       simp only [h1,h2,decide_false,Bool.false_eq_true,if_false]
       exact ih
def Left (ex:List Int)(n:Nat)(acc:List D):Prop:=∃ ns:List Int,acc=ns.map D.int/\(∀ z∈ns,z∉ex/\0<=z/\z<n)/\n<=ns.length+cb ex n/\ns.length<=n
theorem Left.nil (ex:List Int):Left ex 0 []:=⟨[],rfl,by simp,Nat.zero_le _,Nat.le_refl _⟩
theorem Left.add {ex:List Int}{n:Nat}{acc:List D}(h:Left ex n acc)(ni:(n:Int)∉ex):Left ex (n+1) (acc++[.int n]):=by
 obtain ⟨ns,rfl,h1,h2,h3⟩:=h
 refine ⟨ns++[(n:Int)],by simp,fun z hz=>?_,?_,by simp;omega⟩
 · rcases List.mem_append.mp hz with q|q
   · have:=h1 z q
     exact ⟨this.1,this.2.1,by omega⟩
   · rw [List.mem_singleton.mp q]
     exact ⟨ni,by omega,by omega⟩
 · have:=WC ex n
   rw [List.length_append,List.length_singleton]
   omega
theorem Left.skip {ex:List Int}{n:Nat}{acc:List D}(h:Left ex n acc)(m:(n:Int)∈ex):Left ex (n+1) acc:=by
 obtain ⟨ns,rfl,h1,h2,h3⟩:=h
 have:=Q4s m
 exact ⟨ns,rfl,fun z hz=>⟨(h1 z hz).1,(h1 z hz).2.1,by have:=(h1 z hz).2.2;omega⟩,by omega,by omega⟩
theorem Left.len {ex:List Int}{n:Nat}{acc:List D}(h:Left ex n acc):n<=acc.length+ex.length:=by
 obtain ⟨ns,rfl,h1,h2,h3⟩:=h
 have:cb ex n<=ex.length:=List.length_filter_le ..
 rw [List.length_map]
 omega
theorem Left.mem {ex:List Int}{n:Nat}{acc:List D}(h:Left ex n acc){d:D}(m:d∈acc):∃ z:Nat,d=.int z/\(z:Int)∉ex/\z<n:=by
 obtain ⟨ns,rfl,h1,h2,h3⟩:=h
 obtain ⟨z,hz,rfl⟩:=List.mem_map.mp m
 obtain ⟨q1,q2,q3⟩:=h1 z hz
 exact ⟨z.toNat,by rw [Int.toNat_of_nonneg q2],by rw [Int.toNat_of_nonneg q2];exact q1,by omega⟩
theorem YU {a m:Int}(h0:0<=a)(h:a<2*m):(a<m/\a % m=a)\/(m<=a/\a % m=a - m):=by
 by_cases c:a<m
 · exact .inl ⟨c,Int.emod_eq_of_lt h0 c⟩
 · refine .inr ⟨by omega,?_⟩
   rw [show a % m=(a - m) % m by rw [Int.sub_emod,Int.emod_self,Int.sub_zero,Int.emod_emod]]
   exact Int.emod_eq_of_lt (by omega) (by omega)
abbrev BO:Stmt:=top 28
theorem JH:FnScope xl9 xl9 (J4 BO):=⟨rfl,rfl,rfl,by decide +kernel,rfl,by decide +kernel,by decide +kernel⟩
noncomputable def J7x:DSp:=fun ds P _=>ds=[.bag]/\∀ r:R3,r.sm->P r.d
abbrev J3w (P:Program) (w:World) (K:Fg) (mg:Str → Option Value) (base:Heap) (f:Addr) (cdv:Value) (A:Around) (outer:List Env) (s:Shared) (H:Hp) (E:XK):Cx:=Z8 CX0 P w K mg base xl9 "_law_corner" (J4 BO) f cdv A outer s H E
theorem JR {w:World} {f:Addr} (F:Fun K "_law_corner" "_law_corner" BO f fd) (Z:Bi mg) {c:Cs} (Y:Ex K mg base c) (zg0:Callee P w K mg base CX0 "_law_digit" 1 xl2 (Q4 K BT DC)):FnOk P w K mg base CX0 2 f fd xl9 (Q4 K BT J7x):=by
 refine F.okD JH (fun ds PP Ed h=>?_) (fun cdv A outer s H E M bg ds PP Ed hr hS_=>?_)
 · obtain ⟨rfl,hP⟩:=h
   rfl
 · obtain ⟨rfl,hP⟩:=hS_
   refine ⟨_,(J5 (BM (Z1 FY DJ (Q5 zg0 hr.m rfl (J0 (jdv 0) (J0 J1 J3))) J1 (Z5 _)) (J9 (V4 (J7 (J0 (Q5 zg0 hr.m rfl (J0 (jdv 0) (J0 J1 J3))) (J0 (Q5 zg0 hr.m rfl (J0 (jdv 0) (J0 J1 J3))) (J0 (Q5 zg0 hr.m rfl (J0 (jdv 0) (J0 J1 J3))) J3)))))) AB)
    (J9 (V4 (AM (Z6 K (by rfl)) DV rfl Z.tuple_ DX (J0 (AC (X:=(J3w P w K mg base f cdv A outer s H E).nox) (V1 0) (EO (X:=(J3w P w K mg base f cdv A outer s H E).nox) (N':=IG) (map:=[none,some 0]) (by rfl) (by rfl) (by decide +kernel) (by rfl) ⟨⟨rfl,rfl,rfl,by walk_at "o"⟩,True.intro⟩ (gkeep_name rfl) fun cl0 C0 fp0 s0 H0=>⟨(pg_name (X:=(J6 (J3w P w K mg base f cdv A outer s H E).nox IG _ cl0 C0 fp0 s0 H0)) (i:=0) (V9 IG (by decide +kernel)) rfl (by walk_at "o")),Y7,(V0 (X:=(J6 (J3w P w K mg base f cdv A outer s H E).nox IG _ cl0 C0 fp0 s0 H0)) EX BV (Q5 zg0 hr.m rfl (J0 (jdv 1) (J0 J1 J3))) J1)⟩) (Y8 rfl Z.range_ (J0 J1 J3))) J3))))),?_⟩
   walk_at "g"
   refine ⟨_,64,rfl,by decide,Bd.num _ (by decide),by decide,fun q q0 q1=>?_⟩
   walk_at "g"
   walk_at "sp"
   · walk_at "g"
     refine ⟨_,64,rfl,by decide,Bd.num _ (by decide),by decide,fun a a0 a1=>?_⟩
     walk_at "g"
     refine ⟨_,64,rfl,by decide,Bd.num _ (by decide),by decide,fun b b0 b1=>?_⟩
     walk_at "g"
     refine ⟨_,64,rfl,by decide,Bd.num _ (by decide),by decide,fun c c0 c1=>?_⟩
     walk_at "g"
     exact hP ⟨a,b,c⟩ ⟨⟨by dsimp only;omega,by dsimp only;omega⟩,⟨by dsimp only;omega,by dsimp only;omega⟩,⟨by dsimp only;omega,by dsimp only;omega⟩⟩
   · walk_at "g"
     walk_at "gc"
     refine ⟨_,64,rfl,by decide,Bd.num _ (by decide),by decide,fun a a0 a1=>?_⟩
     walk_at "g"
     refine ⟨_,64,rfl,by decide,Bd.num _ (by decide),by decide,fun b b0 b1=>?_⟩
     walk_at "g"
     refine ⟨_,64,rfl,by decide,Bd.num _ (by decide),by decide,fun c c0 c1=>?_⟩
     walk_at "g"
     exact hP ⟨a - 999999,b - 999999,c - 999999⟩ ⟨⟨by dsimp only;omega,by dsimp only;omega⟩,⟨by dsimp only;omega,by dsimp only;omega⟩,⟨by dsimp only;omega,by dsimp only;omega⟩⟩
abbrev CZ:Stmt:=top 29
theorem CB:FnScope ["_law_bag_here","_law_many","_law_i","_law_j","_law_k"] xl2 (J4 CZ):=⟨rfl,rfl,rfl,by decide +kernel,rfl,by decide +kernel,by decide +kernel⟩
noncomputable def J7z:DSp:=fun ds P _=>∃ m:Nat,ds=[.bag,.int m]/\3<=m/\m<=24/\∀ f:F3i,f.ok m->P f.d
abbrev J3v (P:Program) (w:World) (K:Fg) (mg:Str → Option Value) (base:Heap) (f:Addr) (cdv:Value) (A:Around) (outer:List Env) (s:Shared) (H:Hp) (E:XK):Cx:=Z8 CX0 P w K mg base ["_law_bag_here","_law_many","_law_i","_law_j","_law_k"] "_law_face" (J4 CZ) f cdv A outer s H E
abbrev J3t:List Str:=["_law_one","_law_i","_law_j"]
theorem OD {w:World} {f:Addr} (F:Fun K "_law_face" "_law_face" CZ f fd) (Z:Bi mg) {c:Cs} (Y:Ex K mg base c) (zg0:Callee P w K mg base CX0 "_law_digit" 1 xl2 (Q4 K BT DC)):FnOk P w K mg base CX0 2 f fd xl2 (Q4 K BT J7z):=by
 refine F.okD CB (fun ds PP Ed h=>?_) (fun cdv A outer s H E M bg ds PP Ed hr hS_=>?_)
 · obtain ⟨m,rfl,m3,m24,hP⟩:=h
   rfl
 · obtain ⟨m,rfl,m3,m24,hP⟩:=hS_
   refine ⟨_,(J5 (V5 (i:=2) CB.nd rfl (by walk_at "o") (Q5 zg0 hr.m rfl (J0 (jdv 0) (J0 (jdv 1) J3))))
    (J5 (V5 (i:=3) CB.nd rfl (by walk_at "o") (V0 EE EY (V0 CP BV (V0 CP BV (jdv 2) J1) (Q5 zg0 hr.m rfl (J0 (jdv 0) (J0 (V0 EX BV (jdv 1) J1) J3)))) (jdv 1)))
    (J5 (V5 (i:=4) CB.nd rfl (by walk_at "o") (Q8 (Q9 K (by rfl)) V8 (AC (X:=(J3v P w K mg base f cdv A outer s H E).nox) (V1 0) (EO (X:=(J3v P w K mg base f cdv A outer s H E).nox) (N':=J3t) (map:=[none,some 2,some 3]) (by rfl) (by rfl) (by decide +kernel) (by rfl) ⟨⟨rfl,rfl,rfl,by walk_at "o"⟩,⟨⟨rfl,rfl,rfl,by walk_at "o"⟩,True.intro⟩⟩ (gkeep_name rfl) fun cl0 C0 fp0 s0 H0=>⟨(pg_name (X:=(J6 (J3v P w K mg base f cdv A outer s H E).nox J3t _ cl0 C0 fp0 s0 H0)) (i:=0) (V9 J3t (by decide +kernel)) rfl (by walk_at "o")),(FE (Z1 (HK K (by rfl) hr.units) OF (jdv 0) (J7 (J0 (jdv 1) (J0 (jdv 2) J3))) (by with_unfolding_all rfl))),(jdv (X:=(J6 (J3v P w K mg base f cdv A outer s H E).nox J3t _ cl0 C0 fp0 s0 H0)) 0)⟩) (Y8 rfl Z.range_ (J0 (jdv 1) J3))) (Q5 zg0 hr.m rfl (J0 (jdv 0) (J0 (V0 EX BV (jdv 1) J1) J3))) (fun _ _=>rfl)))
    (J9 (V4 (J7 (J0 (jdv 2) (J0 (jdv 3) (J0 (jdv 4) J3))))))))),?_⟩
   have bm:Bd 64 (m:Int):=Bd.of (by omega) (by omega)
   walk_at "g"
   refine ⟨(m:Int),64,rfl,by omega,bm,by decide,fun i i0 i1=>?_⟩
   walk_at "g"
   refine ⟨(m:Int) - 1,64,rfl,by omega,Bd.of (by omega) (by omega),by decide,fun j j0 j1=>?_⟩
   have wr:=YU (a:=i+1+j) (m:=m) (by omega) (by omega)
   have bi:Bd 64 (i+1+j):=Bd.of (by omega) (by omega)
   walk_at "g"
   refine And.intro (show (0:Int)<m by omega) ?_
   walk_at "g"
   obtain ⟨jn,ej,jm,jne⟩:∃ jn:Nat,(i+1+j) % (m:Int)=jn/\jn<m/\(jn:Int)≠i:=by
    rcases wr with ⟨w1,w2⟩|⟨w1,w2⟩
    · exact ⟨(i+1+j).toNat,by omega,by omega,by omega⟩
    · exact ⟨(i+1+j - m).toNat,by omega,by omega,by omega⟩
   rw [ej]
   obtain ⟨iN,rfl⟩:∃ iN:Nat,i=iN:=⟨i.toNat,by omega⟩
   clear wr bi
   refine And.intro ⟨by omega,by omega⟩ ?_
   refine And.intro (by rw [rangeD_len];omega) ?_
   refine ⟨fun n acc=>Left [(iN:Int),(jn:Int)] n acc,Left.nil _,?_,?_⟩
   · rintro n x acc e hI
     obtain ⟨rfl,hn⟩:=BK e
     clear e
     rw [Int.zero_add]
     walk_at "g"
     refine KI (ns:=[(iN:Int),(jn:Int)]) (.inl rfl) ?_
     walk_at "g"
     by_cases z:(n:Int)∈[(iN:Int),(jn:Int)]
     · refine IfP.f (by simp [z]) ?_
       exact hI.skip z
     · refine IfP.t (by simp [z]) ?_
       walk_at "g"
       exact hI.add z
   · rintro acc hI
     rw [rangeD_len,Int.toNat_natCast] at hI
     have hl:=hI.len
     have hl:m<=acc.length+2:=hl
     walk_at "g"
     refine ⟨(m:Int) - 2,64,rfl,by omega,Bd.of (by omega) (by omega),by decide,fun k k0 k1=>?_⟩
     walk_at "g"
     refine ixm k0 (by omega) fun d md=>?_
     obtain ⟨kn,rfl,k2,k3⟩:=hI.mem md
     simp only [List.mem_cons,List.not_mem_nil,or_false,not_or] at k2
     walk_at "g"
     exact hP ⟨iN,jn,kn⟩ ⟨by dsimp only;omega,jm,k3,by dsimp only;omega,by dsimp only;omega,by dsimp only;omega⟩
theorem J3o:∀ {acc:List D},(∀ y∈acc,∃ t:R3,t.sm/\y=t.d)->∃ ts:List R3,acc=ts.map R3.d/\∀ t∈ts,t.sm
 | [],_=>⟨[],rfl,by simp⟩
 | y::r,h=>by
   obtain ⟨t,ht,rfl⟩:=h y (by simp)
   obtain ⟨ts,rfl,hts⟩:=J3o (acc:=r) fun y' h'=>h y' (List.mem_cons_of_mem _ h')
   exact ⟨t::ts,rfl,fun t' h'=>by
    rcases List.mem_cons.mp h' with rfl|q
    · exact ht
    · exact hts t' q⟩
abbrev bdD (cs:List R3)(fs:List F3i):D:=.tup [.lst (cs.map R3.d),.lst (fs.map F3i.d)]
def Shape (fs:List F3i):Prop:=(∃ i j k t:Nat,[i,j,k,t].Nodup/\fs=[⟨i,k,j⟩,⟨i,j,t⟩,⟨j,k,t⟩,⟨k,i,t⟩])\/∃ i j k t l:Nat,[i,j,k,t,l].Nodup/\fs=[⟨i,j,t⟩,⟨j,k,t⟩,⟨k,i,t⟩,⟨j,i,l⟩,⟨k,j,l⟩,⟨i,k,l⟩]
structure ClB (cs:List R3)(fs:List F3i):Prop where
 l5:5<=cs.length
 l12:cs.length<=12
 sm:∀ r∈cs,r.sm
 ok:∀ f∈fs,f.ok cs.length
 sh:Shape fs
theorem Shape.closed {fs:List F3i}(h:Shape fs):BR fs:=by
 rcases h with ⟨i,j,k,t,_,rfl⟩|⟨i,j,k,t,l,_,rfl⟩
 · exact SD i j k t
 · exact UF i j k t l
theorem Shape.len {fs:List F3i}(h:Shape fs):fs.length<=6:=by
 rcases h with ⟨i,j,k,t,_,rfl⟩|⟨i,j,k,t,l,_,rfl⟩<;>simp
theorem VE (vs:List Nat)(nd:vs.Nodup)(L:List (Nat×Nat))(hL:L.Nodup)(hb:∀ p∈L,p.1<vs.length/\p.2<vs.length){fs:List F3i}(e:sdsR fs=L.map fun p=>[((vs.getD p.1 0:Nat):Int),((vs.getD p.2 0:Nat):Int)]):ML fs:=by
 have inj:∀ {n m:Nat},n<vs.length->m<vs.length->vs.getD n 0=vs.getD m 0->n=m:=fun hn hm z=>by
  rw [List.getD_eq_getElem?_getD,List.getD_eq_getElem?_getD,List.getElem?_eq_getElem hn,List.getElem?_eq_getElem hm] at z
  exact (List.getElem_inj nd).mp z
 have:(sdsR fs).Nodup:=by
  rw [e]
  unfold List.Nodup
  rw [List.pairwise_map]
  refine List.Pairwise.imp_of_mem (fun {a b} ha hb' z y=>?_) hL
  have a1:=hb a ha
  have b1':=hb b hb'
  simp only [List.cons.injEq,and_true] at y
  exact z (Prod.ext (inj a1.1 b1'.1 (by omega)) (inj a1.2 b1'.2 (by omega)))
 intro r
 rw [this.count]
 split<;>omega
theorem Shape.once {fs:List F3i}(h:Shape fs):ML fs:=by
 rcases h with ⟨i,j,k,t,nd,rfl⟩|⟨i,j,k,t,l,nd,rfl⟩
 · exact VE [i,j,k,t] nd [(0,2),(2,1),(1,0),(0,1),(1,3),(3,0),(1,2),(2,3),(3,1),(2,0),(0,3),(3,2)] (by decide) (by simp) rfl
 · exact VE [i,j,k,t,l] nd [(0,1),(1,3),(3,0),(1,2),(2,3),(3,1),(2,0),(0,3),(3,2),(1,0),(0,4),(4,1),(2,1),(1,4),(4,2),(0,2),(2,4),(4,0)] (by decide) (by simp) rfl
theorem XL {ex:List Int}{n:Nat}{acc:List D}(h:Left ex n acc)(k:acc.Nodup):(acc++[D.int n]).Nodup:=by
 rw [List.nodup_append]
 refine ⟨k,by simp,fun a ha b hb e=>?_⟩
 rw [List.mem_singleton.mp hb] at e
 obtain ⟨z,rfl,_,h2⟩:=h.mem ha
 have e:=D.int.inj e
 omega
abbrev BP:Stmt:=top 32
abbrev Q2f:List Str:=["_law_bag_here","_law_many","_law_corners","_law_i","_law_j","_law_k","_law_left","_law_top","_law_last","_law_faces"]
theorem Q7:FnScope Q2f xl9 (J4 BP):=⟨rfl,rfl,rfl,by decide +kernel,rfl,by decide +kernel,by decide +kernel⟩
noncomputable def J7y:DSp:=fun ds P _=>ds=[.bag]/\∀ cs fs,ClB cs fs->P (bdD cs fs)
abbrev PU (P:Program) (w:World) (K:Fg) (mg:Str → Option Value) (base:Heap) (f:Addr) (cdv:Value) (A:Around) (outer:List Env) (s:Shared) (H:Hp) (E:XK):Cx:=Z8 CX0 P w K mg base Q2f "_law_closed" (J4 BP) f cdv A outer s H E
abbrev J3s:List Str:=["_law_one","_law_i","_law_j","_law_k"]
theorem JU {w:World} {f:Addr} (F:Fun K "_law_closed" "_law_closed" BP f fd) (Z:Bi mg) {c:Cs} (Y:Ex K mg base c) (zg0:Callee P w K mg base CX0 "_law_face" 2 xl2 (Q4 K BT J7z)) (zg1:Callee P w K mg base CX0 "_law_digit" 1 xl2 (Q4 K BT DC)) (zg2:Callee P w K mg base CX0 "_law_corner" 2 xl9 (Q4 K BT J7x)):FnOk P w K mg base CX0 3 f fd xl9 (Q4 K BT J7y):=by
 refine F.okD Q7 (fun ds PP Ed h=>?_) (fun cdv A outer s H E M bg ds PP Ed hr hS_=>?_)
 · obtain ⟨rfl,hP⟩:=h
   rfl
 · obtain ⟨rfl,hP⟩:=hS_
   refine ⟨_,(J5 (V5 (i:=1) Q7.nd rfl (by walk_at "o") (V0 CP BV J1 (Q5 zg1 hr.m rfl (J0 (jdv 0) (J0 J1 J3)))))
    (J5 (KC (X:=(PU P w K mg base f cdv A outer s H E).nox) false (i:=2) Q7.nd rfl (by walk_at "o") (V1 0) (EO (X:=(PU P w K mg base f cdv A outer s H E).nox) (N':=IG) (map:=[none,some 0]) (by rfl) (by rfl) (by decide +kernel) (by rfl) ⟨⟨rfl,rfl,rfl,by walk_at "o"⟩,True.intro⟩ (gkeep_name rfl) fun cl0 C0 fp0 s0 H0=>⟨(pg_name (X:=(J6 (PU P w K mg base f cdv A outer s H E).nox IG _ cl0 C0 fp0 s0 H0)) (i:=0) (V9 IG (by decide +kernel)) rfl (by walk_at "o")),Y7,(Q5 (X:=(J6 (PU P w K mg base f cdv A outer s H E).nox IG _ cl0 C0 fp0 s0 H0)) zg2 hr.m rfl (J0 (jdv 1) J3))⟩) (Y8 rfl Z.range_ (J0 (jdv 1) J3)))
    (J5 (FQ (EH [3,4,5]) (Q5 zg0 hr.m rfl (J0 (jdv 0) (J0 (jdv 1) J3))) (PG.or (CI (n:=3) K (by rfl) (by rfl) (J8 (pg_name (i:=3) Q7.nd rfl (by walk_at "o")) (J8 (pg_name (i:=4) Q7.nd rfl (by walk_at "o")) (J8 (pg_name (i:=5) Q7.nd rfl (by walk_at "o")) Y9)))) (CJ (n:=3) K (by rfl) (by rfl) (J8 (pg_name (i:=3) Q7.nd rfl (by walk_at "o")) (J8 (pg_name (i:=4) Q7.nd rfl (by walk_at "o")) (J8 (pg_name (i:=5) Q7.nd rfl (by walk_at "o")) Y9))))))
    (J5 (KC (X:=(PU P w K mg base f cdv A outer s H E).nox) true (i:=6) Q7.nd rfl (by walk_at "o") (V1 0) (EO (X:=(PU P w K mg base f cdv A outer s H E).nox) (N':=J3s) (map:=[none,some 3,some 4,some 5]) (by rfl) (by rfl) (by decide +kernel) (by rfl) ⟨⟨rfl,rfl,rfl,by walk_at "o"⟩,⟨⟨rfl,rfl,rfl,by walk_at "o"⟩,⟨⟨rfl,rfl,rfl,by walk_at "o"⟩,True.intro⟩⟩⟩ (gkeep_name rfl) fun cl0 C0 fp0 s0 H0=>⟨(pg_name (X:=(J6 (PU P w K mg base f cdv A outer s H E).nox J3s _ cl0 C0 fp0 s0 H0)) (i:=0) (V9 J3s (by decide +kernel)) rfl (by walk_at "o")),(FE (Z1 (HK K (by rfl) hr.units) OF (jdv 0) (J7 (J0 (jdv 1) (J0 (jdv 2) (J0 (jdv 3) J3)))) (by with_unfolding_all rfl))),(jdv (X:=(J6 (PU P w K mg base f cdv A outer s H E).nox J3s _ cl0 C0 fp0 s0 H0)) 0)⟩) (Y8 rfl Z.range_ (J0 (jdv 1) J3)))
    (J5 (J1h (i:=6) (j:=7) (by rfl) Q7.nd rfl (by walk_at "o") (J0 (Q5 zg1 hr.m rfl (J0 (jdv 0) (J0 (Y0 (Y2 K (by rfl)) FI rfl Z.len_ EJ (J0 (jdv 6) J3)) J3))) J3) (VC PySem.F.plainAttrs_list PySem.F.slot_list_pop PySem.F.type_list_pop J0v (pv 6) (JA.h (J0 (Q5 zg1 hr.m rfl (J0 (jdv 0) (J0 (Y0 (Y2 K (by rfl)) FI rfl Z.len_ EJ (J0 (jdv 6) J3)) J3))) J3))))
    (J5 (V5 (i:=8) Q7.nd rfl (by walk_at "o") (Q8 (Q9 K (by rfl)) V8 (jdv 6) (Q5 zg1 hr.m rfl (J0 (jdv 0) (J0 (Y0 (Y2 K (by rfl)) FI rfl Z.len_ EJ (J0 (jdv 6) J3)) J3))) (fun _ _=>rfl)))
    (J5 (V5 (i:=9) Q7.nd rfl (by walk_at "o") (BQ (J0 (J7 (J0 (jdv 3) (J0 (jdv 5) (J0 (jdv 4) J3)))) (J0 (J7 (J0 (jdv 3) (J0 (jdv 4) (J0 (jdv 7) J3)))) (J0 (J7 (J0 (jdv 4) (J0 (jdv 5) (J0 (jdv 7) J3)))) (J0 (J7 (J0 (jdv 5) (J0 (jdv 3) (J0 (jdv 7) J3)))) J3))))))
    (J5 (BM (Z1 FY DJ (Q5 zg1 hr.m rfl (J0 (jdv 0) (J0 J1 J3))) J1 (Z5 _)) (J9 (V5 (i:=9) Q7.nd rfl (by walk_at "o") (V0 J9h J9m (XZ (J8p K (by rfl)) (jdv 9) (J1i J1) J1j) (BQ (J0 (J7 (J0 (jdv 4) (J0 (jdv 3) (J0 (jdv 8) J3)))) (J0 (J7 (J0 (jdv 5) (J0 (jdv 4) (J0 (jdv 8) J3)))) (J0 (J7 (J0 (jdv 3) (J0 (jdv 5) (J0 (jdv 8) J3)))) J3))))))) AB)
    (J9 (V4 (J7 (J0 (jdv 2) (J0 (jdv 9) J3))))))))))))),?_⟩
   walk_at "g"
   refine ⟨_,64,rfl,by decide,Bd.num _ (by decide),by decide,fun mm mm0 mm1=>?_⟩
   walk_at "g"
   obtain ⟨many,em,m5,m12⟩:∃ many:Nat,5+mm=many/\5<=many/\many<=12:=⟨(5+mm).toNat,by omega,by omega,by omega⟩
   rw [em]
   clear em mm0 mm1
   refine And.intro ⟨by omega,by omega⟩ ?_
   refine And.intro (by rw [rangeD_len];omega) ?_
   refine KR (fun _ y=>∃ t:R3,t.sm/\y=t.d) (fun k y Q e hQ=>?_) (fun k y ⟨t,_,h⟩=>by rw [h];rfl) (fun acc hla ha=>?_)
   · walk_at "g"
     exact fun r hr=>hQ _ ⟨r,hr,rfl⟩
   obtain ⟨cs,rfl,hcs⟩:=J3o (acc:=acc) (fun y hy=>by obtain ⟨k,ek⟩:=List.getElem?_of_mem hy;exact ha k y ek)
   rw [List.length_map,rangeD_len] at hla
   have hla:cs.length=many:=by omega
   clear ha
   walk_at "g"
   refine ⟨many,rfl,by omega,by omega,fun f fo=>?_⟩
   walk_at "g"
   refine And.intro ⟨by omega,by omega⟩ ?_
   refine And.intro (by rw [rangeD_len];omega) ?_
   have fi:=fo.i
   have fj:=fo.j
   have fk:=fo.k
   have fij:=fo.ij
   have fjk:=fo.jk
   have fki:=fo.ki
   refine ⟨fun n acc=>Left [(f.i:Int),(f.j:Int),(f.k:Int)] n acc/\acc.Nodup,⟨Left.nil _,List.nodup_nil⟩,?_,?_⟩
   · rintro n x acc e ⟨hI,hN⟩
     obtain ⟨rfl,hn⟩:=BK e
     clear e
     rw [Int.zero_add]
     walk_at "g"
     refine KI (ns:=[(f.i:Int),(f.j:Int),(f.k:Int)]) (.inl rfl) ?_
     walk_at "g"
     by_cases z:(n:Int)∈[(f.i:Int),(f.j:Int),(f.k:Int)]
     · refine IfP.f (by simp [z]) ?_
       exact ⟨hI.skip z,hN⟩
     · refine IfP.t (by simp [z]) ?_
       walk_at "g"
       exact ⟨hI.add z,XL hI hN⟩
   · rintro acc ⟨hI,hN⟩
     rw [rangeD_len,Int.toNat_natCast] at hI
     have hl:many<=acc.length+3:=hI.len
     have hl2:acc.length<=many:=by
      obtain ⟨ns,rfl,_,_,h⟩:=hI
      rw [List.length_map];exact h
     have hmem:∀ d∈acc,∃ t:Nat,d=.int t/\t<many/\t≠f.i/\t≠f.j/\t≠f.k:=fun d hd=>by
      obtain ⟨t,rfl,h1,h2⟩:=hI.mem hd
      simp only [List.mem_cons,List.not_mem_nil,or_false,not_or] at h1
      exact ⟨t,rfl,h2,by omega,by omega,by omega⟩
     clear hI
     walk_at "g"
     refine ⟨(acc.length:Int),64,rfl,by omega,Bd.of (by omega) (by omega),by decide,fun u u0 u1=>?_⟩
     have hu:u.toNat<acc.length:=by omega
     walk_at "g"
     refine And.intro ⟨u0,u1,by omega⟩ ?_
     rw [List.getElem?_eq_getElem hu]
     obtain ⟨t,et,t1,t2,t3,t4⟩:=hmem _ (List.getElem_mem hu)
     rw [et]
     have hnt:∀ d∈acc.eraseIdx u.toNat,d≠.int t:=fun d hd e=>by
      obtain ⟨i,h,ni,ei⟩:=List.mem_eraseIdx_iff_getElem.mp hd
      exact ni ((List.getElem_inj hN).mp (ei.trans (e.trans et.symm)))
     have hme:∀ d∈acc.eraseIdx u.toNat,d∈acc:=fun d hd=>(List.eraseIdx_sublist acc u.toNat).mem hd
     have hle:(acc.eraseIdx u.toNat).length=acc.length - 1:=List.length_eraseIdx_of_lt hu
     generalize acc.eraseIdx u.toNat=acc2 at *
     walk_at "g"
     refine ⟨(acc2.length:Int),64,rfl,by omega,Bd.of (by omega) (by omega),by decide,fun v v0 v1=>?_⟩
     walk_at "g"
     refine ixm v0 v1 fun d md=>?_
     obtain ⟨l,rfl,l1,l2,l3,l4⟩:=hmem d (hme d md)
     have ltn:l≠t:=fun e=>hnt _ md (by rw [e])
     walk_at "g"
     refine ⟨_,64,rfl,by decide,Bd.num _ (by decide),by decide,fun b b0 b1=>?_⟩
     walk_at "g"
     by_cases z:b=1
     · refine IfP.t (by simp [z]) ?_
       walk_at "g"
       refine hP cs [⟨f.i,f.j,t⟩,⟨f.j,f.k,t⟩,⟨f.k,f.i,t⟩,⟨f.j,f.i,l⟩,⟨f.k,f.j,l⟩,⟨f.i,f.k,l⟩] ⟨by omega,by omega,hcs,fun g hg=>?_,.inr ⟨f.i,f.j,f.k,t,l,by simp;omega,rfl⟩⟩
       simp only [List.mem_cons,List.not_mem_nil,or_false] at hg
       rcases hg with rfl|rfl|rfl|rfl|rfl|rfl<;>(constructor<;>dsimp only<;>omega)
     · refine IfP.f (by simp [z]) ?_
       walk_at "g"
       refine hP cs [⟨f.i,f.k,f.j⟩,⟨f.i,f.j,t⟩,⟨f.j,f.k,t⟩,⟨f.k,f.i,t⟩] ⟨by omega,by omega,hcs,fun g hg=>?_,.inl ⟨f.i,f.j,f.k,t,by simp;omega,rfl⟩⟩
       simp only [List.mem_cons,List.not_mem_nil,or_false] at hg
       rcases hg with rfl|rfl|rfl|rfl<;>(constructor<;>dsimp only<;>omega)
abbrev EA:Stmt:=top 34
theorem BN:FnScope ["_law_bag_here","_law_found","_law_step"] xl9 (J4 EA):=⟨rfl,rfl,rfl,by decide +kernel,rfl,by decide +kernel,by decide +kernel⟩
noncomputable def Q4x:DSp:=fun ds P _=>ds=[.bag]/\∀ m:M4,Aff m 135->P m.d
theorem LL {w:World} {f:Addr} (F:Fun K "_law_plain" "_law_plain" EA f fd) (Z:Bi mg) {c:Cs} (Y:Ex K mg base c) (zg0:Callee P w K mg base CX0 "_law_times" 1 xl5 (Q4 K BT WJ)) (zg1:Callee P w K mg base CX0 "_law_digit" 1 xl2 (Q4 K BT DC)) (zg2:Callee P w K mg base CX0 "_law_plain_move" 3 xl9 (Q4 K BT WK)):FnOk P w K mg base CX0 4 f fd xl9 (Q4 K BT Q4x):=by
 refine F.okD BN (fun ds PP Ed h=>?_) (fun cdv A outer s H E M bg ds PP Ed hr hS_=>?_)
 · obtain ⟨rfl,hP⟩:=h
   rfl
 · obtain ⟨rfl,hP⟩:=hS_
   refine ⟨_,(J5 (V5 (i:=1) BN.nd rfl (by walk_at "o") (J7 (J0 (J7 (J0 J1 (J0 J1 (J0 J1 (J0 J1 J3))))) (J0 (J7 (J0 J1 (J0 J1 (J0 J1 (J0 J1 J3))))) (J0 (J7 (J0 J1 (J0 J1 (J0 J1 (J0 J1 J3))))) (J0 (J7 (J0 J1 (J0 J1 (J0 J1 (J0 J1 J3))))) J3))))))
    (J5 (CK (V1 2) PassesOwn.never rfl (Y8 rfl Z.range_ (J0 (V0 CP BV J1 (Q5 zg1 hr.m rfl (J0 (jdv 0) (J0 J1 J3)))) J3)) (pg_name (i:=2) BN.nd rfl (by walk_at "o")) (J9 (V5 (i:=1) BN.nd rfl (by walk_at "o") (Q5 zg0 hr.m rfl (J0 (Q5 zg2 hr.m rfl (J0 (jdv 0) J3)) (J0 (jdv 1) J3))))))
    (J9 (V4 (jdv 1))))),?_⟩
   walk_at "g"
   refine ⟨_,64,rfl,by decide,Bd.num _ (by decide),by decide,fun n n0 n1=>?_⟩
   walk_at "g"
   refine And.intro ⟨by omega,by omega⟩ ?_
   refine ⟨fun i ρ=>∃ (m:M4) (v2:Option D),ρ=[some .bag,some m.d,v2]/\Aff m (3+44*i),⟨idM,_,rfl,Q1u⟩,?_,?_⟩
   · rintro i x ρ e ⟨m,v2,rfl,mA⟩
     obtain ⟨rfl,hi⟩:=BK e
     have hi3:i<3:=by omega
     clear e
     walk_at "g"
     intro p pA
     walk_at "g"
     refine ⟨p,m,41,3+44*i,rfl,pA.ok,mA.ok,by omega,?_⟩
     walk_at "g"
     exact ⟨_,_,rfl,(by have:=pA.mul mA;rwa [show 41+(3+44*i)+3=3+44*(i+1) by omega] at this)⟩
   · rintro ρ ⟨m,v2,rfl,mA⟩
     walk_at "g"
     refine hP m ⟨mA.ok.mono ?_,mA.e⟩
     rw [rangeD_len]
     omega
def bgn (c:Int):List Int->Bool
 | [a,_]=>decide (a=c)
 | _=>false
def edn (c:Int):List Int->Bool
 | [_,b]=>decide (b=c)
 | _=>false
theorem J3e (c:Int)(L:List (List Int)):(L.map CL).countP (bgn c)=L.countP (edn c):=by
 rw [List.countP_map]
 refine List.countP_congr fun r _=>?_
 match r with
 | []=>exact Iff.rfl
 | [_]=>exact Iff.rfl
 | [_,_]=>exact Iff.rfl
 | _::_::_::_=>exact Iff.rfl
theorem MF (c:Int):∀ fs:List F3i,(sdsR fs).countP (bgn c)=(sdsR fs).countP (edn c)
 | []=>rfl
 | f::fs=>by
   have ih:=MF c fs
   rw [GS,List.countP_append,List.countP_append,ih]
   unfold sdR
   simp only [List.countP_cons,List.countP_nil,bgn,edn,decide_eq_true_eq]
   omega
theorem KA {fs:List F3i}{rows:List (List Int)}(h:Lack fs rows)(c:Int):(rows.filter (bgn c)).length=(rows.filter (edn c)).length:=by
 have p:(rows++(sdsR fs).map CL).Perm (rows.map CL++sdsR fs):=List.perm_iff_count.mpr fun r=>by
  rw [List.count_append,List.count_append,BC,BC,h.cnt,h.cnt]
  unfold CQ
  rw [FU]
  omega
 have e:=p.countP_eq (bgn c)
 rw [List.countP_append,List.countP_append,J3e,J3e,MF] at e
 rw [<- List.countP_eq_length_filter,<- List.countP_eq_length_filter]
 omega
theorem RK {p:F3i->Bool}{fs:List F3i}(cl:BR fs){rows:List (List Int)}(h:Lack ((fs.filter fun f=>!p f).map F3i.flip) rows):Lack (fs.filter p) rows:=⟨h.srt,fun r=>by
 rw [h.cnt]
 unfold CQ
 rw [(ET _).count_eq,(ET _).count_eq,BC,BC,FU]
 have e1:=ES p r fs
 have e2:=ES p (CL r) fs
 have e3:=cl r
 omega⟩
theorem XI {fs:List F3i}(h:ML fs):ML (fs.map F3i.flip):=fun r=>by
 rw [(ET fs).count_eq,BC]
 exact h _
theorem J4a (m:M4)(cs:List R3)(f:F3i):(tM m cs f.flip).tn = -(tM m cs f).tn:=QA _ _ _
theorem UC {m:M4}{cs:List R3}{fs:List F3i}(h:∀ f∈fs,(tM m cs f).tn≠0):(fs.map F3i.flip).filter (AS m cs)=(fs.filter fun f=>!AS m cs f).map F3i.flip:=by
 rw [List.filter_map]
 congr 1
 refine List.filter_congr fun f hf=>?_
 have:=h f hf
 show AS m cs f.flip = !AS m cs f
 unfold AS
 rw [J4a]
 by_cases z:0<(tM m cs f).tn
 · rw [decide_eq_true z,decide_eq_false (by omega)];rfl
 · rw [decide_eq_false z,decide_eq_true (by omega)];rfl
abbrev AE:Stmt:=top 33
theorem AY:FnScope ["_law_found","_law_many","_law_corner_here","_law_begun"] ["_law_found","_law_many"] (J4 AE):=⟨rfl,rfl,rfl,by decide +kernel,rfl,by decide +kernel,by decide +kernel⟩
noncomputable def Q4z:DSp:=fun ds P _=>∃ (rows:List (List Int)) (n:Nat),ds=[.lst (rows.map Y4),.int n]/\n<=24/\rows.length<=60/\(∀ r∈rows,∃ a b,r=[a,b])/\(∀ c,(rows.filter (bgn c)).length=(rows.filter (edn c)).length)/\P (.bl true)
abbrev PR (P:Program) (w:World) (K:Fg) (mg:Str → Option Value) (base:Heap) (f:Addr) (cdv:Value) (A:Around) (outer:List Env) (s:Shared) (H:Hp) (E:XK):Cx:=Z8 CX0 P w K mg base ["_law_found","_law_many","_law_corner_here","_law_begun"] "_law_goes_round" (J4 AE) f cdv A outer s H E
abbrev PM:List Str:=["_law_one","_law_corner_here"]
theorem GI {w:World} {f:Addr} (F:Fun K "_law_goes_round" "_law_goes_round" AE f fd) (Z:Bi mg) {c:Cs} (Y:Ex K mg base c):FnOk P w K mg base CX0 1 f fd ["_law_found","_law_many"] (Q4 K BT Q4z):=by
 refine F.okD AY (fun ds PP Ed h=>?_) (fun cdv A outer s H E M bg ds PP Ed hr hS_=>?_)
 · obtain ⟨rows,n,rfl,hn,hl,h2,hg,hP⟩:=h
   rfl
 · obtain ⟨rows,n,rfl,hn,hl,h2,hg,hP⟩:=hS_
   refine ⟨_,(J5 (CK (V1 2) PassesOwn.never rfl (Y8 rfl Z.range_ (J0 (jdv 1) J3)) (pg_name (i:=2) AY.nd rfl (by walk_at "o")) (J5 (V5 (i:=3) AY.nd rfl (by walk_at "o") (Y0 (Y2 K (by rfl)) FI rfl Z.len_ EJ (J0 (AC (X:=(PR P w K mg base f cdv A outer s H E).nox) (V1 0) (EO (X:=(PR P w K mg base f cdv A outer s H E).nox) (N':=PM) (map:=[none,some 2]) (by rfl) (by rfl) (by decide +kernel) (by rfl) ⟨⟨rfl,rfl,rfl,by walk_at "o"⟩,True.intro⟩ (gkeep_name rfl) fun cl0 C0 fp0 s0 H0=>⟨(pg_name (X:=(J6 (PR P w K mg base f cdv A outer s H E).nox PM _ cl0 C0 fp0 s0 H0)) (i:=0) (V9 PM (by decide +kernel)) rfl (by walk_at "o")),(FE (Z1 FY DJ (Q8 (Q9 K (by rfl)) V8 (jdv 0) J1 (fun _ _=>rfl)) (jdv 1) (Z5 _))),(jdv (X:=(J6 (PR P w K mg base f cdv A outer s H E).nox PM _ cl0 C0 fp0 s0 H0)) 0)⟩) (Z3 (by rfl) (jdv 0))) J3)))
    (J9 (BM (Z1 J7g J9j (jdv 3) (Y0 (Y2 K (by rfl)) FI rfl Z.len_ EJ (J0 (AC (X:=(PR P w K mg base f cdv A outer s H E).nox) (V1 0) (EO (X:=(PR P w K mg base f cdv A outer s H E).nox) (N':=PM) (map:=[none,some 2]) (by rfl) (by rfl) (by decide +kernel) (by rfl) ⟨⟨rfl,rfl,rfl,by walk_at "o"⟩,True.intro⟩ (gkeep_name rfl) fun cl0 C0 fp0 s0 H0=>⟨(pg_name (X:=(J6 (PR P w K mg base f cdv A outer s H E).nox PM _ cl0 C0 fp0 s0 H0)) (i:=0) (V9 PM (by decide +kernel)) rfl (by walk_at "o")),(FE (Z1 FY DJ (Q8 (Q9 K (by rfl)) V8 (jdv 0) J1 (fun _ _=>rfl)) (jdv 1) (Z5 _))),(jdv (X:=(J6 (PR P w K mg base f cdv A outer s H E).nox PM _ cl0 C0 fp0 s0 H0)) 0)⟩) (Z3 (by rfl) (jdv 0))) J3)) (Z5 _)) (J9 (V4 HQ)) AB))))
    (J9 (V4 HQ))),?_⟩
   walk_at "g"
   refine And.intro ⟨by omega,by omega⟩ ?_
   refine ⟨fun i ρ=>∃ v2 v3,ρ=[some (.lst (rows.map Y4)),some (.int n),v2,v3],⟨_,_,rfl⟩,?_,?_⟩
   · rintro i x ρ e ⟨v2,v3,rfl⟩
     obtain ⟨rfl,hi⟩:=BK e
     clear e
     rw [Int.zero_add]
     walk_at "g"
     refine And.intro (by rw [List.length_map];omega) ?_
     refine ⟨fun j acc=>acc=((rows.take j).filter (bgn i)).map Y4,rfl,?_,?_⟩
     · rintro j x acc e rfl
       obtain ⟨r,er,rfl⟩:=DK e
       have tf:=BS (p:=bgn i) er
       obtain ⟨a,b,rfl⟩:=h2 r (List.mem_of_getElem? er)
       generalize (rows.take j).filter (bgn i)=acc at *
       walk_at "g"
       by_cases z:a=i
       · refine IfP.t (by simp [z]) ?_
         walk_at "g"
         rw [tf,if_pos (show bgn i [a,b]=true from decide_eq_true z),List.map_append]
         rfl
       · refine IfP.f (by simp [z]) ?_
         rw [tf,if_neg (by show ¬ decide (a=i)=true;simp [z]),List.append_nil]
     · rintro acc rfl
       rw [show (rows.map Y4).length=rows.length from List.length_map ..,List.take_length]
       walk_at "g"
       refine And.intro (by rw [List.length_map];omega) ?_
       refine ⟨fun j acc=>acc=((rows.take j).filter (edn i)).map Y4,rfl,?_,?_⟩
       · rintro j x acc e rfl
         obtain ⟨r,er,rfl⟩:=DK e
         have tf:=BS (p:=edn i) er
         obtain ⟨a,b,rfl⟩:=h2 r (List.mem_of_getElem? er)
         generalize (rows.take j).filter (edn i)=acc at *
         walk_at "g"
         by_cases z:b=i
         · refine IfP.t (by simp [z]) ?_
           walk_at "g"
           rw [tf,if_pos (show edn i [a,b]=true from decide_eq_true z),List.map_append]
           rfl
         · refine IfP.f (by simp [z]) ?_
           rw [tf,if_neg (by show ¬ decide (b=i)=true;simp [z]),List.append_nil]
       · rintro acc rfl
         rw [show (rows.map Y4).length=rows.length from List.length_map ..,List.take_length]
         have e:=hg i
         walk_at "g"
         refine IfP.f (by simp [e]) ?_
         walk_at "g"
         exact ⟨_,_,rfl⟩
   · rintro ρ ⟨v2,v3,rfl⟩
     walk_at "g"
     exact hP
theorem Q2w {r:R3}(h:r.sm):r.s.ok 135:=by
 obtain ⟨h1,h2,h3⟩:=h
 exact ⟨(Bd.of (by omega) (by omega):Bd 20 r.x).mono (by decide),(Bd.of (by omega) (by omega):Bd 20 r.y).mono (by decide),(Bd.of (by omega) (by omega):Bd 20 r.z).mono (by decide),b1 (by decide)⟩
theorem Q4v {m:M4}{n:Nat}(h:Aff m n)(r:R3):(app m r.s).w=1:=by
 show CA m.e r.s=1
 rw [h.e]
 simp [CA,R3.s]
theorem F3i.ok.lt {f:F3i}{n:Nat}(h:f.ok n):∀ q,f.has q->q<n:=fun q hq=>by
 rcases hq with rfl|rfl|rfl
 · exact h.i
 · exact h.j
 · exact h.k
abbrev UX:Stmt:=top 35
abbrev Q2e:List Str:=["_law_script","_law_k","_law_bag_here","_law_body","_law_move","_law_found","_law_turns_told","_law_contrary"]
theorem EU:FnScope Q2e ["_law_script"] (J4 UX):=⟨rfl,rfl,rfl,by decide +kernel,rfl,by decide +kernel,by decide +kernel⟩
noncomputable def NQ (K:Fg):Sp:=fun vs H Q _=>∃ (a:Addr) (ns:List Int),vs=[.ref a]/\SqL K H a (ns.map V.int)/\ns.length<=63/\∀ H',Q (.bl true) H'
abbrev J3u (P:Program) (w:World) (K:Fg) (mg:Str → Option Value) (base:Heap) (f:Addr) (cdv:Value) (A:Around) (outer:List Env) (s:Shared) (H:Hp) (E:XK):Cx:=Z8 CX0 P w K mg base Q2e "law" (J4 UX) f cdv A outer s H E
theorem J9i {w:World} {f:Addr} (F:Fun K "law" "law" UX f fd) (Z:Bi mg) {c:Cs} (Y:Ex K mg base c) (zg0:Callee P w K mg base CX0 "_law_bag" 1 xl1 (SI K BT NW)) (zg1:Callee P w K mg base CX0 "_law_closed" 3 xl9 (Q4 K BT J7y)) (zg2:Callee P w K mg base CX0 "_law_plain" 4 xl9 (Q4 K BT Q4x)) (zg3:Callee P w K mg base CX0 "outline" 5 SL (Y6 K BT J3l)) (zg4:Callee P w K mg base CX0 "turn" 2 ["face"] (Q4 K BT UQ)) (zg5:Callee P w K mg base (CX1 P w base) "inside_out" 1 ["body"] (BH K BT (Q4y K))) (zg6:Callee P w K mg base CX0 "_law_goes_round" 1 ["_law_found","_law_many"] (Q4 K BT Q4z)) (zg7:Callee P w K mg base CX0 "is_closed" 4 ["body"] (Q4 K BT J7v)) (zg8:Callee P w K mg base (CX1 P w base) "faces_seen" 4 SL (Y6 K BT (PJ c))):FnOk P w K mg base CX0 6 f fd ["_law_script"] (NQ K):=by
 refine F.okL BT EU (fun cdv A outer s H E ns hr hlen=>?_)
 · refine ⟨_,(J5 (CK (V1 1) PassesOwn.never rfl (Y8 rfl Z.range_ (J0 (Y0 (FV (by rfl)) ND rfl Z.max_ PD (J0 J1 (J0 (Y0 (NF (by rfl)) ND rfl Z.min_ J2z (J0 (Y0 (Y2 K (by rfl)) FI rfl Z.len_ EJ (J0 (jdv 0) J3)) (J0 J1 J3))) J3))) J3)) (pg_name (i:=1) EU.nd rfl (by walk_at "o")) (J5 (J5t (i:=2) rfl EU.nd rfl (by walk_at "o") zg0 hr.m rfl (J0 (jdv 0) (J0 (jdv 1) J3)))
    (J5 (V5 (i:=3) EU.nd rfl (by walk_at "o") (Q5 zg1 hr.m rfl (J0 (jdv 2) J3)))
    (J5 (V5 (i:=4) EU.nd rfl (by walk_at "o") (Q5 zg2 hr.m rfl (J0 (jdv 2) J3)))
    (J5 (V5 (i:=5) EU.nd rfl (by walk_at "o") (KE zg3 hr.m rfl (J0 (jdv 3) (J0 (jdv 4) J3))))
    (J5 (BM (J9x (OJ (HN (by rfl) (Q5 zg7 hr.m rfl (J0 (jdv 3) J3)) (fun _=>rfl))) (J5r (OJ (HN (by rfl) (Q5 zg6 hr.m rfl (J0 (jdv 5) (J0 (Y0 (Y2 K (by rfl)) FI rfl Z.len_ EJ (J0 (Q8 (Q9 K (by rfl)) V8 (jdv 3) J1 (fun _ _=>rfl)) J3)) J3))) (fun _=>rfl))))) (J9 (V4 HQ)) AB)
    (J5 (KC (X:=(J3u P w K mg base f cdv A outer s H E).nox) false (i:=6) EU.nd rfl (by walk_at "o") (V1 0) (EO (X:=(J3u P w K mg base f cdv A outer s H E).nox) (N':=["_law_face_here"]) (map:=[none]) (by rfl) (by rfl) (by decide +kernel) (by rfl) True.intro (gkeep_name rfl) fun cl0 C0 fp0 s0 H0=>⟨(pg_name (X:=(J6 (J3u P w K mg base f cdv A outer s H E).nox ["_law_face_here"] _ cl0 C0 fp0 s0 H0)) (i:=0) (V9 ["_law_face_here"] (by decide +kernel)) rfl (by walk_at "o")),Y7,(Q5 (X:=(J6 (J3u P w K mg base f cdv A outer s H E).nox ["_law_face_here"] _ cl0 C0 fp0 s0 H0)) zg4 hr.m rfl (J0 (jdv 0) J3))⟩) (Z3 (by rfl) (HP KQ NZ zg8 hr.m rfl (J0 (jdv 3) (J0 (jdv 4) J3)))))
    (J5 (V5 (i:=7) EU.nd rfl (by walk_at "o") (KE zg3 hr.m rfl (J0 (YA KQ NZ zg5 hr.m rfl (J0 (jdv 3) J3)) (J0 (jdv 4) J3))))
    (J5 (BM (J5s (Z1 (HK K (by rfl) hr.units) OF J1 (jdv 6) (by with_unfolding_all rfl)) (J1e (Z1 (J9e K (by rfl) hr.units) J0m (jdv 7) (jdv 5) (Z5 _)))) (J9 (V4 HQ)) AB)
    (J9 (BM (OJ (HN (by rfl) (Q5 zg6 hr.m rfl (J0 (jdv 7) (J0 (Y0 (Y2 K (by rfl)) FI rfl Z.len_ EJ (J0 (Q8 (Q9 K (by rfl)) V8 (jdv 3) J1 (fun _ _=>rfl)) J3)) J3))) (fun _=>rfl))) (J9 (V4 HQ)) AB)))))))))))
    (J9 (V4 HQ))),?_⟩
   walk_at "g"
   have n3:∀ m:Int,((fun i j=>if j>i then j else i) 2 ((fun i j=>if j<i then j else i) m 8):Int)<=8:=by intro m;dsimp only;split<;>split<;>omega
   have n0:∀ m:Int,2<=((fun i j=>if j>i then j else i) 2 ((fun i j=>if j<i then j else i) m 8):Int):=by intro m;dsimp only;split<;>split<;>omega
   replace n3:=n3 ns.length
   replace n0:=n0 ns.length
   refine And.intro ⟨by omega,by omega⟩ ?_
   refine ⟨fun i ρ=>∃ v1 v2 v3 v4 v5 v6 v7,ρ=[some (.scr ns),v1,v2,v3,v4,v5,v6,v7],⟨_,_,_,_,_,_,_,rfl⟩,?_,?_⟩
   · rintro i x ρ e ⟨v1,v2,v3,v4,v5,v6,v7,rfl⟩
     obtain ⟨rfl,hi⟩:=BK e
     have hi6:i<8:=by omega
     clear e n3 n0
     rw [Int.zero_add]
     walk_at "g"
     refine ⟨⟨ns,i,rfl,by omega⟩,?_⟩
     walk_at "g"
     intro cs fs B
     walk_at "g"
     intro m mA
     walk_at "g"
     have c12:=B.l12
     have f6:=B.sh.len
     have cl:=B.sh.closed
     have on:=B.sh.once
     have lt:∀ f∈fs,∀ q,f.has q->q<cs.length:=fun f hf=>(B.ok f hf).lt
     have mo:=mA.ok
     have c135:∀ r∈cs,r.s.ok 135:=fun r hr=>Q2w (B.sm r hr)
     have cw:∀ q,0<(app m (cor cs q).s).w:=fun q=>by rw [Q4v mA];decide
     have two_of:∀ {fs:List F3i} {rows:List (List Int)},Lack fs rows->∀ r∈rows,∃ a b:Int,r=[a,b]:=fun h r hr=>by
      obtain ⟨f,a,b,_,_,_,rfl⟩:=JD (KB h hr)
      exact ⟨_,_,rfl⟩
     have len_of:∀ {gs:List F3i} {rows:List (List Int)},Lack gs rows->gs.length<=6->rows.length<=60:=fun h l=>Nat.le_trans (J1c h) (by omega)
     refine ⟨cs,fs,m,135,rfl,mo,c135,by decide,by omega,by omega,lt,cw,cl,on,fun rows lk=>?_⟩
     walk_at "g"
     refine And.intro (noLs_rows _) (And.intro rfl ?_)
     walk_at "g"
     refine ⟨_,fs,cs.length,rfl,by omega,by omega,lt,fun rows0 lk0=>?_⟩
     cases RJ (by omega) lt lk0 (SC cl)
     walk_at "g"
     rw [show (cs.map R3.d).length=cs.length from List.length_map ..]
     refine ⟨rows,cs.length,rfl,by omega,len_of lk (Nat.le_trans (List.length_filter_le ..) f6),two_of lk,KA lk,?_⟩
     walk_at "g"
     refine ⟨cs,fs,m,135,rfl,mo,c135,by decide,by omega,by omega,lt,fun ⟨f,_,q,_,z⟩=>absurd (cw q) (by omega),fun _=>?_⟩
     refine And.intro (noLs_all fun x hx=>by obtain ⟨t,_,rfl⟩:=List.mem_map.mp hx;rfl) ?_
     walk_at "g"
     refine And.intro (by rw [List.length_map];omega) ?_
     refine ⟨fun j acc=>acc=((fs.take j).map fun f=>(tM m cs f).tn).map D.int,rfl,?_,?_⟩
     · rintro j x acc e rfl
       obtain ⟨f,ef,rfl⟩:=DK e
       have ok:=J7c mo c135 cw (by decide) f
       walk_at "g"
       refine ⟨tM m cs f,273,rfl,ok,by decide,?_⟩
       refine ⟨rfl,?_⟩
       rw [List.take_add_one,ef,Option.toList_some,List.map_append,List.map_append]
       rfl
     rintro acc rfl
     rw [show (fs.map (UW m cs)).length=fs.length from List.length_map ..,List.take_length]
     have zm:(0:Int)∉(fs.map fun f=>(tM m cs f).tn)->∀ f∈fs,(tM m cs f).tn≠0:=fun h f hf z=>h (List.mem_map.mpr ⟨f,hf,z⟩)
     have nl:(fs.map fun f=>(tM m cs f).tn).length=fs.length:=List.length_map _
     generalize (fs.map fun f=>(tM m cs f).tn)=turns at *
     walk_at "g"
     refine ⟨_,fs,rfl,by omega,fun p rs=>⟨p,rs,_,rfl,rfl,J9r cs (fs.map F3i.flip),?_⟩⟩
     walk_at "g"
     refine ⟨cs,fs.map F3i.flip,m,135,rfl,mo,c135,by decide,by omega,by rw [List.length_map];omega,J2a lt,cw,SE cl,XI on,fun rows2 lk2=>?_⟩
     walk_at "g"
     refine And.intro (noLs_rows _) (And.intro rfl ?_)
     walk_at "g"
     have r2:=two_of lk2
     have l2:=len_of lk2 (Nat.le_trans (List.length_filter_le ..) (by rw [List.length_map];exact f6))
     have g2:=KA lk2
     refine KI (n:=0) (ns:=turns) (.inr (.inl rfl)) ?_
     by_cases z:(0:Int)∈turns
     · refine IfP.f (by simp [z]) ?_
       walk_at "g"
       rw [show (cs.map R3.d).length=cs.length from List.length_map ..]
       refine ⟨rows2,cs.length,rfl,by omega,l2,r2,g2,?_⟩
       walk_at "g"
       exact ⟨_,_,_,_,_,_,_,rfl⟩
     · refine IfP.t (by simp [z]) ?_
       rw [UC (zm z)] at lk2
       cases RJ (n:=cs.length) (by omega) (fun f hf=>lt f (List.mem_filter.mp hf).1) lk (RK cl lk2)
       walk_at "g"
       refine J2b (x:=.lst (rows.map Y4)) 3 (by unfold AV;exact HU _) rfl (by decide) ?_
       walk_at "g"
       rw [show (cs.map R3.d).length=cs.length from List.length_map ..]
       refine ⟨rows,cs.length,rfl,by omega,l2,r2,g2,?_⟩
       walk_at "g"
       exact ⟨_,_,_,_,_,_,_,rfl⟩
   · rintro ρ ⟨v1,v2,v3,v4,v5,v6,v7,rfl⟩
     walk_at "g"
end K
namespace K
open PySem L2
structure FnIn (K:Fg)(x:Str)(st:Stmt):Prop where
 ex:∃ (f:Addr) (fd:FuncData),PySem.W.nsIn K mainGlobals x=some (some (.ref f))/\Fun K x x st f fd
theorem fn_in {x:Str}{st:Stmt}{f:Addr}{oc:Value}{od an:Option Addr}{osl:Array (Option Value)}{kV doc pm cdv ct:Value}(a:PySem.W.nsIn K mainGlobals x=some (some (.ref f)))(l:K.lookup f=some ⟨oc,od,.func (PySem.W.fnOf x x (HB st) (AH st) (J4 st) .none kV doc pm an cdv ct),osl⟩)(c:PySem.W.codeIn K cdv x=true)(k:PySem.W.keepIn K (.ref f)=true):FnIn K x st:=⟨⟨_,_,a,Q0h l c k⟩⟩
local macro_rules | `(tactic| walk_at "b1") => `(tactic| exact fun _ _ _ _ _ _ us hl => match us,hl with | [_],_ => rfl)
local macro_rules | `(tactic| walk_at "b2") => `(tactic| exact fun _ _ _ _ _ _ us hl => match us,hl with | [_,_],_ => rfl)
local macro_rules | `(tactic| walk_at "b3") => `(tactic| exact fun _ _ _ _ _ _ us hl => match us,hl with | [_,_,_],_ => rfl)
theorem Q1t {l:PySem.W.OpenLaw}{w:World} {h:Heap} {fa:Addr}(X:K.In h)(G:h.Ns mainGlobals mg)(hfa:mg "law" = some (.ref fa))
 (h0:FnIn K "_law_bag" BJ)
 (h1:FnIn K "_law_digit" CG)
 (h2:FnIn K "_law_face" CZ)
 (h3:FnIn K "_law_corner" BO)
 (h4:FnIn K "_law_closed" BP)
 (h5:FnIn K "_law_times" CF)
 (h6:FnIn K "_law_number" DH)
 (h7:FnIn K "_law_plain_move" AD)
 (h8:FnIn K "_law_plain" EA)
 (h9:FnIn K "common_divisor" AR)
 (h10:FnIn K "lowest_terms" BF)
 (h11:FnIn K "products_added" AQ)
 (h12:FnIn K "moved" IM)
 (h13:FnIn K "faces_seen" CD)
 (h14:FnIn K "determinant" DG)
 (h15:FnIn K "on_board" GG)
 (h16:FnIn K "turn" ST)
 (h17:FnIn K "sides_of" GF)
 (h18:FnIn K "fellow" JJ)
 (h19:FnIn K "outline" FL)
 (h20:FnIn K "inside_out" CC)
 (h21:FnIn K "_law_goes_round" AE)
 (h22:FnIn K "side_counts" DF)
 (h23:FnIn K "lacking" FM)
 (h24:FnIn K "is_closed" EV)
 (h25:FnIn K "law" UX)
 (z_abs:PySem.W.nsIn K mainGlobals "abs" = some none)
 (z_len:PySem.W.nsIn K mainGlobals "len" = some none)
 (z_max:PySem.W.nsIn K mainGlobals "max" = some none)
 (z_min:PySem.W.nsIn K mainGlobals "min" = some none)
 (z_range:PySem.W.nsIn K mainGlobals "range" = some none)
 (z_isinstance:PySem.W.nsIn K mainGlobals "isinstance" = some none)
 (z_int:PySem.W.nsIn K mainGlobals "int" = some none)
 (z_bool:PySem.W.nsIn K mainGlobals "bool" = some none)
 (z_tuple:PySem.W.nsIn K mainGlobals "tuple" = some none)
 (z_zip:PySem.W.nsIn K mainGlobals "zip" = some none)
 (z_sum:PySem.W.nsIn K mainGlobals "sum" = some none)
 (z_all:PySem.W.nsIn K mainGlobals "all" = some none)
 (z_any:PySem.W.nsIn K mainGlobals "any" = some none)
 (z_list:PySem.W.nsIn K mainGlobals "list" = some none)
 (z_sorted:PySem.W.nsIn K mainGlobals "sorted" = some none)
 {c_ShadeError:Addr} (e_ShadeError:PySem.W.nsIn K mainGlobals "ShadeError" = some (some (.ref c_ShadeError)))
 {c_Behind:Addr} (e_Behind:PySem.W.nsIn K mainGlobals "Behind" = some (some (.ref c_Behind)))
 (q_Behind:PySem.W.excIn K c_Behind bmV "ValueError.__new__" = true) (x1_Behind:PySem.W.findIn K (.ref c_Behind) "__getattribute__" = some (some (.builtin "BaseException.__getattribute__"))) (x5_Behind:PySem.W.findIn K (.ref c_Behind) "__getattr__" = some none) (x6_Behind:PySem.W.subIn K (.ref c_Behind) (.type "BaseException")=some true) (x2_Behind:PySem.W.findObj K c_Behind none "__class__" = some (.bind (.builtin "getset_descriptor.__get__") (.builtin "object.__class__"))) (x3_Behind:PySem.W.mroIn K c_Behind (.type "object")=some true) (x4_Behind:(PySem.W.clsIn K c_Behind).isSome=true) (v_Behind:PySem.W.subIn K (.ref c_Behind) (.type "ValueError")=some true) (s_Behind:PySem.W.subIn K (.ref c_Behind) (.ref c_ShadeError)=some true)
 (xb1:(PySem.W.clsIn K c_ShadeError).isSome=true) (xb2:PySem.W.typeIn K (.ref c_ShadeError)=some (.type "type")) (xb3:PySem.W.subIn K (.ref c_ShadeError) (.type "BaseException")=some true)
 : ∃ fd:FuncData,(∀ (s:Shared) (v:Value),BindsTo s fd ⟨[v],[]⟩ [("_law_script",v)])/\∀ base:Heap,K.In base->base.Ns mainGlobals mg->FnOk l.prog w K mg base CX0 6 fa fd ["_law_script"] (NQ K):=by
 obtain ⟨f0,d0,a0,F0⟩:=h0.ex
 obtain ⟨f1,d1,a1,F1⟩:=h1.ex
 obtain ⟨f2,d2,a2,F2⟩:=h2.ex
 obtain ⟨f3,d3,a3,F3⟩:=h3.ex
 obtain ⟨f4,d4,a4,F4⟩:=h4.ex
 obtain ⟨f5,d5,a5,F5⟩:=h5.ex
 obtain ⟨f6,d6,a6,F6⟩:=h6.ex
 obtain ⟨f7,d7,a7,F7⟩:=h7.ex
 obtain ⟨f8,d8,a8,F8⟩:=h8.ex
 obtain ⟨f9,d9,a9,F9⟩:=h9.ex
 obtain ⟨f10,d10,a10,F10⟩:=h10.ex
 obtain ⟨f11,d11,a11,F11⟩:=h11.ex
 obtain ⟨f12,d12,a12,F12⟩:=h12.ex
 obtain ⟨f13,d13,a13,F13⟩:=h13.ex
 obtain ⟨f14,d14,a14,F14⟩:=h14.ex
 obtain ⟨f15,d15,a15,F15⟩:=h15.ex
 obtain ⟨f16,d16,a16,F16⟩:=h16.ex
 obtain ⟨f17,d17,a17,F17⟩:=h17.ex
 obtain ⟨f18,d18,a18,F18⟩:=h18.ex
 obtain ⟨f19,d19,a19,F19⟩:=h19.ex
 obtain ⟨f20,d20,a20,F20⟩:=h20.ex
 obtain ⟨f21,d21,a21,F21⟩:=h21.ex
 obtain ⟨f22,d22,a22,F22⟩:=h22.ex
 obtain ⟨f23,d23,a23,F23⟩:=h23.ex
 obtain ⟨f24,d24,a24,F24⟩:=h24.ex
 obtain ⟨f25,d25,a25,F25⟩:=h25.ex
 have e:=hfa.symm.trans (PySem.W.mg_of X G a25)
 cases e
 have Z:Bi mg:=⟨PySem.W.mg_none_of X G z_abs,PySem.W.mg_none_of X G z_len,PySem.W.mg_none_of X G z_max,PySem.W.mg_none_of X G z_min,PySem.W.mg_none_of X G z_range,PySem.W.mg_none_of X G z_isinstance,PySem.W.mg_none_of X G z_int,PySem.W.mg_none_of X G z_bool,PySem.W.mg_none_of X G z_tuple,PySem.W.mg_none_of X G z_zip,PySem.W.mg_none_of X G z_sum,PySem.W.mg_none_of X G z_all,PySem.W.mg_none_of X G z_any,PySem.W.mg_none_of X G z_list,PySem.W.mg_none_of X G z_sorted⟩
 have bl:=F25.binds (ps:=["_law_script"]) fun _ _ _ _ _ _ us hl=>match us,hl with | [_],_=>rfl
 obtain ⟨oc,od,kV,doc,pm,an,cdv,ct,osl,el,lk,hcd⟩:=F25.ex
 refine ⟨d25,fun s v=>by rw [el];exact .of_eq rfl,fun base kb gb=>?_⟩
 have Y:Ex K mg base ⟨c_ShadeError,c_Behind⟩:=⟨PySem.W.mg_of X G e_ShadeError,PySem.W.mg_of X G e_Behind,Q3h kb gb e_Behind q_Behind,⟨x1_Behind,x5_Behind,x2_Behind,x3_Behind,x4_Behind,x6_Behind⟩,v_Behind,s_Behind,⟨xb1,xb2,xb3⟩⟩
 have G0:=Callee.mk' F0 (QY (P:=l.prog) (w:=w) (base:=base) F0 Z Y) (PySem.W.mg_of X G a0) (F0.binds (by walk_at "b2"))
 have G1:=Callee.mk' F1 (LM (P:=l.prog) (w:=w) (base:=base) F1 Z Y) (PySem.W.mg_of X G a1) (F1.binds (by walk_at "b2"))
 have G2:=Callee.mk' F2 (OD (P:=l.prog) (w:=w) (base:=base) F2 Z Y G1) (PySem.W.mg_of X G a2) (F2.binds (by walk_at "b2"))
 have G3:=Callee.mk' F3 (JR (P:=l.prog) (w:=w) (base:=base) F3 Z Y G1) (PySem.W.mg_of X G a3) (F3.binds (by walk_at "b1"))
 have G4:=Callee.mk' F4 (JU (P:=l.prog) (w:=w) (base:=base) F4 Z Y G2 G1 G3) (PySem.W.mg_of X G a4) (F4.binds (by walk_at "b1"))
 have G5:=Callee.mk' F5 (LK (P:=l.prog) (w:=w) (base:=base) F5 Z Y) (PySem.W.mg_of X G a5) (F5.binds (by walk_at "b2"))
 have G6:=Callee.mk' F6 (JQ (P:=l.prog) (w:=w) (base:=base) F6 Z Y G1) (PySem.W.mg_of X G a6) (F6.binds (by walk_at "b2"))
 have G7:=Callee.mk' F7 (GH (P:=l.prog) (w:=w) (base:=base) F7 Z Y G1 G6) (PySem.W.mg_of X G a7) (F7.binds (by walk_at "b1"))
 have G8:=Callee.mk' F8 (LL (P:=l.prog) (w:=w) (base:=base) F8 Z Y G5 G1 G7) (PySem.W.mg_of X G a8) (F8.binds (by walk_at "b1"))
 have G9:=Callee.mk' F9 (GX (P:=l.prog) (w:=w) (base:=base) F9 Z Y) (PySem.W.mg_of X G a9) (F9.binds (by walk_at "b2"))
 have G10:=Callee.mk' F10 (II (P:=l.prog) (w:=w) (base:=base) F10 Z Y G9) (PySem.W.mg_of X G a10) (F10.binds (by walk_at "b1"))
 have G11:=Callee.mk' F11 (GW (P:=l.prog) (w:=w) (base:=base) F11 Z Y) (PySem.W.mg_of X G a11) (F11.binds (by walk_at "b2"))
 have G12:=Callee.mk' F12 (J0k (P:=l.prog) (w:=w) (base:=base) F12 Z Y G10 G11) (PySem.W.mg_of X G a12) (F12.binds (by walk_at "b2"))
 have G13:=Callee.mk' F13 (LJ (P:=l.prog) (w:=w) (base:=base) F13 Z Y G12) (PySem.W.mg_of X G a13) (F13.binds (by walk_at "b2"))
 have G14:=Callee.mk' F14 (JP (P:=l.prog) (w:=w) (base:=base) F14 Z Y) (PySem.W.mg_of X G a14) (F14.binds (by walk_at "b3"))
 have G15:=Callee.mk' F15 (QX (P:=l.prog) (w:=w) (base:=base) F15 Z Y) (PySem.W.mg_of X G a15) (F15.binds (by walk_at "b1"))
 have G16:=Callee.mk' F16 (J5e (P:=l.prog) (w:=w) (base:=base) F16 Z Y G14 G15) (PySem.W.mg_of X G a16) (F16.binds (by walk_at "b1"))
 have G17:=Callee.mk' F17 (QW (P:=l.prog) (w:=w) (base:=base) F17 Z Y) (PySem.W.mg_of X G a17) (F17.binds (by walk_at "b1"))
 have G18:=Callee.mk' F18 (XJ (P:=l.prog) (w:=w) (base:=base) F18 Z Y) (PySem.W.mg_of X G a18) (F18.binds (by walk_at "b1"))
 have G19:=Callee.mk' F19 (TN (P:=l.prog) (w:=w) (base:=base) F19 Z Y G13 G16 G17 G18) (PySem.W.mg_of X G a19) (F19.binds (by walk_at "b2"))
 have G20:=Callee.mk' F20 (LH (P:=l.prog) (w:=w) (base:=base) F20 Z Y) (PySem.W.mg_of X G a20) (F20.binds (by walk_at "b1"))
 have G21:=Callee.mk' F21 (GI (P:=l.prog) (w:=w) (base:=base) F21 Z Y) (PySem.W.mg_of X G a21) (F21.binds (by walk_at "b2"))
 have G22:=Callee.mk' F22 (JN (P:=l.prog) (w:=w) (base:=base) F22 Z Y G17) (PySem.W.mg_of X G a22) (F22.binds (by walk_at "b1"))
 have G23:=Callee.mk' F23 (TQ (P:=l.prog) (w:=w) (base:=base) F23 Z Y G22 G18) (PySem.W.mg_of X G a23) (F23.binds (by walk_at "b1"))
 have G24:=Callee.mk' F24 (OC (P:=l.prog) (w:=w) (base:=base) F24 Z Y G23) (PySem.W.mg_of X G a24) (F24.binds (by walk_at "b1"))
 exact J9i (P:=l.prog) (w:=w) (base:=base) F25 Z Y G0 G4 G8 G19 G16 G20 G21 G24 G13
theorem Q5e {l:PySem.W.OpenLaw}{q:Program}{loose:List Str}{XP:(Str->Option Value)->Heap->Prop}{YP:World->Heap->Prop}{d:DefRec}{K:Params->Fg}(hn:l.most=some 63)(hdf:d.params.defaults=[])
 (hY:∀ (w:World) (h:Heap),YP w h->(K w.params).In h)
 (F:∀ (w:World) (mg:Str->Option Value) (fa:Addr) (h:Heap),(K w.params).In h->h.Ns mainGlobals mg->mg d.name=some (.ref fa) ->
  ∃ fd:FuncData,(∀ (s:Shared) (u:Value),BindsTo s fd ⟨[u],[]⟩ [("_law_script",u)])/\∀ base:Heap,(K w.params).In base->base.Ns mainGlobals mg->FnOk l.prog w (K w.params) mg base CX0 6 fa fd ["_law_script"] (NQ (K w.params))) :
 PySem.W.WalkO q loose XP YP l.row.toRowW d [] (fun f vs=>PySem.call f vs) :=
 L2.J3x (n:=63) (k:=6) (x:="_law_script") (CX:=fun _=>CX0) (sp:=fun w=>NQ (K w.params)) hn (by decide) hdf ⟨rfl,by decide,by decide⟩ hY F (fun _ _ a ns hl _ hS=>⟨a,ns,rfl,hS,hl,fun _=>rfl⟩) fun _ _ _ _ _ z=>z
end K
open PySem PySem.W PyProof.Rows
theorem PySem.W.Fast.tw11306262071116132383:True:=trivial
theorem PySem.W.Fast.tw11419483987776100318:True:=trivial
theorem PySem.W.Fast.tw3191151950508058896:True:=trivial
theorem PySem.W.Fast.tw9231841123618436623:True:=trivial
theorem PySem.W.Fast.tw15819356367845966798:True:=trivial
theorem PySem.W.Fast.tw2038064591285787565:True:=trivial
theorem PySem.W.Fast.tw15616785705426499821:True:=trivial
theorem PySem.W.Fast.tw9690396643717965100:True:=trivial
theorem PySem.W.Fast.tw315274436731432907:True:=trivial
theorem PySem.W.Fast.tw1610238670233190698:True:=trivial
theorem PySem.W.Fast.tw5250898600631163082:True:=trivial
theorem PySem.W.Fast.tw13782079306386224295:True:=trivial
theorem PySem.W.Fast.tw18004017644827642181:True:=trivial
theorem PySem.W.Fast.tw16526637944524945065:True:=trivial
local macro_rules | `(tactic| walk_at "fn") => `(tactic| (refine' _root_.K.fn_in ?a ?l ?c ?k; (case a => k_is); (case l => k_is); (case c => k_is); (case k => k_is)))
set_option maxRecDepth 100000 in
set_option maxHeartbeats 0 in
theorem PySem.Challenge.cw_onceshade_k57_whole_outlines_of_closed_b_holds : PySem.Challenge.rw_onceshade_k57_whole_outlines_of_closed_b.Holds := by
 w_on;o_law;k_head;(case hw=>w_witness2)
 k_fill
 refine K.Q5e (l:=PySem.Challenge.rw_onceshade_k57_whole_outlines_of_closed_b) rfl rfl (fun w h Y=>PySem.W.kIn_of Y) ?F
 case F =>
  intro w mg fa h KX G hmg
  refine' K.Q1t KX G hmg ?h0 ?h1 ?h2 ?h3 ?h4 ?h5 ?h6 ?h7 ?h8 ?h9 ?h10 ?h11 ?h12 ?h13 ?h14 ?h15 ?h16 ?h17 ?h18 ?h19 ?h20 ?h21 ?h22 ?h23 ?h24 ?h25 ?z_abs ?z_len ?z_max ?z_min ?z_range ?z_isinstance ?z_int ?z_bool ?z_tuple ?z_zip ?z_sum ?z_all ?z_any ?z_list ?z_sorted ?e_ShadeError ?e_Behind ?q_Behind ?x1_Behind ?x5_Behind ?x6_Behind ?x2_Behind ?x3_Behind ?x4_Behind ?v_Behind ?s_Behind ?xb1 ?xb2 ?xb3
  (case h0=>walk_at "fn")
  (case h1=>walk_at "fn")
  (case h2=>walk_at "fn")
  (case h3=>walk_at "fn")
  (case h4=>walk_at "fn")
  (case h5=>walk_at "fn")
  (case h6=>walk_at "fn")
  (case h7=>walk_at "fn")
  (case h8=>walk_at "fn")
  (case h9=>walk_at "fn")
  (case h10=>walk_at "fn")
  (case h11=>walk_at "fn")
  (case h12=>walk_at "fn")
  (case h13=>walk_at "fn")
  (case h14=>walk_at "fn")
  (case h15=>walk_at "fn")
  (case h16=>walk_at "fn")
  (case h17=>walk_at "fn")
  (case h18=>walk_at "fn")
  (case h19=>walk_at "fn")
  (case h20=>walk_at "fn")
  (case h21=>walk_at "fn")
  (case h22=>walk_at "fn")
  (case h23=>walk_at "fn")
  (case h24=>walk_at "fn")
  (case h25=>walk_at "fn")
  (case z_abs=>k_is)
  (case z_len=>k_is)
  (case z_max=>k_is)
  (case z_min=>k_is)
  (case z_range=>k_is)
  (case z_isinstance=>k_is)
  (case z_int=>k_is)
  (case z_bool=>k_is)
  (case z_tuple=>k_is)
  (case z_zip=>k_is)
  (case z_sum=>k_is)
  (case z_all=>k_is)
  (case z_any=>k_is)
  (case z_list=>k_is)
  (case z_sorted=>k_is)
  (case e_ShadeError=>k_is)
  (case e_Behind=>k_is)
  (case q_Behind=>k_exc)
  (case x1_Behind=>kernel_rfl)
  (case x5_Behind=>kernel_rfl)
  (case x6_Behind=>kernel_rfl)
  (case x2_Behind=>kernel_rfl)
  (case x3_Behind=>kernel_rfl)
  (case x4_Behind=>kernel_rfl)
  (case v_Behind=>kernel_rfl)
  (case s_Behind=>kernel_rfl)
  (case xb1=>kernel_rfl)
  (case xb2=>kernel_rfl)
  (case xb3=>kernel_rfl)
