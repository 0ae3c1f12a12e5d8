import PyProof.Rows.All
import Wide.All
import OpenK.AllK
import Wide.FinOn
import Lean
import PyProof.EqAt
import PyProof.EqKinds
import PyProof.TupleCall
import PySem.Challenge.RW_onceshade_k92_whole_lines_through_bodies
set_option Elab.async false
set_option linter.all false
set_option maxRecDepth 100000
abbrev Fg:=PySem.W.Frag
variable {P:PySem.Program}{w:PySem.World}{K:Fg}{mg:PySem.Str->Option PySem.Value}{base:PySem.Heap}{fd:PySem.FuncData}{b:Option PySem.Addr}{M:PySem.Addr->Prop}
namespace L2
open PySem PySem.Spec PyProof.Rows
abbrev Key:=Sum Int Str
def J9m:Key->Value->Bool
 | .inl k,v=>Value.isInt k v
 | .inr x,v=>Value.isStrOf x v
def Q7y (w:World):Key->Int
 | .inl k=>hashInt k
 | .inr x=>hashStr w x
theorem Z0:∀ {k:Key} {v:Value},J9m k v=true->(∃ i t,k=Sum.inl i/\v=Value.int i t)\/(∃ x t,k=Sum.inr x/\v=Value.str x t)
 | .inl i,v,h=>by
   obtain ⟨t,e⟩:=Value.isInt_shape (k:=i) (v:=v) h
   exact .inl ⟨i,t,rfl,e⟩
 | .inr x,v,h=>by
   obtain ⟨t,e⟩:=Value.isStrOf_shape (x:=x) (v:=v) h
   exact .inr ⟨x,t,rfl,e⟩
theorem Q2f (a b:Int):decide ((Sum.inl a:Key)=Sum.inl b)=(a==b):=by
 by_cases e:a=b
 · subst e;simp
 · have h:¬ (Sum.inl a:Key)=Sum.inl b:=fun q=>e (Sum.inl.inj q)
   rw [decide_eq_false h]
   exact (beq_eq_false_iff_ne.mpr e).symm
theorem Q2c (a b:Str):decide ((Sum.inr a:Key)=Sum.inr b)=decide (a=b):=by
 by_cases e:a=b
 · subst e;simp
 · have h:¬ (Sum.inr a:Key)=Sum.inr b:=fun q=>e (Sum.inr.inj q)
   rw [decide_eq_false h,decide_eq_false e]
theorem Q2e (a:Int)(b:Str):decide ((Sum.inl a:Key)=Sum.inr b)=false:=decide_eq_false (fun q=>nomatch q)
theorem Q2d (a:Str)(b:Int):decide ((Sum.inr a:Key)=Sum.inl b)=false:=decide_eq_false (fun q=>nomatch q)
def PJ (prog:Program)(w:World):PySem.KeyKind prog w Key where
 is:=J9m
 hash:=Q7y w
 inj:=fun v a b ha hb=>by
  rcases Z0 ha with ⟨i,t,rfl,rfl⟩|⟨x,t,rfl,rfl⟩
  · rcases Z0 hb with ⟨j,u,rfl,e⟩|⟨y,u,rfl,e⟩
    · injection e with e1 _;rw [e1]
    · exact nomatch e
  · rcases Z0 hb with ⟨j,u,rfl,e⟩|⟨y,u,rfl,e⟩
    · exact nomatch e
    · injection e with e1 _;rw [e1]
 byValue:=fun k v h=>by
  rcases Z0 h with ⟨i,t,rfl,rfl⟩|⟨x,t,rfl,rfl⟩<;>rfl
 pyHash:=fun hv h=>by
  rcases Z0 hv with ⟨i,t,rfl,rfl⟩|⟨x,t,rfl,rfl⟩
  · exact wpAny_pyHash_int h
  · exact wpAny_pyHash_str h
 eqBool:=fun hu hv h=>by
  rcases Z0 hu with ⟨i,t,rfl,rfl⟩|⟨x,t,rfl,rfl⟩
  · rcases Z0 hv with ⟨j,u,rfl,rfl⟩|⟨y,u,rfl,rfl⟩
    · rw [Q2f] at h;exact wpAny_eqBool_int h
    · rw [Q2e] at h;exact SeqAt.EqAt.int_str i t y u _ _ _ _ h
  · rcases Z0 hv with ⟨j,u,rfl,rfl⟩|⟨y,u,rfl,rfl⟩
    · rw [Q2d] at h;exact SeqAt.EqAt.str_int x t j u _ _ _ _ h
    · rw [Q2c] at h;exact wpAny_eqBool_str h
 «strs»:=fun k x t v h=>by
  rcases Z0 h with ⟨i,u,rfl,e⟩|⟨y,u,rfl,e⟩
  · exact nomatch e
  · injection e with e1 _
    subst e1
    cases v<;>rfl
inductive V where
 | non|bl (b:Bool)|int (i:Int)|str (x:Str)|byt (b:Array UInt8)|flt (b:UInt64)|ref (a:Addr)|ty (n:String)
 deriving DecidableEq
def RelV:V->Value->Prop
 | .non,u=>u=Value.none
 | .bl b,u=>u=Value.bool b
 | .int i,u=>∃ t,u=Value.int i t
 | .str x,u=>∃ t,u=Value.str x t
 | .byt b,u=>∃ t,u=Value.bytes b t
 | .flt b,u=>∃ t,u=Value.float b t
 | .ref a,u=>u=Value.ref a
 | .ty n,u=>u=Value.type n
abbrev Vals:List V->List Value->Prop:=Paired RelV
theorem Vals.length {xs:List V}{us:List Value}(r:Vals xs us):xs.length=us.length:=Paired.length r
theorem Vals.get:∀ {xs:List V} {us:List Value} {i:Nat} {x:V},Vals xs us->xs[i]?=some x->∃ u,us[i]?=some u/\RelV x u
 | _,_,_,_,.nil,e=>by simp at e
 | _,_,0,_,.cons r _,e=>by simp at e;subst e;exact ⟨_,rfl,r⟩
 | _,_,i+1,x,.cons _ t,e=>by
   obtain ⟨u,h1,h2⟩:=Vals.get (i:=i) (x:=x) t (by simpa using e)
   exact ⟨u,by simpa using h1,h2⟩
theorem Vals.set {x:V}{u:Value}(r:RelV x u):∀ {xs:List V} {us:List Value} (i:Nat),Vals xs us->Vals (xs.set i x) (us.set i u)
 | _,_,_,.nil=>.nil
 | _,_,0,.cons _ t=>.cons r t
 | _,_,i+1,.cons q t=>.cons q (Vals.set r i t)
theorem Vals.append:∀ {xs ys:List V} {us ws:List Value},Vals xs us->Vals ys ws->Vals (xs++ys) (us++ws)
 | _,_,_,_,.nil,s=>s
 | _,_,_,_,.cons r t,s=>.cons r (Vals.append t s)
theorem Vals.take:∀ {xs:List V} {us:List Value} (n:Nat),Vals xs us->Vals (xs.take n) (us.take n)
 | _,_,0,_=>.nil
 | _,_,_+1,.nil=>.nil
 | _,_,n+1,.cons r t=>.cons r (Vals.take n t)
theorem Vals.drop:∀ {xs:List V} {us:List Value} (n:Nat),Vals xs us->Vals (xs.drop n) (us.drop n)
 | _,_,0,r=>r
 | _,_,_+1,.nil=>.nil
 | _,_,n+1,.cons _ t=>Vals.drop n t
def J5m:Option V->Option Value->Prop
 | some v,some u=>RelV v u
 | none,none=>True
 | _,_=>False
def KV {κ:Type}:List (κ×V)->List (κ×Value)->Prop:=Paired fun (p:κ×V) (q:κ×Value)=>p.1=q.1/\RelV p.2 q.2
def kV:Key->V
 | .inl i=>.int i
 | .inr x=>.str x
inductive HO where
 | lst (xs:List V)
 | tup (xs:List V)
 | dK (kvs:List (Key×V))|dT (kvs:List (List Key×V))
 | set (S:Int->Bool) (n:Nat)
 | ins (C dx:Addr) (fs:List (Str×V))
 | own (x:Addr)
 | xd (fs:List (Str×V))
 | met (f x:Addr)
 | rng (lo hi:Int)
 | frz (o:Obj) (u:HO)
 | tbl (ps:Array Value)
 | ext (φ:Heap->Prop)
abbrev Hp:=Addr->Option HO
def upd (H:Hp)(a:Addr)(o:HO):Hp:=fun b=>if b=a then some o else H b
theorem Q5 {H:Hp}{a:Addr}{o:HO}:upd H a o a=some o:=by unfold upd;rw [if_pos rfl]
theorem Q3 {H:Hp}{a b:Addr}{o:HO}(h:b≠a):upd H a o b=H b:=by unfold upd;rw [if_neg h]
theorem WB {H:Hp}{a:Addr}{o u:HO}:upd (upd H a o) a u=upd H a u:=by
 funext b;unfold upd;split<;>rfl
theorem WS {H:Hp}{a b:Addr}{o u:HO}(h:H a=some o)(h':H b=some u)(d:o≠u):a≠b:=by
 intro e;subst e;rw [h] at h';exact d (Option.some.inj h')
theorem Q4 {H:Hp}{a b:Addr}{o:HO}(h:H a=some o)(h':H b=none):a≠b:=by
 intro e;subst e;rw [h] at h';cases h'
section
variable (P:Program) (w:World)
def ObjOk (H:Hp)(h:Heap)(a:Addr):HO->Prop
 | .lst xs=>xs.length<=sizeLine/\∃ (its:List Value) (n:Nat),Vals xs its/\h.get? a=some { cls:=.type "list",data:=.seq its.toArray n }
 | .tup xs=>xs.length<=sizeLine/\∃ its:List Value,Vals xs its/\IsTup h a its.toArray
 | .dK kvs=>kvs.length<=sizeLine/\(a==sysModules)=false/\∃ vs,KV kvs vs/\h.DictOf (PJ P w) a vs
 | .dT kvs=>kvs.length<=sizeLine/\(a==sysModules)=false/\∃ xs:List (List Key×Addr×Value),
  Paired (fun (p:List Key×V) (q:List Key×Addr×Value)=>p.1=q.1/\H q.2.1=some (.tup (p.1.map kV))/\RelV p.2 q.2.2) kvs xs /\
  ∃ o es ep,h.get? a=some o/\o.ExactDict/\o.data=.dict es ep/\es.toList=xs.map (entryOfKey (tupleKind (PJ P w)))/\(xs.map (·.1)).Nodup
 | .set S n=>h.SetOf (intKind P w) a S n
 | .ins C dx fs=>H dx=some (.own a)/\fs.length<=1000/\dx≠a/\h.get? a=some (PySem.W.instObj C dx) /\
  ∃ mA,h.Ns1 dx mA/\(∀ f,J5m (fs.lookup f) (mA f))/\PySem.Within mA (fs.map (·.1))
 | .own _=>∃ o,h.get? a=some o
 | .xd fs=>∃ mA,h.Ns1 a mA/\∀ f,J5m (fs.lookup f) (mA f)
 | .rng lo hi=>∃ t u v,h.get? a=some { cls:=.type "range",data:=.fields #[.int lo t,.int hi u,.int 1 v] }
 | .frz o u=>h.get? a=some o/\ObjOk H h a u
 | .tbl ps=>h.get? a=some { cls:=.none,data:=.fields ps }
 | .met f x=>h.get? a=some (PySem.W.methodObj (.ref f) (.ref x))
 | .ext φ=>φ h/\(∃ o,h.get? a=some o)/\∀ h1 h2:Heap,φ h1->(∀ o,h1.get? a=some o->h2.get? a=some o)->φ h2
def HOk (H:Hp)(h:Heap):Prop:=∀ a o,H a=some o->ObjOk P w H h a o
end
section
variable {P:Program}{w:World}{H H':Hp}{h h':Heap}{a:Addr}{o:HO}
theorem ObjOk.lt (x:ObjOk P w H h a o):a<h.objs.size:=by
 cases o with
 | lst xs=>obtain ⟨_,_,_,_,e⟩:=x;exact Heap.lt_size e
 | tup xs=>obtain ⟨_,_,_,p⟩:=x;exact p.lt
 | dK kvs=>obtain ⟨_,_,_,_,o,_,_,e,_⟩:=x;exact Heap.lt_size e
 | dT kvs=>obtain ⟨_,_,_,_,o,_,_,e,_⟩:=x;exact Heap.lt_size e
 | set S n=>obtain ⟨o,_,_,_,e,_⟩:=x;exact Heap.lt_size e
 | ins C dx fs=>obtain ⟨_,_,_,e,_⟩:=x;exact Heap.lt_size e
 | own y=>obtain ⟨_,e⟩:=x;exact Heap.lt_size e
 | xd fs=>obtain ⟨_,⟨_,_,_,e,_⟩,_⟩:=x;exact Heap.lt_size e
 | rng lo hi=>obtain ⟨_,_,_,e⟩:=x;exact Heap.lt_size e
 | frz ob u=>obtain ⟨e,_⟩:=x;exact Heap.lt_size e
 | tbl ps=>exact Heap.lt_size (show h.get? a=some _ from x)
 | met f y=>exact Heap.lt_size (show h.get? a=some _ from x)
 | ext φ=>obtain ⟨_,⟨_,e⟩,_⟩:=x;exact Heap.lt_size e
theorem Paired.mapP {α β:Type}{F G:α->β->Prop}:∀ {l₁:List α} {l₂:List β},Paired F l₁ l₂->(∀ a b,F a b->G a b)->Paired G l₁ l₂
 | _,_,.nil,_=>.nil
 | _,_,.cons r t,f=>.cons (f _ _ r) (Paired.mapP t f)
theorem ObjOk.stay (x:ObjOk P w H h a o)(k:∀ b u,(b=a\/H b=some (.own a))->h.get? b=some u->h'.get? b=some u)
 (ho:∀ b,H b=some (.own a)->H' b=some (.own a)) (ht:∀ b xs,H b=some (.tup xs)->H' b=some (.tup xs)):ObjOk P w H' h' a o:=by
 induction o with
 | lst xs=>obtain ⟨z,its,n,r,e⟩:=x;exact ⟨z,its,n,r,k _ _ (.inl rfl) e⟩
 | tup xs=>obtain ⟨z,its,r,ob,e,c⟩:=x;exact ⟨z,its,r,ob,k _ _ (.inl rfl) e,c⟩
 | dK kvs=>obtain ⟨z,y,vs,r,ob,es,ep,e,c⟩:=x;exact ⟨z,y,vs,r,ob,es,ep,k _ _ (.inl rfl) e,c⟩
 | dT kvs =>
   obtain ⟨z,y,xs,r,ob,es,ep,e,c⟩:=x
   exact ⟨z,y,xs,Paired.mapP r fun p q z=>⟨z.1,ht _ _ z.2.1,z.2.2⟩,ob,es,ep,k _ _ (.inl rfl) e,c⟩
 | set S n=>obtain ⟨ob,es,ep,t,e,c⟩:=x;exact ⟨ob,es,ep,t,k _ _ (.inl rfl) e,c⟩
 | ins C dx fs =>
   obtain ⟨d,z,ne,e,mA,⟨od,es,ep,e2,c⟩,r⟩:=x
   exact ⟨ho _ d,z,ne,k _ _ (.inl rfl) e,mA,⟨od,es,ep,k _ _ (.inr d) e2,c⟩,r⟩
 | own y=>obtain ⟨ob,e⟩:=x;exact ⟨ob,k _ _ (.inl rfl) e⟩
 | xd fs=>obtain ⟨mA,⟨od,es,ep,e,c⟩,r⟩:=x;exact ⟨mA,⟨od,es,ep,k _ _ (.inl rfl) e,c⟩,r⟩
 | rng lo hi=>obtain ⟨t,u,v,e⟩:=x;exact ⟨t,u,v,k _ _ (.inl rfl) e⟩
 | frz ob u ih=>obtain ⟨e,q⟩:=x;exact ⟨k _ _ (.inl rfl) e,ih q⟩
 | tbl ps =>
   have e:h.get? a=some { cls:=.none,data:=.fields ps }:=x
   show h'.get? a=some { cls:=.none,data:=.fields ps }
   exact k a _ (.inl rfl) e
 | met f y =>
   have e:h.get? a=some (PySem.W.methodObj (.ref f) (.ref y)):=x
   show h'.get? a=some (PySem.W.methodObj (.ref f) (.ref y))
   exact k a _ (.inl rfl) e
 | ext φ=>obtain ⟨p,⟨o,e⟩,st⟩:=x;exact ⟨st _ _ p fun o q=>k _ _ (.inl rfl) q,⟨o,k _ _ (.inl rfl) e⟩,st⟩
theorem HOk.lt (x:HOk P w H h)(e:H a=some o):a<h.objs.size:=(x a o e).lt
theorem HOk.fresh (x:HOk P w H h)(e:h.objs.size<=a):H a=none:=by
 cases q:H a with
 | none=>rfl
 | some u=>exact absurd (Nat.lt_of_lt_of_le (x.lt q) e) (Nat.lt_irrefl _)
theorem HOk.kept (x:HOk P w H h)(k:∀ b u,h.get? b=some u->h'.get? b=some u):HOk P w H h':=fun a o e =>
 (x a o e).stay (fun b u _ q=>k b u q) (fun _ q=>q) fun _ _ q=>q
theorem HOk.laid (x:HOk P w H h)(k:∀ b u,h.get? b=some u->h'.get? b=some u)(hp:h.objs.size<=a)(new:ObjOk P w (upd H a o) h' a o):HOk P w (upd H a o) h':=fun b u e=>by
 have hn:=x.fresh hp
 by_cases hb:b=a
 · subst hb;rw [Q5] at e;cases e;exact new
 · rw [Q3 hb] at e
   exact (x b u e).stay (fun c v _ q=>k c v q) (fun c q=>by rw [Q3 (Q4 q hn)];exact q) fun c xs q=>by rw [Q3 (Q4 q hn)];exact q
end
def Rd (H:Hp)(a:Addr)(u:HO):Prop:=H a=some u\/∃ o,H a=some (.frz o u)
theorem Rd.of {H:Hp}{a:Addr}{u:HO}(h:H a=some u):Rd H a u:=.inl h
theorem Rd.ok {H:Hp}{h:Heap}{a:Addr}{u:HO}(r:Rd H a u)(x:HOk P w H h):ObjOk P w H h a u:=by
 rcases r with r|⟨o,r⟩
 · exact x a u r
 · obtain ⟨_,q⟩:=x a _ r
   exact q
def Mut:Option HO->Prop
 | some (.lst _)=>True
 | some (.dK _)=>True
 | some (.dT _)=>True
 | some (.set _ _)=>True
 | some (.ins _ _ _)=>True
 | some (.ext _)=>True
 | _=>False
section
variable {P:Program}{w:World}{H:Hp}{h h':Heap}{x e:Addr}{o':HO}
theorem HOk.write (ok:HOk P w H h)(mu:Mut (H x))(he:e=x\/H e=some (.own x))(k:∀ b u,b≠e->h.get? b=some u->h'.get? b=some u)(heo:∃ u,h'.get? e=some u)
 (new:ObjOk P w (upd H x o') h' x o'):HOk P w (upd H x o') h':=fun b u q=>by
 have nown:∀ c y,H c=some (.own y)->c≠x:=fun c y r z=>by subst z;rw [r] at mu;exact mu
 have ntup:∀ c xs,H c=some (.tup xs)->c≠x:=fun c xs r z=>by subst z;rw [r] at mu;exact mu
 by_cases hb:b=x
 · subst hb;rw [Q5] at q;cases q;exact new
 · rw [Q3 hb] at q
   by_cases hbe:b=e
   · have q':H b=some (.own x):=by
      rcases he with z|z
      · exact absurd (hbe.trans z) hb
      · rw [hbe];exact z
     rw [q] at q';cases q'
     obtain ⟨v,hv⟩:=heo
     exact ⟨v,by rw [hbe];exact hv⟩
   · refine (ok b u q).stay (fun c v hc r=>k c v ?_ r) (fun c r=>by rw [Q3 (nown c b r)];exact r) fun c xs r=>by rw [Q3 (ntup c xs r)];exact r
     rcases hc with rfl|hc
     · exact hbe
     · rintro rfl
       rcases he with z|z
       · exact nown c b hc z
       · rw [hc] at z;cases z;exact hb rfl
end
structure Un (fs ex:List Addr)(H H':Hp)(h h':Heap):Prop where
 keep:∀ b o,h.get? b=some o->H b=none->b∉fs->b∉ex->h'.get? b=some o
 slot:∀ b o,h.get? b=some o->H b=none->b∈fs->b∉ex->∃ sl,h'.get? b=some { o with slots:=sl }
 free:∀ b o,h.get? b=some o->H b=none->b∉ex->H' b=none
 there:∀ b o,h.get? b=some o->b∉ex->∃ o',h'.get? b=some o'
 tups:∀ b xs,H b=some (.tup xs)->H' b=some (.tup xs)
 frzs:∀ b o u,H b=some (.frz o u)->H' b=some (.frz o u)
 tbls:∀ b ps,H b=some (.tbl ps)->∃ more,H' b=some (.tbl (ps++more))
section
variable {fs fs' ex ex':List Addr}{H H1 H2:Hp}{h h1 h2 h':Heap}{a x e:Addr}{o:HO}
theorem Un.any (u:Un fs ex H H1 h h1){b:Addr}{ob:Obj}(q:h.get? b=some ob)(n:H b=none)(hx:b∉ex):∃ sl,h1.get? b=some { ob with slots:=sl }:=by
 by_cases hb:b∈fs
 · exact u.slot b ob q n hb hx
 · exact ⟨ob.slots,u.keep b ob q n hb hx⟩
theorem Un.trans (a:Un fs ex H H1 h h1)(b:Un fs ex H1 H2 h1 h2):Un fs ex H H2 h h2 where
 keep:=fun c ob q n hc hx=>b.keep c ob (a.keep c ob q n hc hx) (a.free c ob q n hx) hc hx
 slot:=fun c ob q n hc hx=>by
  obtain ⟨sl,e1⟩:=a.slot c ob q n hc hx
  obtain ⟨sl',e2⟩:=b.slot c _ e1 (a.free c ob q n hx) hc hx
  exact ⟨sl',e2⟩
 free:=fun c ob q n hx=>by
  obtain ⟨o',e1⟩:=a.there c ob q hx
  exact b.free c o' e1 (a.free c ob q n hx) hx
 there:=fun c ob q hx=>by
  obtain ⟨o',e1⟩:=a.there c ob q hx
  exact b.there c o' e1 hx
 tups:=fun c xs q=>b.tups c xs (a.tups c xs q)
 frzs:=fun c ob xs q=>b.frzs c ob xs (a.frzs c ob xs q)
 tbls:=fun c ps q=>by
  obtain ⟨m1,e1⟩:=a.tbls c ps q
  obtain ⟨m2,e2⟩:=b.tbls c _ e1
  exact ⟨m1++m2,by rw [e2,Array.append_assoc]⟩
theorem Un.kept (k:∀ b u,h.get? b=some u->h'.get? b=some u):Un fs ex H H h h' :=
 ⟨fun b ob q _ _ _=>k b ob q,fun b ob q _ _ _=>⟨ob.slots,k b ob q⟩,fun _ _ _ n _=>n,fun b ob q _=>⟨ob,k b ob q⟩,fun _ _ q=>q,fun _ _ _ q=>q,fun _ ps q=>⟨#[],by rw [q];simp⟩⟩
theorem Un.refl:Un fs ex H H h h:=Un.kept fun _ _ q=>q
theorem Un.laid (k:∀ b u,h.get? b=some u->h'.get? b=some u)(hp:h.objs.size<=a)(hn:H a=none):Un fs ex H (upd H a o) h h' where
 keep:=fun b u q _ _ _=>k b u q
 slot:=fun b u q _ _ _=>⟨u.slots,k b u q⟩
 free:=fun b u q n _=>by rw [Q3 (Nat.ne_of_lt (Nat.lt_of_lt_of_le (Heap.lt_size q) hp))];exact n
 there:=fun b u q _=>⟨u,k b u q⟩
 tups:=fun b xs q=>by rw [Q3 (Q4 q hn)];exact q
 frzs:=fun b u xs q=>by rw [Q3 (Q4 q hn)];exact q
 tbls:=fun b ps q=>⟨#[],by rw [Q3 (Q4 q hn),q];simp⟩
theorem Un.write (mu:Mut (H x))(he:e=x\/H e=some (.own x))(k:∀ b u,b≠e->h.get? b=some u->h'.get? b=some u)(heo:∃ u,h'.get? e=some u):Un fs ex H (upd H x o) h h':=by
 have hx:∀ b,H b=none->b≠x:=fun b n z=>by subst z;rw [n] at mu;exact mu
 have hb:∀ b,H b=none->b≠e:=fun b n z=>by
  subst z
  rcases he with r|r
  · exact hx b n r
  · rw [n] at r;cases r
 have hm:∀ b u,H b=some u->¬ Mut (some u)->b≠x:=fun b u q nm z=>by subst z;rw [q] at mu;exact nm mu
 refine ⟨fun b u q n _ _=>k b u (hb b n) q,fun b u q n _ _=>⟨u.slots,k b u (hb b n) q⟩,fun b u q n _=>by rw [Q3 (hx b n)];exact n,fun b u q _=>?_,
  fun b xs q=>by rw [Q3 (hm b _ q fun z=>z)];exact q,fun b u xs q=>by rw [Q3 (hm b _ q fun z=>z)];exact q,fun b ps q=>⟨#[],by rw [Q3 (hm b _ q fun z=>z),q];simp⟩⟩
 by_cases hbe:b=e
 · subst hbe;exact heo
 · exact ⟨u,k b u hbe q⟩
theorem Un.mono (u:Un fs ex H H1 h h1)(hs:∀ b∈fs,b∈fs')(hx:∀ b∈ex,b∈ex'):Un fs' ex' H H1 h h1 :=
 ⟨fun b ob q n hb he=>u.keep b ob q n (fun z=>hb (hs b z)) fun z=>he (hx b z),fun _ _ q n _ he=>u.any q n fun z=>he (hx _ z),fun b ob q n he=>u.free b ob q n fun z=>he (hx b z),fun b ob q he=>u.there b ob q fun z=>he (hx b z),u.tups,u.frzs,u.tbls⟩
end
def trk (h:Heap)(H:Hp):List Addr:=(List.range h.objs.size).filter fun a=>(H a).isSome
def PM (h:Heap)(H:Hp):Heap:=PySem.W.hideAll h (trk h H)
theorem ZL (h:Heap)(H:Hp):(PM h H).objs.size=h.objs.size:=PySem.W.hideAll_size _ _
theorem J4a {h:Heap}{H:Hp}{b:Addr}{o:Obj}(e:h.get? b=some o)(n:H b=none):(PM h H).get? b=some o :=
 PySem.W.hideAll_get _ e fun hm=>by
  have q:(H b).isSome=true:=(List.mem_filter.mp hm).2
  rw [n] at q;simp at q
theorem J7e {h:Heap}{H:Hp}{b:Addr}{o:Obj}(e:(PM h H).get? b=some o):h.get? b=some o/\H b=none:=by
 have e':h.get? b=some o:=PySem.W.of_hideAll (trk h H) e
 refine ⟨e',?_⟩
 cases q:H b with
 | none=>rfl
 | some x =>
   have hm:b∈trk h H:=List.mem_filter.mpr ⟨List.mem_range.mpr (Heap.lt_size e'),by simp [q]⟩
   have z:(PM h H).get? b=none:=PySem.W.hideAll_none (trk h H) hm
   rw [z] at e;cases e
def J9e (g h:Heap)(L:Addr):List (Addr×Obj):=(List.range h.objs.size).filterMap fun a=>if a=L\/(g.get? a).isSome=true then none else (h.get? a).map fun o=>(a,o)
def rest (g h:Heap)(L d:Addr):List (Addr×Obj):=(J9e g h L).filter fun p=>decide (p.1≠d)
structure Mod (K:Fg)(mg:Str->Option Value)(base:Heap):Prop where
 kin:K.In base
 glob:base.Ns mainGlobals mg
 blt:∃ mb,base.Ns builtinsNs mb/\∀ x:Str,x≠"__name__"->mb x=bootBuiltins x
 nolimit:base.NoLimit
structure Cx where
 prog:Program
 w:World
 K:Fg
 mg:Str->Option Value
 base:Heap
 A:Around
 N:List Str
 s₀:Shared
 H₀:Hp
 env:Env
 outer:List Env
 stack:List Env
 ex:List Addr
 fn:Str->Bool
 calm:Bool
 pn:List (Addr×Obj)
 xe:Value->Shared->Prop
def frs (l:List Env):List Addr:=l.filterMap (·.frame)
abbrev Cx.fs (X:Cx):List Addr:=frs X.outer
def Vis (sc:Scope)(x:Str):Prop:=sc.names.lookup x=some .local\/sc.names.lookup x=some .cell\/sc.names.lookup x=some .free
def Loc (sc:Scope)(x:Str):Prop:=sc.names.lookup x=some .local\/sc.names.lookup x=some .cell
def Q8k (env:Env)(h:Heap)(m:Str->Option Value)(x:Str)(u:Value):Prop :=
 (env.kindOf x=some .local/\m x=some u)\/((env.kindOf x=some .cell\/env.kindOf x=some .free)/\∃ c,env.cells.lookup x=some c/\h.IsCell c (some u))
structure Cx.Ok (X:Cx):Prop where
 mod:Mod X.K X.mg X.base
 kind:X.env.scope.kind=.function
 glob:X.env.globals=mainGlobals
 blt:X.env.builtins=builtinsNs
 above:X.s₀.heap.objs.size<=X.env.locals
 inj:∀ x y c,X.env.cells.lookup x=some c->X.env.cells.lookup y=some c->x=y
 has:∀ x,(X.env.kindOf x=some .cell\/X.env.kindOf x=some .free)->∃ c,X.env.cells.lookup x=some c
 cab:∀ x c,X.fn x=true->X.env.cells.lookup x=some c->X.s₀.heap.objs.size<=c
 hd:X.calm=true->X.A.handled=none
 frames:X.A.frames=some X.stack
 stk:X.stack=X.outer\/(X.stack=X.env::X.outer/\X.env.frame=some X.env.locals)
 exf:∀ b∈X.ex,b≠X.env.locals/\∀ x c,X.env.cells.lookup x=some c->c≠b
 bs:∀ b o,X.base.get? b=some o->X.s₀.heap.get? b=some o/\X.H₀ b=none
 bsz:X.base.objs.size<=X.s₀.heap.objs.size
 noex:∀ b o,X.base.get? b=some o->b∉X.ex
 exfs:∀ b∈X.ex,b∉X.fs
 funs:X.s₀.heap.FunFrames X.base X.outer
 frf:∀ b∈X.fs,X.H₀ b=none
structure Inv (X:Cx)(pins:List (Addr×Obj))(σ:List (Option V))(H:Hp)(s:Shared):Prop where
 ok:X.Ok
 os:s.os=X.s₀.os
 bare:AllBare s.gens
 base:Un X.fs X.ex X.H₀ H X.s₀.heap s.heap
 loc:∃ m,s.heap.Ns X.env.locals m/\∀ (i:Nat) (x:Str) (v:V),X.N[i]?=some x->σ[i]?=some (some v)->Vis X.env.scope x->∃ u,RelV v u/\Q8k X.env s.heap m x u
 cell:∀ x c,X.env.cells.lookup x=some c->∃ v,s.heap.IsCell c v
 free:H X.env.locals=none
 freeC:∀ x c,X.env.cells.lookup x=some c->H c=none
 pin:∀ p∈X.pn++pins,s.heap.get? p.1=some p.2/\H p.1=none/\p.1≠X.env.locals/\p.1∉X.fs/\∀ v,p.2.data≠.cell v
 hok:HOk X.prog X.w H s.heap
 len:σ.length=X.N.length
section
variable {X:Cx}{pins:List (Addr×Obj)}{σ:List (Option V)}{H H':Hp}{s:Shared}{h':Heap}
theorem Cx.Ok.nofr (ok:X.Ok){b:Addr}{o:Obj}(e:X.base.get? b=some o):b∉X.fs:=fun hb=>by
 have:=(ok.funs.mem hb).1
 rw [e] at this;cases this
theorem Inv.bs (I:Inv X pins σ H s):∀ b o,X.base.get? b=some o->s.heap.get? b=some o/\H b=none:=fun b o e =>
 ⟨I.base.keep b o (I.ok.bs b o e).1 (I.ok.bs b o e).2 (I.ok.nofr e) (I.ok.noex b o e),I.base.free b o (I.ok.bs b o e).1 (I.ok.bs b o e).2 (I.ok.noex b o e)⟩
theorem Inv.bk (I:Inv X pins σ H s):∀ b o,X.base.get? b=some o->s.heap.get? b=some o:=fun b o e=>(I.bs b o e).1
theorem Inv.mod (I:Inv X pins σ H s):Mod X.K X.mg X.base:=I.ok.mod
theorem Inv.kIn (I:Inv X pins σ H s):X.K.In s.heap:=I.ok.mod.kin.keeps I.bk
theorem Inv.fr (I:Inv X pins σ H s):∃ m,Fr X.base X.env.locals s.heap m :=
 let ⟨m,hn,_⟩:=I.loc
 ⟨m,hn,I.bk,Nat.le_trans I.ok.bsz I.ok.above⟩
theorem Inv.lt (I:Inv X pins σ H s):X.env.locals<s.heap.objs.size:=let ⟨_,hn,_⟩:=I.loc;hn.lt
theorem Inv.sz (I:Inv X pins σ H s):X.s₀.heap.objs.size<=s.heap.objs.size:=Nat.le_trans I.ok.above (Nat.le_of_lt I.lt)
theorem Inv.nofs (I:Inv X pins σ H s){a:Addr}(h:s.heap.objs.size<=a):a∉X.fs:=fun hb=>by
 obtain ⟨_,o,ho,_⟩:=I.ok.funs.mem hb
 exact absurd (Nat.lt_of_lt_of_le (Heap.lt_size ho) (Nat.le_trans I.sz h)) (Nat.lt_irrefl _)
theorem Inv.cne (I:Inv X pins σ H s):∀ x c,X.env.cells.lookup x=some c->c≠X.env.locals:=fun x c e z=>by
 obtain ⟨v,o,ho,hd⟩:=I.cell x c e
 obtain ⟨m,⟨o',es,ep,ho',hd',_⟩,_⟩:=I.loc
 rw [z,ho'] at ho;cases ho;rw [hd'] at hd;cases hd
theorem Inv.funs (I:Inv X pins σ H s):s.heap.FunFrames X.base X.outer:=by
 have all:∀ (l:List Env),(∀ b∈frs l,b∈X.fs)->X.s₀.heap.FunFrames X.base l->s.heap.FunFrames X.base l:=by
  intro l
  induction l with
  | nil=>intro _ _;trivial
  | cons env r ih =>
    intro hs hl
    obtain ⟨hk,⟨L,o,hf,hn,ho,hd⟩,hr⟩:=hl
    have hL:L∈X.fs:=hs L (by unfold frs;rw [List.filterMap_cons,hf];exact List.mem_cons_self)
    obtain ⟨sl,e⟩:=I.base.slot L o ho (I.ok.frf L hL) hL fun z=>I.ok.exfs L z hL
    exact ⟨hk,⟨L,_,hf,hn,e,hd⟩,ih (fun b hb=>hs b (by unfold frs;rw [List.filterMap_cons,hf];exact List.mem_cons_of_mem _ hb)) hr⟩
 exact all X.outer (fun _ hb=>hb) I.ok.funs
theorem Inv.stack (I:Inv X pins σ H s):s.heap.FunFrames X.base X.stack:=by
 rcases I.ok.stk with e|⟨e,hf⟩
 · rw [e];exact I.funs
 · rw [e]
   obtain ⟨m,hn,_⟩:=I.loc
   refine .cons (by rw [I.ok.kind];decide) hf hn ?_ I.funs
   exact Heap.get?_none_of_le (Nat.le_trans I.ok.bsz I.ok.above)
theorem Inv.stkSub (I:Inv X pins σ H s):∀ b∈frs X.stack,b∈X.env.locals::X.fs:=fun b hb=>by
 rcases I.ok.stk with e|⟨e,hf⟩
 · rw [e] at hb;exact List.mem_cons_of_mem _ hb
 · rw [e] at hb
   unfold frs at hb
   rw [List.filterMap_cons,hf] at hb
   exact hb
theorem Inv.stkFree (I:Inv X pins σ H s):∀ b∈frs X.stack,H b=none:=fun b hb=>by
 rcases List.mem_cons.mp (I.stkSub b hb) with e|hb
 · rw [e];exact I.free
 · obtain ⟨_,o,ho,_⟩:=I.ok.funs.mem hb
   exact I.base.free b o ho (I.ok.frf b hb) fun z=>I.ok.exfs b z hb
theorem Inv.step {g':Array GenState}{t':Nat}{d':Drawn}{ch:List Addr}(I:Inv X pins σ H s)
 (hch:∀ b∈ch,(b∈X.ex\/X.s₀.heap.objs.size<=b)/\b≠X.env.locals/\(∀ x c,X.env.cells.lookup x=some c->c≠b)/\∀ p∈X.pn++pins,p.1≠b)
 (keep:∀ b o,b≠X.env.locals->b∉X.fs->b∉ch->s.heap.get? b=some o->H b=none->h'.get? b=some o)
 (slot:∀ b o,b≠X.env.locals->b∈X.fs->b∉ch->s.heap.get? b=some o->H b=none->∃ sl,h'.get? b=some { o with slots:=sl }) (free:∀ b o,b∉ch->s.heap.get? b=some o->H b=none->H' b=none)
 (there:∀ b o,b∉ch->s.heap.get? b=some o->∃ o',h'.get? b=some o')
 (tups:∀ b xs,H b=some (.tup xs)->H' b=some (.tup xs)) (frzs:∀ b o u,H b=some (.frz o u)->H' b=some (.frz o u)) (tbls:∀ b ps,H b=some (.tbl ps)->∃ more,H' b=some (.tbl (ps++more)))
 (ns:∀ m,s.heap.Ns X.env.locals m->h'.Ns X.env.locals m) (hok:HOk X.prog X.w H' h') (hg:AllBare g') :
 Inv X pins σ H' { s with heap:=h',gens:=g',drawn:=d',toks:=t' }:=by
 have neL:∀ b o,X.s₀.heap.get? b=some o->b≠X.env.locals:=fun b o e=>Nat.ne_of_lt (Nat.lt_of_lt_of_le (Heap.lt_size e) I.ok.above)
 have neC:∀ b o,X.s₀.heap.get? b=some o->b∉X.ex->b∉ch:=fun b o e hx hb=>by
  rcases (hch b hb).1 with z|z
  · exact hx z
  · exact absurd (Nat.lt_of_lt_of_le (Heap.lt_size e) z) (Nat.lt_irrefl _)
 have cellK:∀ x c,X.env.cells.lookup x=some c->∀ v,s.heap.IsCell c v->h'.IsCell c v:=fun x c e v ⟨o,ho,hd⟩=>by
  have nch:c∉ch:=fun z=>(hch c z).2.2.1 x c e rfl
  by_cases hc:c∈X.fs
  · obtain ⟨sl,q⟩:=slot c o (I.cne x c e) hc nch ho (I.freeC x c e)
    exact ⟨_,q,hd⟩
  · exact ⟨o,keep c o (I.cne x c e) hc nch ho (I.freeC x c e),hd⟩
 refine ⟨I.ok,I.os,hg,⟨fun b o e n hb hx=>?_,fun b o e n hb hx=>?_,fun b o e n hx=>?_,fun b o e hx=>?_,fun b xs e=>tups b xs (I.base.tups b xs e),fun b o xs e=>frzs b o xs (I.base.frzs b o xs e),fun b ps e=>?_⟩,?_,fun x c e=>?_,?_,fun x c e=>?_,fun p hp=>?_,hok,I.len⟩
 · exact keep b o (neL b o e) hb (neC b o e hx) (I.base.keep b o e n hb hx) (I.base.free b o e n hx)
 · obtain ⟨sl,e1⟩:=I.base.slot b o e n hb hx
   obtain ⟨sl',e2⟩:=slot b _ (neL b o e) hb (neC b o e hx) e1 (I.base.free b o e n hx)
   exact ⟨sl',e2⟩
 · obtain ⟨o',e1⟩:=I.base.there b o e hx
   exact free b o' (neC b o e hx) e1 (I.base.free b o e n hx)
 · obtain ⟨o',e1⟩:=I.base.there b o e hx
   exact there b o' (neC b o e hx) e1
 · obtain ⟨m1,e1⟩:=I.base.tbls b ps e
   obtain ⟨m2,e2⟩:=tbls b _ e1
   exact ⟨m1++m2,by rw [e2,Array.append_assoc]⟩
 · obtain ⟨m,hn,hl⟩:=I.loc
   refine ⟨m,ns m hn,fun i x v e1 e2 e3=>?_⟩
   obtain ⟨u,r,l⟩:=hl i x v e1 e2 e3
   refine ⟨u,r,?_⟩
   rcases l with l|⟨k,c,e,z⟩
   · exact .inl l
   · exact .inr ⟨k,c,e,cellK x c e _ z⟩
 · obtain ⟨v,z⟩:=I.cell x c e
   exact ⟨v,cellK x c e v z⟩
 · obtain ⟨m,⟨o,_,_,ho,_⟩,_⟩:=I.loc
   exact free _ o (fun z=>(hch _ z).2.1 rfl) ho I.free
 · obtain ⟨v,o,ho,hd⟩:=I.cell x c e
   exact free c o (fun z=>(hch c z).2.2.1 x c e rfl) ho (I.freeC x c e)
 · obtain ⟨e,n,ne,nf,d⟩:=I.pin p hp
   have nch:p.1∉ch:=fun z=>(hch p.1 z).2.2.2 p hp rfl
   exact ⟨keep p.1 p.2 ne nf nch e n,free p.1 p.2 nch e n,ne,nf,d⟩
theorem Inv.un {t':Nat}(I:Inv X pins σ H s)(u:Un X.fs [] H H' s.heap h')(hok:HOk X.prog X.w H' h'):Inv X pins σ H' { s with heap:=h',toks:=t' }:=by
 obtain ⟨m,⟨o,es,ep,ho,r⟩,_⟩:=id I.loc
 obtain ⟨sl,hL⟩:=u.any ho I.free (by simp)
 exact I.step (g':=s.gens) (d':=s.drawn) (ch:=[]) (fun _ z=>nomatch z) (fun b o _ hb _ e n=>u.keep b o e n hb (by simp)) (fun b o _ hb _ e n=>u.slot b o e n hb (by simp)) (fun b o _ e n=>u.free b o e n (by simp)) (fun b o _ e=>u.there b o e (by simp)) u.tups u.frzs u.tbls (fun m' hm=>by
  obtain ⟨o',es',ep',ho',r'⟩:=hm
  rw [ho] at ho';cases ho'
  exact ⟨_,es',ep',hL,r'⟩) hok I.bare
theorem Inv.call {g':Array GenState}{t':Nat}{d':Drawn}{ch:List Addr}(I:Inv X pins σ H s)(u:Un (frs X.stack) ch H H' s.heap h')(hok:HOk X.prog X.w H' h')(hg:AllBare g')
 (hch:∀ b∈ch,(b∈X.ex\/X.s₀.heap.objs.size<=b)/\b≠X.env.locals/\(∀ x c,X.env.cells.lookup x=some c->c≠b)/\∀ p∈X.pn++pins,p.1≠b) :
 Inv X pins σ H' { s with heap:=h',gens:=g',drawn:=d',toks:=t' }:=by
 obtain ⟨m,⟨o,es,ep,ho,r⟩,_⟩:=id I.loc
 obtain ⟨sl,hL⟩:=u.any ho I.free fun z=>(hch _ z).2.1 rfl
 exact I.step (ch:=ch) hch (fun b o hL hb hc e n=>u.keep b o e n (fun z=>(List.mem_cons.mp (I.stkSub b z)).elim hL hb) hc) (fun b o _ _ hc e n=>u.any e n hc) (fun b o hc e n=>u.free b o e n hc) (fun b o hc e=>u.there b o e hc) u.tups u.frzs u.tbls (fun m' hm=>by
  obtain ⟨o',es',ep',ho',r'⟩:=hm
  rw [ho] at ho';cases ho'
  exact ⟨_,es',ep',hL,r'⟩) hok hg
theorem Inv.turned {t':Nat}{it:Addr}(I:Inv X pins σ H s)(k:∀ b o,b≠it->s.heap.get? b=some o->h'.get? b=some o)(hn:H it=none)(hL:it≠X.env.locals)
 (h1:it∈X.ex\/X.s₀.heap.objs.size<=it) (h2:∀ x c,X.env.cells.lookup x=some c->c≠it) (h3:∀ p∈X.pn++pins,p.1≠it):Inv X pins σ H { s with heap:=h',toks:=t' }:=by
 have nit:∀ b u,H b=some u->b≠it:=fun b u e z=>by rw [z,hn] at e;cases e
 refine I.step (g':=s.gens) (d':=s.drawn) (ch:=[it]) (fun b hb=>?_) (fun b o _ _ hc e _=>k b o (fun z=>hc (by simp [z])) e) (fun b o _ _ hc e _=>⟨o.slots,k b o (fun z=>hc (by simp [z])) e⟩) (fun _ _ _ _ n=>n)
  (fun b o hc e=>⟨o,k b o (fun z=>hc (by simp [z])) e⟩) (fun _ _ e=>e) (fun _ _ _ e=>e) (fun b ps e=>⟨#[],by rw [e];simp⟩) (fun m hm=>?_) (fun b u e=>?_) I.bare
 · have e:b=it:=by simpa using hb
   subst e
   exact ⟨h1,hL,h2,h3⟩
 · obtain ⟨o,es,ep,ho,r⟩:=hm
   exact ⟨o,es,ep,k _ o (Ne.symm hL) ho,r⟩
 · refine (I.hok b u e).stay (fun c v hc q=>k c v ?_ q) (fun _ q=>q) fun _ _ q=>q
   rcases hc with z|z
   · rw [z];exact nit b u e
   · exact nit c _ z
theorem Inv.tok (I:Inv X pins σ H s)(t:Nat):Inv X pins σ H { s with toks:=t }:=I.un (h':=s.heap) (t':=t) Un.refl I.hok
theorem Inv.kept {t':Nat}(I:Inv X pins σ H s)(k:∀ b u,s.heap.get? b=some u->h'.get? b=some u):Inv X pins σ H { s with heap:=h',toks:=t' }:=I.un (Un.kept k) (I.hok.kept k)
theorem Inv.laid {a:Addr}{o:HO}{t':Nat}(I:Inv X pins σ H s)(k:∀ b u,s.heap.get? b=some u->h'.get? b=some u)(hp:s.heap.objs.size<=a)(new:ObjOk X.prog X.w (upd H a o) h' a o) :
 Inv X pins σ (upd H a o) { s with heap:=h',toks:=t' }:=I.un (Un.laid k hp (I.hok.fresh hp)) (I.hok.laid k hp new)
theorem Inv.write {x e:Addr}{o:HO}{t':Nat}(I:Inv X pins σ H s)(mu:Mut (H x))(he:e=x\/H e=some (.own x))(k:∀ b u,b≠e->s.heap.get? b=some u->h'.get? b=some u)(heo:∃ u,h'.get? e=some u)
 (new:ObjOk X.prog X.w (upd H x o) h' x o):Inv X pins σ (upd H x o) { s with heap:=h',toks:=t' }:=I.un (Un.write mu he k heo) (I.hok.write mu he k heo new)
theorem Inv.weak {σ':List (Option V)}(I:Inv X pins σ H s)(hl:σ'.length=σ.length)(w:∀ (i:Nat) v,σ'[i]?=some (some v)->σ[i]?=some (some v)):Inv X pins σ' H s :=
 ⟨I.ok,I.os,I.bare,I.base,let ⟨m,hn,hl'⟩:=I.loc;⟨m,hn,fun i x v e1 e2 e3=>hl' i x v e1 (w i v e2) e3⟩,I.cell,I.free,I.freeC,I.pin,I.hok,hl.trans I.len⟩
theorem Inv.pins_of {pins':List (Addr×Obj)}(I:Inv X pins σ H s)(h:∀ p∈pins',s.heap.get? p.1=some p.2/\H p.1=none/\p.1≠X.env.locals/\p.1∉X.fs/\∀ v,p.2.data≠.cell v):Inv X pins' σ H s :=
 ⟨I.ok,I.os,I.bare,I.base,I.loc,I.cell,I.free,I.freeC,fun p hp=>(List.mem_append.mp hp).elim (fun z=>I.pin p (List.mem_append_left _ z)) (h p),I.hok,I.len⟩
theorem SK {N:List Str}(hN:N.Nodup){i j:Nat}{x:Str}(a:N[i]?=some x)(b:N[j]?=some x):i=j:=by
 obtain ⟨h1,e1⟩:=List.getElem?_eq_some_iff.mp a
 obtain ⟨h2,e2⟩:=List.getElem?_eq_some_iff.mp b
 exact (List.getElem_inj hN).mp (e1.trans e2.symm)
theorem MO {M:Model}{A:Around}{E:Value->Shared->Prop}{i:Nat}{x:Str}{v:V}{u:Value}{Q:Unit->Shared->Prop}(I:Inv X pins σ H s)(hN:X.N.Nodup)(hi:X.N[i]?=some x)(hx:Loc X.env.scope x)(r:RelV v u)
 (h:∀ s',Inv X pins (σ.set i (some v)) H s'->(∃ a,Heap.SameBut a s.heap s'.heap/\(a=X.env.locals\/X.env.cells.lookup x=some a))->Q () s') (hf:X.fn x=true\/X.env.scope.names.lookup x=some .local:=by first|exact .inl rfl|exact .inr rfl|assumption):wpAny M A (storeName X.env x u) Q E s:=by
 obtain ⟨m,hn,hl⟩:=id I.loc
 have hcls:(X.env.scope.kind==.class||(X.env.scope.kind==.module&&X.env.locals != X.env.globals))=false:=by rw [I.ok.kind];rfl
 have hiσ:i<σ.length:=by rw [I.len];exact (List.getElem?_eq_some_iff.mp hi).1
 have cne:=I.cne
 have tracked:∀ {a:Addr} {h':Heap},(∃ o,s.heap.get? a=some o/\H a=none)->Heap.SameBut a s.heap h'->HOk X.prog X.w H h':=fun {a h'} ha hs b ob e=>by
  obtain ⟨_,_,hfree⟩:=ha
  refine (I.hok b ob e).stay (fun c w' hc q=>(hs.2 c ?_).trans q) (fun _ q=>q) fun _ _ q=>q
  rintro rfl
  rcases hc with rfl|hc
  · rw [hfree] at e;cases e
  · rw [hfree] at hc;cases hc
 rcases hx with hk|hk
 · refine wpAny_storeName_local hk hn (fun h' hn' hs=>?_) hcls
   obtain ⟨oL,_,_,hoL,_⟩:=id hn
   refine h _ ⟨I.ok,I.os,I.bare,⟨fun b o e n hb hx=>?_,fun b o e n hb hx=>?_,I.base.free,fun b o e hx=>?_,I.base.tups,I.base.frzs,I.base.tbls⟩,⟨_,hn',fun j y v' e1 e2 e3=>?_⟩,fun y c e=>?_,I.free,I.freeC,fun p hp=>?_,tracked ⟨oL,hoL,I.free⟩ hs,by simpa using I.len⟩ ⟨_,hs,.inl rfl⟩
   · exact (hs.2 b (Nat.ne_of_lt (Nat.lt_of_lt_of_le (Heap.lt_size e) I.ok.above))).trans (I.base.keep b o e n hb hx)
   · obtain ⟨sl,e1⟩:=I.base.slot b o e n hb hx
     exact ⟨sl,(hs.2 b (Nat.ne_of_lt (Nat.lt_of_lt_of_le (Heap.lt_size e) I.ok.above))).trans e1⟩
   · obtain ⟨o',e1⟩:=I.base.there b o e hx
     exact ⟨o',(hs.2 b (Nat.ne_of_lt (Nat.lt_of_lt_of_le (Heap.lt_size e) I.ok.above))).trans e1⟩
   · by_cases hj:j=i
     · subst hj
       rw [hi] at e1;cases e1
       rw [List.getElem?_set_self hiσ] at e2
       cases e2
       exact ⟨u,r,.inl ⟨hk,by simp⟩⟩
     · rw [List.getElem?_set_ne (Ne.symm hj)] at e2
       obtain ⟨u',r',q⟩:=hl j y v' e1 e2 e3
       refine ⟨u',r',?_⟩
       rcases q with ⟨k,e⟩|⟨k,c,e,z⟩
       · refine .inl ⟨k,?_⟩
         have:y≠x:=fun e=>hj (SK hN e1 (e▸hi))
         simp [this,e]
       · exact .inr ⟨k,c,e,z.sameBut hs (cne y c e)⟩
   · obtain ⟨w',z⟩:=I.cell y c e
     exact ⟨w',z.sameBut hs (cne y c e)⟩
   · obtain ⟨e,n,ne,nf,d⟩:=I.pin p hp
     exact ⟨(hs.2 p.1 ne).trans e,n,ne,nf,d⟩
 · have hfn:X.fn x=true:=by
    rcases hf with z|z
    · exact z
    · rw [z] at hk;cases hk
   obtain ⟨c,hc⟩:=I.ok.has x (.inl hk)
   obtain ⟨w',z⟩:=I.cell x c hc
   refine wpAny_storeName_cell I.ok.kind hk hc z (fun h' hc' hs=>?_)
   obtain ⟨oc,hoc,hocd⟩:=id z
   refine h { s with heap:=h' } ⟨I.ok,I.os,I.bare,⟨fun b o e n hb hx=>?_,fun b o e n hb hx=>?_,I.base.free,fun b o e hx=>?_,I.base.tups,I.base.frzs,I.base.tbls⟩,⟨m,hn.sameBut hs (Ne.symm (cne x c hc)),fun j y v' e1 e2 e3=>?_⟩,fun y c' e=>?_,I.free,I.freeC,fun p hp=>?_,tracked ⟨oc,hoc,I.freeC x c hc⟩ hs,by simpa using I.len⟩ ⟨c,hs,.inr hc⟩
   · exact (hs.2 b (Nat.ne_of_lt (Nat.lt_of_lt_of_le (Heap.lt_size e) (I.ok.cab x c hfn hc)))).trans (I.base.keep b o e n hb hx)
   · obtain ⟨sl,e1⟩:=I.base.slot b o e n hb hx
     exact ⟨sl,(hs.2 b (Nat.ne_of_lt (Nat.lt_of_lt_of_le (Heap.lt_size e) (I.ok.cab x c hfn hc)))).trans e1⟩
   · obtain ⟨o',e1⟩:=I.base.there b o e hx
     exact ⟨o',(hs.2 b (Nat.ne_of_lt (Nat.lt_of_lt_of_le (Heap.lt_size e) (I.ok.cab x c hfn hc)))).trans e1⟩
   · by_cases hj:j=i
     · subst hj
       rw [hi] at e1;cases e1
       rw [List.getElem?_set_self hiσ] at e2
       cases e2
       exact ⟨u,r,.inr ⟨.inl hk,c,hc,hc'⟩⟩
     · rw [List.getElem?_set_ne (Ne.symm hj)] at e2
       obtain ⟨u',r',q⟩:=hl j y v' e1 e2 e3
       refine ⟨u',r',?_⟩
       rcases q with q|⟨k,c',e,z'⟩
       · exact .inl q
       · refine .inr ⟨k,c',e,z'.sameBut hs ?_⟩
         rintro rfl
         exact hj (SK hN e1 (I.ok.inj _ _ _ e hc▸hi))
   · by_cases hcc:c'=c
     · subst hcc;exact ⟨_,hc'⟩
     · obtain ⟨w2,z2⟩:=I.cell y c' e
       exact ⟨w2,z2.sameBut hs hcc⟩
   · obtain ⟨e,n,ne,nf,d⟩:=I.pin p hp
     refine ⟨(hs.2 p.1 ?_).trans e,n,ne,nf,d⟩
     intro q
     rw [q,hoc] at e
     have q':oc=p.2:=Option.some.inj e
     exact d w' (by rw [<- q'];exact hocd)
theorem GU {M:Model}{A:Around}{E:Value->Shared->Prop}{i:Nat}{x:Str}{v:V}{u:Value}{Q:Unit->Shared->Prop}(I:Inv X pins σ H s)(hN:X.N.Nodup)(hi:X.N[i]?=some x)(hx:Loc X.env.scope x)(r:RelV v u)
 (h:∀ s',Inv X pins (σ.set i (some v)) H s'->Q () s') (hf:X.fn x=true\/X.env.scope.names.lookup x=some .local:=by first|exact .inl rfl|exact .inr rfl|assumption):wpAny M A (storeName X.env x u) Q E s :=
 MO I hN hi hx r (fun s' I' _=>h s' I') hf
theorem Inv.call' {s':Shared}{ch:List Addr}(I:Inv X pins σ H s)(ho:s'.os=s.os)(u:Un (frs X.stack) ch H H' s.heap s'.heap)(hok:HOk X.prog X.w H' s'.heap)(hg:AllBare s'.gens)
 (hch:∀ b∈ch,(b∈X.ex\/X.s₀.heap.objs.size<=b)/\b≠X.env.locals/\(∀ x c,X.env.cells.lookup x=some c->c≠b)/\∀ p∈X.pn++pins,p.1≠b):Inv X pins σ H' s':=by
 obtain ⟨h',g',d',t',o'⟩:=s'
 have e:o'=s.os:=ho
 subst e
 exact I.call (g':=g') (t':=t') (d':=d') u hok hg hch
end
abbrev XK:=Value->Option Addr->Hp->Prop
abbrev St:=List (Option V)
abbrev VK:=V->Hp->Prop
abbrev TE:=St->Hp->VK->Prop
abbrev TT:=St->Hp->(Bool->Hp->Prop)->Prop
abbrev TA:=St->Hp->(List V->Hp->Prop)->Prop
structure Ends where
 nx:St->Hp->Prop
 rt:VK
 bk:St->Hp->Prop:=fun _ _=>False
 ct:St->Hp->Prop:=fun _ _=>False
abbrev TS:=Ends->St->Hp->Prop
def EP (X:Cx)(pins:List (Addr×Obj))(σ:St)(Q:VK)(u:Value)(s':Shared):Prop:=∃ v H',Inv X pins σ H' s'/\RelV v u/\Q v H'
def TP (X:Cx)(pins:List (Addr×Obj))(σ:St)(Q:Bool->Hp->Prop)(b:Bool)(s':Shared):Prop:=∃ H',Inv X pins σ H' s'/\Q b H'
def AP (X:Cx)(pins:List (Addr×Obj))(σ:St)(Q:List V->Hp->Prop)(us:List Value)(s':Shared):Prop:=∃ vs H',Inv X pins σ H' s'/\Vals vs us/\Q vs H'
def SP (X:Cx)(pins:List (Addr×Obj))(D:Ends)(f:Flow)(s':Shared):Prop :=
 match f with
 | .next=>∃ σ' H',Inv X pins σ' H' s'/\D.nx σ' H'
 | .brk=>∃ σ' H',Inv X pins σ' H' s'/\D.bk σ' H'
 | .cont=>∃ σ' H',Inv X pins σ' H' s'/\D.ct σ' H'
 | .ret u=>∃ v σ' H',Inv X pins σ' H' s'/\RelV v u/\D.rt v H'
def PE (X:Cx)(e:Expr)(t:TE):Prop :=
 ∀ (pins:List (Addr×Obj)) (s:Shared) (σ:St) (H:Hp) (Q:VK),Inv X pins σ H s->t σ H Q->wpAny (model X.prog X.w) X.A (eval e X.env) (EP X pins σ Q) X.xe s
def PT (X:Cx)(e:Expr)(t:TT):Prop :=
 ∀ (pins:List (Addr×Obj)) (s:Shared) (σ:St) (H:Hp) (Q:Bool->Hp->Prop),Inv X pins σ H s->t σ H Q->wpAny (model X.prog X.w) X.A (isTrue e X.env (eval e X.env)) (TP X pins σ Q) X.xe s
def PW (X:Cx)(e:Expr)(t:TT):Prop :=
 ∀ (whole:Sem Value) (pins:List (Addr×Obj)) (s:Shared) (σ:St) (H:Hp) (Q:Bool->Hp->Prop),Inv X pins σ H s->t σ H Q->wpAny (model X.prog X.w) X.A (isTrue e X.env whole) (TP X pins σ Q) X.xe s
theorem PW.pt {X:Cx}{e:Expr}{t:TT}(h:PW X e t):PT X e t:=h _
def PA (X:Cx)(es:List Expr)(t:TA):Prop :=
 ∀ (pos:Pos) (pins:List (Addr×Obj)) (s:Shared) (σ:St) (H:Hp) (Q:List V->Hp->Prop),Inv X pins σ H s->t σ H Q->wpAny (model X.prog X.w) X.A (spliced (backTo pos (starEach es X.env))) (AP X pins σ Q) X.xe s
def PS (X:Cx)(st:Stmt)(t:TS):Prop :=
 ∀ (pins:List (Addr×Obj)) (s:Shared) (σ:St) (H:Hp) (D:Ends),Inv X pins σ H s->t D σ H->wpAny (model X.prog X.w) X.A (exec st X.env) (SP X pins D) X.xe s
def PSs (X:Cx)(st:List Stmt)(t:TS):Prop :=
 ∀ (pins:List (Addr×Obj)) (s:Shared) (σ:St) (H:Hp) (D:Ends),Inv X pins σ H s->t D σ H->wpAny (model X.prog X.w) X.A (execs st X.env) (SP X pins D) X.xe s
theorem thn {α:Type}{t:Sem α}{Q Q':α->Shared->Prop}{M:Model}{A:Around}{E:Value->Shared->Prop}{s:Shared}(h:wpAny M A t Q E s)(hQ:∀ a s,Q a s->Q' a s):wpAny M A t Q' E s:=wpAny_mono h hQ fun _ _ x=>x
section
variable {X:Cx}
def JN (i:Nat):TE:=fun σ H Q=>∃ v,σ[i]?=some (some v)/\Q v H
def tC (v:V):TE:=fun _ H Q=>Q v H
theorem OV {i:Nat}{x:Str}{pos:Pos}(hN:X.N[i]?=some x)(hv:Vis X.env.scope x)(hd:(x==("__debug__" : Str))=false:=by decide) (hcd:(x==("__classdict__" : Str))=false:=by decide):PE X (.Name x pos) (JN i):=by
 intro pins s σ H Q I h
 obtain ⟨v,e,h⟩:=h
 obtain ⟨m,hn,hl⟩:=I.loc
 obtain ⟨u,r,l⟩:=hl i x v hN e hv
 have fin:EP X pins σ Q u s:=⟨v,H,I,r,h⟩
 rcases l with ⟨hk,hm⟩|⟨hk,c,hc,hcell⟩
 · exact wpAny_Name (wpAny_loadName_local I.ok.kind hk hn hm fin) hd
 · rcases hk with hk|hk
   · exact wpAny_Name (wpAny_loadName_cell I.ok.kind hk hc hcell fin) hd
   · exact wpAny_Name (wpAny_loadName_free I.ok.kind hk hc hcell fin hcd) hd
theorem V8 {i j pos}:PE X (.Constant (.int i) j pos) (tC (.int i)):=fun _ _ _ H _ I h=>wpAny_Constant_int ⟨.int i,H,I.tok _,⟨_,rfl⟩,h⟩
theorem Q5o {b j pos}:PE X (.Constant (.bool b) j pos) (tC (.bl b)):=fun _ _ _ H _ I h=>Constant_bool ⟨.bl b,H,I,rfl,h⟩
theorem Q1k {x j pos}:PE X (.Constant (.str x) j pos) (tC (.str x)):=fun _ _ _ H _ I h=>Calls.Constant_str ⟨.str x,H,I.tok _,⟨_,rfl⟩,h⟩
def Gl (X:Cx)(x:Str):Prop:=X.env.kindOf x=some .globalImplicit
theorem JC {E:Value->Shared->Prop}{pins:List (Addr×Obj)}{s:Shared}{σ:St}{H:Hp}{x:Str}{u:Value}{pos:Pos}{Q:Value->Shared->Prop}(I:Inv X pins σ H s)(hg:Gl X x)(hm:X.mg x=some u)(h:Q u s)
 (hd:(x==("__debug__" : Str))=false:=by decide):wpAny (model X.prog X.w) X.A (eval (.Name x pos) X.env) Q E s :=
 Calls.Name_function_global I.ok.kind hg (Calls.loadGlobal_global (by rw [I.ok.glob];exact I.mod.glob.keeps I.bk) hm h) hd
theorem KR {E:Value->Shared->Prop}{pins:List (Addr×Obj)}{s:Shared}{σ:St}{H:Hp}{x:Str}{u:Value}{pos:Pos}{Q:Value->Shared->Prop}(I:Inv X pins σ H s)(hg:Gl X x)(hm:X.mg x=none)(hv:bootBuiltins x=some u)(h:Q u s)
 (hn:x≠"__name__":=by decide) (hd:(x==("__debug__" : Str))=false:=by decide):wpAny (model X.prog X.w) X.A (eval (.Name x pos) X.env) Q E s:=by
 obtain ⟨mb,h1,h2⟩:=I.mod.blt
 exact Calls.Name_function_global I.ok.kind hg (Calls.loadGlobal_builtin (by rw [I.ok.glob];exact I.mod.glob.keeps I.bk) hm (by rw [I.ok.blt];exact h1.keeps I.bk) ((h2 x hn).trans hv) h) hd
theorem J6w {x:Str}{v:V}{u:Value}{pos:Pos}(hg:Gl X x)(hm:X.mg x=some u)(r:RelV v u)(hd:(x==("__debug__" : Str))=false:=by decide):PE X (.Name x pos) (tC v) :=
 fun _ _ _ H _ I h=>JC I hg hm ⟨v,H,I,r,h⟩ hd
theorem J6z {x:Str}{v:V}{u:Value}{pos:Pos}(hg:Gl X x)(hm:X.mg x=none)(hv:bootBuiltins x=some u)(r:RelV v u)(hn:x≠"__name__":=by decide) (hd:(x==("__debug__" : Str))=false:=by decide):PE X (.Name x pos) (tC v) :=
 fun _ _ _ H _ I h=>KR I hg hm hv ⟨v,H,I,r,h⟩ hn hd
variable {a b:Expr}{ta tb:TE}{pos:Pos}
variable {tA tB':TT}{rest:List Expr}
def tOr (t u:TT):TT:=fun σ H Q=>t σ H fun c H1=>if c=true then Q true H1 else u σ H1 Q
def Q7n (t:TT):TT:=fun σ H Q=>t σ H fun c H1=>Q (!c) H1
theorem Q1f (ha:PT X a tA):PW X (.BoolOp .Or [a] pos) tA:=by
 intro wh pins s σ H Q I h
 refine isTrue_or (thn (ha pins s σ H Q I h) fun c s1 e=>?_)
 cases c with
 | false=>exact isTrue_or_nil e
 | true=>exact e
theorem Q5m (ha:PT X a tA)(hb:PW X (.BoolOp .Or (b::rest) pos) tB'):PW X (.BoolOp .Or (a::b::rest) pos) (tOr tA tB'):=by
 intro wh pins s σ H Q I h
 refine isTrue_or (thn (ha pins s σ H _ I h) fun c s1 ⟨H1,I1,q1⟩=>?_)
 cases c with
 | true=>exact ⟨H1,I1,q1⟩
 | false=>exact hb wh pins s1 σ H1 Q I1 q1
theorem Q1g (ha:PT X a tA):PT X (.UnaryOp .Not a pos) (Q7n tA):=by
 intro pins s σ H Q I h
 exact isTrue_not (ha pins s σ H (fun c H1=>Q (!c) H1) I h)
def Q5e (ta tb:TE):TE:=fun σ H Q=>ta σ H fun x H1=>∃ c,x=.bl c/\if c=true then tb σ H1 Q else Q (.bl false) H1
def Q4z (ta:TE):TE:=fun σ H Q=>ta σ H fun x H1=>∃ c,x=.bl c/\Q (.bl (!c)) H1
theorem Q1l {op}{t:TE}(h:PE X a t):PE X (.BoolOp op [a] pos) t:=fun pins s σ H Q I hw=>BoolOp_one (h pins s σ H Q I hw)
theorem Q1n (ha:PE X a ta)(hb:PE X (.BoolOp .And (b::rest) pos) tb):PE X (.BoolOp .And (a::b::rest) pos) (Q5e ta tb):=by
 intro pins s σ H Q I h
 refine BoolOp_and (thn (ha pins s σ H _ I h) fun v s1 ⟨x,H1,I1,r1,q1⟩=>?_)
 obtain ⟨c,rfl,q1⟩:=q1
 cases r1
 refine wpAny_truthy_bool ?_
 cases c with
 | true=>exact hb pins s1 σ H1 Q I1 q1
 | false=>exact ⟨.bl false,H1,I1,rfl,q1⟩
theorem Q1m (ha:PE X a ta):PE X (.UnaryOp .Not a pos) (Q4z ta):=by
 intro pins s σ H Q I h
 refine UnaryOp_ (thn (ha pins s σ H _ I h) fun v s1 ⟨x,H1,I1,r1,q1⟩=>?_)
 obtain ⟨c,rfl,q1⟩:=q1
 cases r1
 exact not_of (wpAny_truthy_bool ⟨.bl (!c),H1,I1,rfl,q1⟩)
end
def SqL (K:Fg)(H:Hp)(a:Addr)(xs:List V):Prop :=
 Rd H a (.lst xs) \/
  ∃ (o:Obj) (its:Array Value) (n:Nat),K.lookup a=some o/\o.cls=.type "list"/\o.dict=none/\o.data=.seq its n/\its.size<=sizeLine/\Vals xs its.toList
def SqT (K:Fg)(H:Hp)(a:Addr)(xs:List V):Prop :=
 Rd H a (.tup xs) \/
  ∃ (o:Obj) (its:Array Value) (n:Nat),K.lookup a=some o/\o.cls=.type "tuple"/\o.data=.seq its n/\its.size<=sizeLine/\Vals xs its.toList
def Q8h:Value->Option V
 | .none=>some .non
 | .bool b=>some (.bl b)
 | .int i _=>some (.int i)
 | .str x _=>some (.str x)
 | .bytes b _=>some (.byt b)
 | .float b _=>some (.flt b)
 | .ref a=>some (.ref a)
 | .type n=>some (.ty n)
 | _=>none
theorem RelV.abs {x:V}{u:Value}(r:RelV x u):Q8h u=some x:=by
 cases x with
 | non=>cases r;rfl
 | bl _=>cases r;rfl
 | int _=>obtain ⟨t,rfl⟩:=r;rfl
 | str _=>obtain ⟨t,rfl⟩:=r;rfl
 | byt _=>obtain ⟨t,rfl⟩:=r;rfl
 | flt _=>obtain ⟨t,rfl⟩:=r;rfl
 | ref _=>cases r;rfl
 | ty _=>cases r;rfl
theorem RelV.inj {x y:V}{u:Value}(r:RelV x u)(q:RelV y u):x=y:=Option.some.inj (r.abs.symm.trans q.abs)
theorem Vals.inj:∀ {xs ys:List V} {us:List Value},Vals xs us->Vals ys us->xs=ys
 | _,_,_,.nil,.nil=>rfl
 | _,_,_,.cons r t,.cons r' t'=>by rw [r.inj r',Vals.inj t t']
section
variable {X:Cx}{pins:List (Addr×Obj)}{σ:St}{H:Hp}{s:Shared}{a:Addr}{xs ys:List V}
theorem SqL.of (h:H a=some (.lst xs)):SqL K H a xs:=.inl (.inl h)
theorem SqT.of (h:H a=some (.tup xs)):SqT K H a xs:=.inl (.inl h)
theorem Inv.list (I:Inv X pins σ H s)(h:SqL X.K H a xs):∃ its:List Value,Vals xs its/\PlainL s.heap a its.toArray/\xs.length<=sizeLine:=by
 rcases h with h|⟨o,its,n,hk,hc,hd,hs,hz,r⟩
 · obtain ⟨z,its,n,r,e⟩:=h.ok I.hok
   exact ⟨its,r,⟨_,n,e,rfl,rfl,rfl⟩,z⟩
 · refine ⟨its.toList,r,⟨o,n,I.kIn a o hk,hc,hd,by simpa using hs⟩,?_⟩
   have e:=r.length
   simp only [Array.length_toList] at e
   omega
theorem Inv.tuple (I:Inv X pins σ H s)(h:SqT X.K H a xs):∃ its:List Value,Vals xs its/\IsTup s.heap a its.toArray/\xs.length<=sizeLine:=by
 rcases h with h|⟨o,its,n,hk,hc,hs,hz,r⟩
 · obtain ⟨z,its,r,p⟩:=h.ok I.hok
   exact ⟨its,r,p,z⟩
 · refine ⟨its.toList,r,⟨o,I.kIn a o hk,hc,n,by simpa using hs⟩,?_⟩
   have e:=r.length
   simp only [Array.length_toList] at e
   omega
theorem Inv.list_inj (I:Inv X pins σ H s)(h:SqL X.K H a xs)(h':SqL X.K H a ys):xs=ys:=by
 obtain ⟨its,r,⟨o,n,e,_,_,d⟩,_⟩:=I.list h
 obtain ⟨its',r',⟨o',n',e',_,_,d'⟩,_⟩:=I.list h'
 rw [e] at e';cases e'
 rw [d] at d'
 injection d' with d1 _
 have:its=its':=by simpa using congrArg Array.toList d1
 subst this
 exact r.inj r'
theorem Inv.tuple_inj (I:Inv X pins σ H s)(h:SqT X.K H a xs)(h':SqT X.K H a ys):xs=ys:=by
 obtain ⟨its,r,⟨o,e,_,n,d⟩,_⟩:=I.tuple h
 obtain ⟨its',r',⟨o',e',_,n',d'⟩,_⟩:=I.tuple h'
 rw [e] at e';cases e'
 rw [d] at d'
 injection d' with d1 _
 have:its=its':=by simpa using congrArg Array.toList d1
 subst this
 exact r.inj r'
end
abbrev Cx.wish (X:Cx)(E:Value->Shared->Prop):Cx:={ X with xe:=E }
abbrev Cx.nox (X:Cx):Cx:=X.wish fun _ _=>False
theorem Cx.Ok.wish {X:Cx}(ok:X.Ok)(E:Value->Shared->Prop):(X.wish E).Ok :=
 ⟨ok.mod,ok.kind,ok.glob,ok.blt,ok.above,ok.inj,ok.has,ok.cab,ok.hd,ok.frames,ok.stk,ok.exf,ok.bs,ok.bsz,ok.noex,ok.exfs,ok.funs,ok.frf⟩
theorem Cx.Ok.unwish {X:Cx}{E:Value->Shared->Prop}(ok:(X.wish E).Ok):X.Ok :=
 ⟨ok.mod,ok.kind,ok.glob,ok.blt,ok.above,ok.inj,ok.has,ok.cab,ok.hd,ok.frames,ok.stk,ok.exf,ok.bs,ok.bsz,ok.noex,ok.exfs,ok.funs,ok.frf⟩
section
variable {X:Cx}{pins:List (Addr×Obj)}{σ:St}{H:Hp}{s:Shared}{E:Value->Shared->Prop}
theorem Inv.wish (I:Inv X pins σ H s)(E:Value->Shared->Prop):Inv (X.wish E) pins σ H s:=⟨I.ok.wish E,I.os,I.bare,I.base,I.loc,I.cell,I.free,I.freeC,I.pin,I.hok,I.len⟩
theorem Inv.unwish (I:Inv (X.wish E) pins σ H s):Inv X pins σ H s:=⟨I.ok.unwish,I.os,I.bare,I.base,I.loc,I.cell,I.free,I.freeC,I.pin,I.hok,I.len⟩
theorem SP.unwish {D:Ends}{f:Flow}{s':Shared}(h:SP (X.wish E) pins D f s'):SP X pins D f s':=by
 cases f with
 | next=>obtain ⟨σ',H',I,q⟩:=h;exact ⟨σ',H',I.unwish,q⟩
 | brk=>obtain ⟨σ',H',I,q⟩:=h;exact ⟨σ',H',I.unwish,q⟩
 | cont=>obtain ⟨σ',H',I,q⟩:=h;exact ⟨σ',H',I.unwish,q⟩
 | ret u=>obtain ⟨v,σ',H',I,r,q⟩:=h;exact ⟨v,σ',H',I.unwish,r,q⟩
theorem PSs.nox {st:List Stmt}{t:TS}(h:PSs X.nox st t):PSs X st t:=fun pins s σ H D I hw =>
 wpAny_mono (h pins s σ H D (I.wish _) hw) (fun _ _ q=>q.unwish) fun _ _ z=>False.elim z
end
section
variable {X:Cx}{st:Stmt}{rest:List Stmt}{t u:TS}{e:Expr}{te:TE}{pos:Pos}
def Q5a:TS:=fun D σ H=>D.nx σ H
def Q7k (t u:TS):TS:=fun D σ H=>t { D with nx:=u D } σ H
theorem GW:PSs X [] Q5a:=fun _ _ σ H _ I h=>wpAny_execs_nil ⟨σ,H,I,h⟩
theorem Z8 (h1:PS X st t)(h2:PSs X rest u):PSs X (st::rest) (Q7k t u):=by
 intro pins s σ H D I h
 refine wpAny_execs_cons (thn (h1 pins s σ H { D with nx:=u D } I h) fun f s1 q=>?_)
 cases f with
 | next =>
   obtain ⟨σ',H',I',q⟩:=q
   exact h2 pins s1 σ' H' D I' q
 | ret v=>exact q
 | brk=>exact q
 | cont=>exact q
theorem AN (h1:PS X st t):PSs X [st] t:=by
 intro pins s σ H D I h
 refine wpAny_execs_cons (thn (h1 pins s σ H D I h) fun f s1 q=>?_)
 cases f with
 | next=>exact wpAny_execs_nil q
 | ret v=>exact q
 | brk=>exact q
 | cont=>exact q
theorem Inv.quiet {pins:List (Addr×Obj)}{σ:St}{H:Hp}{s:Shared}(I:Inv X pins σ H s):interactive X.env=false:=by simp [interactive,I.ok.kind]
def J0p (te:TE):TS:=fun D σ H=>te σ H fun _ H1=>D.nx σ H1
theorem WN (he:PE X e te)(hs:swapsWith e none pos.line X.env=pure false:=by rfl):PS X (.Expr e pos) (J0p te):=by
 intro pins s σ H D I h
 exact wpAny_Expr_any (thn (he pins s σ H _ I h) fun v s1 ⟨x,H1,I1,r1,q1⟩=>⟨σ,H1,I1,q1⟩) I.quiet hs
def Q7l (te:TE):TS:=fun D σ H=>te σ H D.rt
theorem CU (he:PE X e te):PS X (.Return (some e) pos) (Q7l te):=by
 intro pins s σ H D I h
 exact wpAny_Return_some (thn (he pins s σ H _ I h) fun v s1 ⟨x,H1,I1,r1,q1⟩=>⟨x,σ,H1,I1,r1,q1⟩)
def Q7p (c:TT)(t u:TS):TS:=fun D σ H=>c σ H fun b H1=>if b=true then t D σ H1 else u D σ H1
theorem RY {c:Expr}{a b:List Stmt}{tc:TT}(hc:PT X c tc)(ha:PSs X a t)(hb:PSs X b u):PS X (.If c a b pos) (Q7p tc t u):=by
 intro pins s σ H D I h
 refine wpAny_If (thn (hc pins s σ H _ I h) fun d s1 ⟨H1,I1,q1⟩=>?_)
 cases d with
 | true=>exact ha pins s1 σ H1 D I1 q1
 | false=>exact hb pins s1 σ H1 D I1 q1
end
abbrev TG:=V->St->Hp->(St->Hp->Prop)->Prop
abbrev TGs:=List V->St->Hp->(St->Hp->Prop)->Prop
def PG (X:Cx)(target:Expr)(t:TG):Prop :=
 ∀ (pins:List (Addr×Obj)) (s:Shared) (σ:St) (H:Hp) (v:V) (u:Value) (Q:St->Hp->Prop),Inv X pins σ H s->RelV v u->t v σ H Q ->
  wpAny (model X.prog X.w) X.A (assign target X.env u) (fun _ s'=>∃ σ' H',Inv X pins σ' H' s'/\Q σ' H') X.xe s
def PGs (X:Cx)(ts:List Expr)(t:TGs):Prop :=
 ∀ (pins:List (Addr×Obj)) (s:Shared) (σ:St) (H:Hp) (vs:List V) (us:List Value) (Q:St->Hp->Prop),Inv X pins σ H s->Vals vs us->t vs σ H Q ->
  wpAny (model X.prog X.w) X.A (assignInOrder ((assignEach ts X.env).map (·.2)) us) (fun _ s'=>∃ σ' H',Inv X pins σ' H' s'/\Q σ' H') X.xe s
abbrev Q4m:=V->V->V->Hp->(Hp->Prop)->Prop
def Q4o (X:Cx)(t:Q4m):Prop :=
 ∀ (pins:List (Addr×Obj)) (s:Shared) (σ:St) (H:Hp) (o i v:V) (ov iv u:Value) (Q:Hp->Prop),Inv X pins σ H s->RelV o ov->RelV i iv->RelV v u->t o i v H Q ->
  wpAny (model X.prog X.w) X.A (setItem ov iv u) (fun _ s'=>∃ H',Inv X pins σ H' s'/\Q H') X.xe s
section
variable {X:Cx}{pos:Pos}
def TK (i:Nat):TG:=fun v σ H Q=>Q (σ.set i (some v)) H
theorem pg_name {i:Nat} {x:Str} (hN:X.N.Nodup) (hi:X.N[i]?=some x) (hx:Loc X.env.scope x) (hf:X.fn x=true\/X.env.scope.names.lookup x=some .local:=by first|exact .inl rfl|exact .inr rfl|assumption):PG X (.Name x pos) (TK i):=by
 intro pins s σ H v u Q I r h
 exact wpAny_assign_Name (GU I hN hi hx r (fun s' I'=>⟨_,H,I',h⟩) hf)
def Q6c:TGs:=fun vs σ H Q=>vs=[]/\Q σ H
def J9p (t:TG)(u:TGs):TGs:=fun vs σ H Q=>∃ v r,vs=v::r/\t v σ H fun σ' H'=>u r σ' H' Q
theorem V6:PGs X [] Q6c:=by
 intro pins s σ H vs us Q I r h
 obtain ⟨e,h⟩:=h
 subst e
 cases r
 exact assignInOrder_nil ⟨σ,H,I,h⟩
theorem J6 {e:Expr}{es:List Expr}{t:TG}{u:TGs}(h1:PG X e t)(h2:PGs X es u)
 (hs:(assignEach (e::es) X.env).map (·.2)=assign e X.env::(assignEach es X.env).map (·.2):=by rfl):PGs X (e::es) (J9p t u):=by
 intro pins s σ H vs us Q I r h
 obtain ⟨v,vr,e1,h⟩:=h
 subst e1
 cases r with
 | cons r rr =>
   rw [hs]
   refine assignInOrder_cons (thn (h1 pins s σ H _ _ _ I r h) fun _ s1 ⟨σ1,H1,I1,q1⟩=>?_)
   exact h2 pins s1 σ1 H1 _ _ Q I1 rr q1
def Q2q (K:Fg)(n:Nat)(t:TGs):TG:=fun v σ H Q=>∃ a xs,v=.ref a/\SqT K H a xs/\xs.length=n/\t xs σ H Q
theorem Q1j {es:List Expr}{k:Nat}{t:TGs}{n:Nat}(hc:X.calm=true)(h:PGs X es t)
 (hn:(assignEach es X.env).length=n:=by rfl) (hst:(assignEach es X.env).findIdx? (·.1)=none:=by rfl):PG X (.Tuple es k pos) (Q2q X.K n t):=by
 intro pins s σ H v u Q I r hw
 obtain ⟨a,xs,e1,hq,hl,hw⟩:=hw
 subst e1
 cases r
 obtain ⟨its,rv,ht,hz⟩:=I.tuple hq
 refine assign_Tuple_tuple (I.ok.hd hc) ht (by simp [hn,<- hl,rv.length]) hst fun h' hx=>?_
 have I1:Inv X pins σ H { s with heap:=h' }:=I.kept (t':=s.toks) fun b o e=>hx b o (Nat.ne_of_lt (Heap.lt_size e)) e
 exact h pins _ σ H xs _ Q I1 (by simpa using rv) hw
def Q6a (to ti:TE)(t:Q4m):TG:=fun v σ H Q=>to σ H fun o H1=>ti σ H1 fun i H2=>t o i v H2 fun H3=>Q σ H3
theorem UX {o i:Expr}{to ti:TE}{t:Q4m}(ho:PE X o to)(hi:PE X i ti)(hs:Q4o X t)
 (ha:∀ v,assign (.Subscript o i pos) X.env v=(do
  let ov <- holding [v] (eval o X.env)
  let iv <- holding [v,ov] (eval i X.env)
  standAt pos
  holding [v,ov,iv] (setItem ov iv v)
  release [v,ov,iv] []):=by intro _;rfl):PG X (.Subscript o i pos) (Q6a to ti t):=by
 intro pins s σ H v u Q I r h
 rw [ha]
 refine wpAny_bind (wpAny_holding (thn (ho pins s σ H _ I h) fun ov s1 ⟨x,H1,I1,r1,q1⟩=>?_))
 refine wpAny_bind (wpAny_holding (thn (hi pins s1 σ H1 _ I1 q1) fun iv s2 ⟨y,H2,I2,r2,q2⟩=>?_))
 refine wpAny_bind (wpAny_standAt (wpAny_bind (wpAny_holding (thn (hs pins s2 σ H2 x y v ov iv u _ I2 r1 r2 r q2) fun _ s3 ⟨H3,I3,q3⟩=>?_))))
 exact wpAny_release ⟨σ,H3,I3,q3⟩
def J5z (te:TE)(g:TG):TS:=fun D σ H=>te σ H fun x H1=>g x σ H1 D.nx
theorem KF {tg e:Expr}{te:TE}{g:TG}(he:PE X e te)(hg:PG X tg g)(hs:swapsWithSole [tg] e pos.line X.env=pure false:=by rfl)(hw:swappedStores [tg] e X.env=pure none:=by rfl)
 (h1:(assignEach [tg] X.env).map (·.2)=[assign tg X.env]:=by rfl):PS X (.Assign [tg] e pos) (J5z te g):=by
 intro pins s σ H D I h
 refine wpAny_Assign_stores (thn (he pins s σ H _ I h) fun v s1 ⟨x,H1,I1,r1,q1⟩=>?_) hs hw
 rw [h1]
 exact thn (hg pins s1 σ H1 x v _ I1 r1 q1) fun _ s2 q=>q
theorem DR {i:Nat} {x:Str} {e:Expr} {te:TE} {pos':Pos} (hN:X.N.Nodup) (hi:X.N[i]?=some x) (hx:Loc X.env.scope x) (he:PE X e te) (hs:swapsWith e (some (.Name x pos')) pos.line X.env=pure false:=by rfl) (hf:X.fn x=true\/X.env.scope.names.lookup x=some .local:=by first|exact .inl rfl|exact .inr rfl|assumption) :
 PS X (.Assign [.Name x pos'] e pos) (J5z te (TK i)):=by
 intro pins s σ H D I h
 refine wpAny_Assign_Name (thn (he pins s σ H _ I h) fun v s1 ⟨y,H1,I1,r1,q1⟩=>?_) hs
 exact GU I1 hN hi hx r1 (fun s2 I2=>⟨_,H1,I2,q1⟩) hf
def Q7m (i j:Nat)(ta:TA):TS:=fun D σ H=>ta σ H fun vs H1=>∃ v w,vs=[v,w]/\D.nx ((σ.set i (some v)).set j (some w)) H1
theorem Q1h {i j:Nat}{x y:Str}{a b:Expr}{ta:TA}{px py pt:Pos}{kt k2 pt2}(hc:X.calm=true)(hN:X.N.Nodup)(hi:X.N[i]?=some x)(hj:X.N[j]?=some y)(hij:i≠j)
 (hx:X.env.scope.names.lookup x=some .local) (hy:X.env.scope.names.lookup y=some .local) (ha:PA X [a,b] ta)
 (hw:swappedStores [.Tuple [.Name x px,.Name y py] kt pt] (.Tuple [a,b] k2 pt2) X.env=pure (some [x,y]))
 (hs:swapsWithSole [.Tuple [.Name x px,.Name y py] kt pt] (.Tuple [a,b] k2 pt2) pos.line X.env=pure false:=by rfl) :
 PS X (.Assign [.Tuple [.Name x px,.Name y py] kt pt] (.Tuple [a,b] k2 pt2) pos) (Q7m i j ta):=by
 intro pins s σ H D I h
 rw [exec_Assign_arm]
 refine wpAny_bind (wpAny_standAt ?_)
 rw [hs]
 refine wpAny_bind (wpAny_pure ?_)
 rw [if_neg (by decide)]
 refine wpAny_bind (Tuple_ (thn (ha _ pins s σ H _ I h) fun us s1 ⟨vs,H1,I1,r1,q1⟩=>?_))
 obtain ⟨v,w,e1,q1⟩:=q1
 subst e1
 obtain ⟨u1,u2,rfl,rv,rw'⟩:∃ u1 u2,us=[u1,u2]/\RelV v u1/\RelV w u2:=by
  cases r1 with
  | cons p q =>
    cases q with
    | cons p' q' =>
      cases q'
      exact ⟨_,_,rfl,p,p'⟩
 refine wpAny_newObj_type ?_ (by show 2<=sizeLine;decide)
 have I2:Inv X pins σ H1 { s1 with heap:=s1.heap.push { cls:=.type "tuple",data:=.seq [u1,u2].toArray } }:=I1.kept (t':=s1.toks) fun b o e=>Heap.get?_push_of_some _ e
 rw [hw]
 refine wpAny_bind (wpAny_pure ?_)
 show wpAny (model X.prog X.w) X.A (do rule "assign.swapped-stores";let items <- unpackItems (.ref s1.heap.objs.size) 2 none;assignInOrder [fun v=>bindName X.env y v,fun v=>bindName X.env x v] items.reverse;pure Flow.next) _ _ _
 refine wpAny_bind (wpAny_rule (wpAny_bind (unpackItems_tuple (items:=#[u1,u2]) (I.ok.hd hc) (IsTup.new s1.heap _) fun h' hx'=>?_)))
 have I3:=I2.kept (h':=h') (t':=s1.toks) fun b o e=>hx' b o (Nat.ne_of_lt (Heap.lt_size e)) e
 show wpAny _ _ (assignInOrder [fun v=>bindName X.env y v,fun v=>bindName X.env x v] [u2,u1] >>= fun _=>pure Flow.next) _ _ _
 refine wpAny_bind (assignInOrder_cons (wpAny_bindName (GU I3 hN hj (.inl hy) rw' (fun s2 I4=>?_) (.inr hy))))
 refine assignInOrder_cons (wpAny_bindName (GU I4 hN hi (.inl hx) rv (fun s3 I5=>assignInOrder_nil (wpAny_pure ?_)) (.inr hx)))
 rw [List.set_comm _ _ (Ne.symm hij)] at I5
 exact ⟨_,H1,I5,q1⟩
end
section
variable {X:Cx}{pos:Pos}
def J0m (c:TT)(tb:TS):TS:=fun D σ H=>∃ W:Nat->St->Hp->Prop,(∃ m,W m σ H)/\∀ m σ H,W m σ H ->
 c σ H fun b H1=>if b=true then ∃ N:St->Hp->Prop,(∀ σ' H',N σ' H'->∃ m',m'<m/\W m' σ' H')/\tb { D with nx:=N,ct:=N,bk:=D.nx } σ H1 else D.nx σ H1
theorem J1r {c:Expr}{body:List Stmt}{tc:TT}{tb:TS}(hp:PassesOwn (model X.prog X.w) X.A X.env X.xe)(hc:PT X c tc)(hb:PSs X body tb):PS X (.While c body [] pos) (J0m tc tb):=by
 intro pins s σ H D I h
 obtain ⟨W,⟨m0,w0⟩,turn⟩:=h
 refine wpAny_While (codeAny_whileLoop (fun n s'=>∃ σ' H',Inv X pins σ' H' s'/\W n σ' H') ?_ m0 ⟨σ,H,I,w0⟩)
 rintro n s1 ⟨σ1,H1,I1,w1⟩
 refine wpAny_passesOwn hp (thn (hc pins s1 σ1 H1 _ I1 (turn n σ1 H1 w1)) fun b s2 ⟨H2,I2,q2⟩=>?_)
 cases b with
 | true =>
   obtain ⟨N,hN,q2⟩:=q2
   rw [if_pos rfl]
   refine wpAny_passesOwn hp (thn (hb pins s2 σ1 H2 _ I2 q2) fun f s3 q3=>?_)
   cases f with
   | next =>
     obtain ⟨σ3,H3,I3,n3⟩:=q3
     obtain ⟨m',hm,w3⟩:=hN σ3 H3 n3
     exact ⟨m',hm,σ3,H3,I3,w3⟩
   | cont =>
     obtain ⟨σ3,H3,I3,n3⟩:=q3
     obtain ⟨m',hm,w3⟩:=hN σ3 H3 n3
     exact ⟨m',hm,σ3,H3,I3,w3⟩
   | brk=>exact q3
   | ret v=>exact q3
 | false =>
   rw [if_neg Bool.false_ne_true]
   exact wpAny_execs_nil ⟨σ1,H2,I2,q2⟩
end
structure It where
 go:Nat->Hp->Prop
 yld:Nat->Hp->V->Hp->Prop
 stop:Nat->Hp->Prop
def DV (X:Cx)(pins:List (Addr×Obj))(H:Hp)(b:Addr):Prop :=
 H b=none/\b≠X.env.locals/\b∉X.fs/\(b∈X.ex\/X.s₀.heap.objs.size<=b)/\(∀ x c,X.env.cells.lookup x=some c->c≠b)/\∀ p∈X.pn++pins,p.1≠b
theorem Inv.fpOk {X:Cx}{pins:List (Addr×Obj)}{σ:St}{H H':Hp}{s:Shared}{b:Addr}(I:Inv X pins σ H s)(hb:s.heap.objs.size<=b)(hn:H' b=none):DV X pins H' b:=by
 refine ⟨hn,Nat.ne_of_gt (Nat.lt_of_lt_of_le I.lt hb),I.nofs hb,.inr (Nat.le_trans I.sz hb),fun x c e z=>?_,fun p hp z=>?_⟩
 · obtain ⟨v,q⟩:=I.cell x c e
   exact absurd (Nat.lt_of_lt_of_le q.lt (by rw [z];exact hb)) (Nat.lt_irrefl _)
 · exact absurd (Nat.lt_of_lt_of_le (Heap.lt_size (I.pin p hp).1) (by rw [z];exact hb)) (Nat.lt_irrefl _)
structure Turn (P:Program)(w:World)(K:Fg)(tg:Expr)(J:It)(fp:List Addr)(it:Addr)(tn:Nat->Heap->Prop):Prop where
 mem:it∈fp
 obj:∀ i h,tn i h->∀ b∈fp,∃ o,h.get? b=some o/\∀ v,o.data≠.cell v
 keep:∀ i h h',tn i h->(∀ b∈fp,∀ o,h.get? b=some o->h'.get? b=some o)->tn i h'
 item:∀ (X:Cx),X.prog=P->X.w=w->X.K=K->X.calm=true->∀ (i:Nat) (pins:List (Addr×Obj)) (s:Shared) (σ:St) (H:Hp) (E:Value->Shared->Prop),Inv X pins σ H s->(∀ b∈fp,DV X pins H b)->tn i s.heap->J.go i H ->
  wpAny (model P w) X.A (pyNext (.ref it)) (fun r s1=>∃ u,r=some u /\
   wpAny (model P w) X.A (letOwnedTupleGo tg (.ref it) u) (fun _ s2=>∃ x H',Inv X pins σ H' s2/\RelV x u/\J.yld i H x H'/\tn (i+1) s2.heap/\∀ b∈fp,H' b=none) E s1) E s
 done:∀ (X:Cx),X.prog=P->X.w=w->X.K=K->X.calm=true->∀ (i:Nat) (pins:List (Addr×Obj)) (s:Shared) (σ:St) (H:Hp) (E:Value->Shared->Prop),Inv X pins σ H s->(∀ b∈fp,DV X pins H b)->tn i s.heap->J.stop i H ->
  wpAny (model P w) X.A (pyNext (.ref it)) (fun r s1=>r=none/\Inv X pins σ H s1) E s
 self:∀ (A:Around) (i:Nat) (s:Shared) (Q:Value->Shared->Prop) (E:Value->Shared->Prop),tn i s.heap->Q (.ref it) s->wpAny (model P w) A (pyIter (.ref it)) Q E s
abbrev TI:=St->Hp->(It->Hp->Prop)->Prop
def PIE (X:Cx)(pins:List (Addr×Obj))(σ:St)(tg:Expr)(R:It->Hp->Prop)(itv:Value)(s2:Shared):Prop :=
 ∃ (it:Addr) (fp:List Addr) (tn:Nat->Heap->Prop) (J:It) (H':Hp),itv=.ref it/\Inv X pins σ H' s2/\Turn X.prog X.w X.K tg J fp it tn/\tn 0 s2.heap/\(∀ b∈fp,DV X pins H' b)/\R J H'
def PI (X:Cx)(tg iter:Expr)(wi:TI):Prop :=
 ∀ (pins:List (Addr×Obj)) (s:Shared) (σ:St) (H:Hp) (R:It->Hp->Prop),Inv X pins σ H s->wi σ H R ->
  wpAny (model X.prog X.w) X.A (eval iter X.env) (fun v s1=>wpAny (model X.prog X.w) X.A (pyIter v) (PIE X pins σ tg R) X.xe s1) X.xe s
theorem XC {M:Model}{A:Around}{E:Value->Shared->Prop}{s:Shared}{tg:Expr}{it:Addr}{u:Value}{o:Obj}{n:String}{vs:Array Value}{Q:Unit->Shared->Prop}(ho:s.heap.get? it=some o)(hc:o.cls=.type n)(hd:o.data=.fields vs)
 (hn:["enumerate","zip","dict_itemiterator","dict_reverseitemiterator","odict_iterator","itertools.zip_longest","itertools.pairwise"].contains n=false) (hQ:Q () s):wpAny M A (letOwnedTupleGo tg (.ref it) u) Q E s:=by
 unfold letOwnedTupleGo
 cases tg<;>first
  | exact wpAny_pure hQ
  | (cases u<;>first
   | exact wpAny_pure hQ
   | (refine wpAny_bind (wpAny_load ho ?_)
      rw [hc,hd]
      show wpAny M A (if (["enumerate","zip","dict_itemiterator","dict_reverseitemiterator","odict_iterator","itertools.zip_longest","itertools.pairwise"].contains n&&vs[0]?==some (rawInt _))=true then _ else _) Q E s
      rw [if_neg (by intro h;rw [hn,Bool.false_and] at h;cases h)]
      exact wpAny_pure hQ))
def Itl (K:Fg)(a:Addr):It :=
 ⟨fun i H=>∃ xs x,SqL K H a xs/\xs[i]?=some x,fun i H x H'=>H'=H/\∀ xs,SqL K H a xs->xs[i]?=some x,fun i H=>∃ xs,SqL K H a xs/\xs.length<=i⟩
def Itt (K:Fg)(a:Addr):It :=
 ⟨fun i H=>∃ xs x,SqT K H a xs/\xs[i]?=some x,fun i H x H'=>H'=H/\∀ xs,SqT K H a xs->xs[i]?=some x,fun i H=>∃ xs,SqT K H a xs/\xs.length<=i⟩
def Itr (lo:Int)(n:Nat):It:=⟨fun i _=>i<n,fun i H x H'=>H'=H/\x=.int (lo+i),fun i _=>n<=i⟩
theorem YD {tg:Expr}(a it:Addr):Turn P w K tg (Itl K a) [it] it (fun i h=>h.IsListIter it a i) where
 mem:=by simp
 obj:=fun i h st b hb=>by
  have e:b=it:=by simpa using hb
  subst e
  obtain ⟨o,e,c,d⟩:=st
  exact ⟨o,e,fun v z=>by rw [d] at z;cases z⟩
 keep:=fun i h h' st k=>st.at fun o e=>k it (by simp) o e
 item:=by
  intro X hP hw hK hc i pins s σ H E I hf st hg
  subst hP hw hK
  obtain ⟨xs,x,hq,hx⟩:=hg
  obtain ⟨its,rv,p,hz⟩:=I.list hq
  obtain ⟨u,hu,ru⟩:=rv.get hx
  obtain ⟨f0,f1,f2,f3,f4,f5⟩:=hf it (by simp)
  refine wpAny_pyNext_list_item st p.isList (x:=u) (by simpa using hu) fun h' st' sb=>?_
  have I1:Inv X pins σ H { s with heap:=h' }:=I.turned (t':=s.toks) (fun b o hb e=>(sb.2 b hb).trans e) f0 f1 f3 f4 f5
  obtain ⟨o,e,c,d⟩:=id st'
  exact ⟨u,rfl,XC (s:={ s with heap:=h' }) e c d (by decide) ⟨x,H,I1,ru,⟨rfl,fun ys hy=>by rw [I.list_inj hy hq];exact hx⟩,st',fun b hb=>(hf b hb).1⟩⟩
 done:=by
  intro X hP hw hK hc i pins s σ H E I hf st hg
  subst hP hw hK
  obtain ⟨xs,hq,hx⟩:=hg
  obtain ⟨its,rv,p,hz⟩:=I.list hq
  obtain ⟨f0,f1,f2,f3,f4,f5⟩:=hf it (by simp)
  have hl:=rv.length
  exact wpAny_pyNext_list_end (I.ok.hd hc) st p.isList (by simp;omega) fun h' eb=>⟨rfl,I.turned (t':=s.toks) (fun b o hb e=>eb b o hb e) f0 f1 f3 f4 f5⟩
 self:=fun _ _ _ _ _ st h=>wpAny_pyIter_listiter st h
theorem UM {tg:Expr}(a it:Addr):Turn P w K tg (Itt K a) [it] it (fun i h=>h.IsTupleIter it a i) where
 mem:=by simp
 obj:=fun i h st b hb=>by
  have e:b=it:=by simpa using hb
  subst e
  obtain ⟨o,e,c,d⟩:=st
  exact ⟨o,e,fun v z=>by rw [d] at z;cases z⟩
 keep:=fun i h h' st k=>st.at fun o e=>k it (by simp) o e
 item:=by
  intro X hP hw hK hc i pins s σ H E I hf st hg
  subst hP hw hK
  obtain ⟨xs,x,hq,hx⟩:=hg
  obtain ⟨its,rv,p,hz⟩:=I.tuple hq
  obtain ⟨u,hu,ru⟩:=rv.get hx
  obtain ⟨f0,f1,f2,f3,f4,f5⟩:=hf it (by simp)
  refine wpAny_pyNext_tuple_item st (show s.heap.IsTuple a its.toArray from p) (x:=u) (by simpa using hu) fun h' st' sb=>?_
  have I1:Inv X pins σ H { s with heap:=h' }:=I.turned (t':=s.toks) (fun b o hb e=>(sb.2 b hb).trans e) f0 f1 f3 f4 f5
  obtain ⟨o,e,c,d⟩:=id st'
  exact ⟨u,rfl,XC (s:={ s with heap:=h' }) e c d (by decide) ⟨x,H,I1,ru,⟨rfl,fun ys hy=>by rw [I.tuple_inj hy hq];exact hx⟩,st',fun b hb=>(hf b hb).1⟩⟩
 done:=by
  intro X hP hw hK hc i pins s σ H E I hf st hg
  subst hP hw hK
  obtain ⟨xs,hq,hx⟩:=hg
  obtain ⟨its,rv,p,hz⟩:=I.tuple hq
  obtain ⟨f0,f1,f2,f3,f4,f5⟩:=hf it (by simp)
  have hl:=rv.length
  exact wpAny_pyNext_tuple_end (I.ok.hd hc) st (show s.heap.IsTuple a its.toArray from p) (by simp;omega) fun h' eb=>⟨rfl,I.turned (t':=s.toks) (fun b o hb e=>eb b o hb e) f0 f1 f3 f4 f5⟩
 self:=fun _ _ _ _ _ st h=>wpAny_pyIter_tupleiter st h
theorem UN {tg:Expr}(it:Addr)(lo:Int)(n:Nat):Turn P w K tg (Itr lo n) [it] it (fun i h=>IsRangeIter h it (lo+(i:Nat)*1) ((n:Int) - (i:Nat)) 1) where
 mem:=by simp
 obj:=fun i h st b hb=>by
  have e:b=it:=by simpa using hb
  subst e
  exact ⟨_,st,fun v z=>by
   have z':Data.fields _=Data.cell v:=z
   cases z'⟩
 keep:=fun i h h' st k=>k it (by simp) _ st
 item:=by
  intro X hP hw hK hc i pins s σ H E I hf st hg
  subst hP hw hK
  obtain ⟨f0,f1,f2,f3,f4,f5⟩:=hf it (by simp)
  have W:=Walks.range (prog:=X.prog) (w:=X.w) (I.ok.hd hc) it lo 1 n
  refine W.item i s _ _ hg st fun v h' tk hv st' kk=>?_
  obtain ⟨t,rfl⟩:=hv
  have I1:Inv X pins σ H { s with heap:=h',toks:=tk }:=I.turned (fun b o hb e=>kk b o (by simpa using hb) e) f0 f1 f3 f4 f5
  refine ⟨_,rfl,XC (s:={ s with heap:=h',toks:=tk }) (n:="range_iterator") st' rfl rfl (by decide) ⟨.int (lo+i),H,I1,⟨t,?_⟩,⟨rfl,rfl⟩,st',fun b hb=>(hf b hb).1⟩⟩
  rw [Int.mul_one]
 done:=by
  intro X hP hw hK hc i pins s σ H E I hf st hg
  subst hP hw hK
  obtain ⟨f0,f1,f2,f3,f4,f5⟩:=hf it (by simp)
  exact wpAny_pyNext_range_end (I.ok.hd hc) st (by have:n<=i:=hg;omega) fun h' eb=>⟨rfl,I.turned (t':=s.toks) (fun b o hb e=>eb b o hb e) f0 f1 f3 f4 f5⟩
 self:=fun _ _ _ _ _ st h=>wpAny_pyIter_rangeiter st h
section
variable {X:Cx}{tg:Expr}
theorem J1k {pins:List (Addr×Obj)}{σ:St}{H:Hp}{s:Shared}{R:It->Hp->Prop}{E:Value->Shared->Prop}{lo hi:Int}{t u v:Tok}{tk:Nat}(I:Inv X pins σ H s)(h1 : -(2 ^ 62)<=lo)(h2:lo<2 ^ 62)(h3 : -(2 ^ 62)<=hi)(h4:hi<2 ^ 62)
 (q:R (Itr lo (hi - lo).toNat) H):wpAny (model X.prog X.w) X.A (pyIter (.ref s.heap.objs.size)) (PIE X pins σ tg R) E { s with heap:=s.heap.push { cls:=.type "range",data:=.fields #[.int lo t,.int hi u,.int 1 v] },toks:=tk }:=by
 refine wpAny_pyIter_range (IsRange.new ..) (small_one h1 h2 h3 h4) ?_
 have I1:Inv X pins σ H { s with heap:=s.heap.push { cls:=.type "range",data:=.fields #[.int lo t,.int hi u,.int 1 v] },toks:=tk }:=I.kept fun b o e=>Heap.get?_push_of_some _ e
 refine ⟨(s.heap.push { cls:=.type "range",data:=.fields #[.int lo t,.int hi u,.int 1 v] }).objs.size,[(s.heap.push { cls:=.type "range",data:=.fields #[.int lo t,.int hi u,.int 1 v] }).objs.size],_,_,H,rfl,
  I1.kept (t':=tk) fun b o e=>Heap.get?_push_of_some _ e,UN _ lo (hi - lo).toNat,?_,fun b hb=>?_,q⟩
 · have e1:lo+((0:Nat):Int)*1=lo:=by simp
   have e2:(((hi - lo).toNat:Nat):Int) - ((0:Nat):Int)=Builtin.Range.rangeSize lo hi 1:=by rw [rangeSize_one];split<;>omega
   show IsRangeIter _ _ (lo+((0:Nat):Int)*1) ((((hi - lo).toNat:Nat):Int) - ((0:Nat):Int)) 1
   rw [e1,e2]
   exact Heap.get?_push_size _ rfl
 · have e:b=(s.heap.push { cls:=.type "range",data:=.fields #[.int lo t,.int hi u,.int 1 v] }).objs.size:=by simpa using hb
   subst e
   exact I1.fpOk (Nat.le_refl _) (I1.hok.fresh (Nat.le_refl _))
def Q5x (ta:TA):TI:=fun σ H R=>ta σ H fun vs H1=>∃ j:Int,vs=[.int j]/\-(2 ^ 62)<=j/\j<2 ^ 62/\R (Itr 0 j.toNat) H1
theorem MV {a:Expr}{ta:TA}{p pos:Pos}(hg:Gl X "range") (hm:X.mg "range" = none) (ha:PA X [a] ta) (hs:starEach [a] X.env=[(false,eval a X.env)]:=by rfl):PI X tg (.Call (.Name "range" p) [a] [] pos) (Q5x ta):=by
 intro pins s σ H R I h
 refine Call_ (KR I hg hm boot_range (PyProof.Rows.callWith_type1 (thn (ha pos pins s σ H _ I h) fun us s1 ⟨vs,H1,I1,r1,q1⟩=>?_) hs rfl))
 obtain ⟨j,e,q1,q2,q⟩:=q1
 subst e
 cases r1 with
 | cons r rr =>
   cases rr
   obtain ⟨t,rfl⟩:=r
   exact call_range_1 (J1k I1 (by omega) (by omega) q1 q2 (by simpa using q))
def Q5b (wi:TI)(g:TG)(tb:TS):TS:=fun D σ H=>wi σ H fun J H1=>∃ W:Nat->Nat->St->Hp->Prop,(∃ m,W 0 m σ H1)/\∀ i m σ H,W i m σ H ->
 (J.stop i H/\D.nx σ H)\/(J.go i H/\∃ N:St->Hp->Prop,(∀ σ' H',N σ' H'->∃ m',m'<m/\W (i+1) m' σ' H')/\∀ x H',J.yld i H x H'->g x σ H' fun σ2 H2=>tb { D with nx:=N,ct:=N,bk:=D.nx } σ2 H2)
def DU (fp:List Addr)(h:Heap):List (Addr×Obj):=fp.filterMap fun b=>(h.get? b).map fun o=>(b,o)
theorem Z5 {fp:List Addr}{h:Heap}{b:Addr}{o:Obj}(hb:b∈fp)(e:h.get? b=some o):(b,o)∈DU fp h:=List.mem_filterMap.mpr ⟨b,hb,by rw [e];rfl⟩
theorem MX {fp:List Addr}{h:Heap}{p:Addr×Obj}(hp:p∈DU fp h):p.1∈fp/\h.get? p.1=some p.2:=by
 obtain ⟨b,hb,e⟩:=List.mem_filterMap.mp hp
 cases q:h.get? b with
 | none=>rw [q] at e;cases e
 | some o =>
   rw [q] at e
   have e':(b,o)=p:=Option.some.inj e
   subst e'
   exact ⟨hb,q⟩
theorem Inv.pinned {pins:List (Addr×Obj)}{σ:St}{H:Hp}{s:Shared}{fp:List Addr}(I:Inv X pins σ H s)(hf:∀ b∈fp,DV X pins H b)(ho:∀ b∈fp,∃ o,s.heap.get? b=some o/\∀ v,o.data≠.cell v):Inv X (pins++DU fp s.heap) σ H s :=
 I.pins_of fun p hp=>(List.mem_append.mp hp).elim (fun z=>I.pin p (List.mem_append_right _ z)) fun z=>by
  obtain ⟨hb,e⟩:=MX z
  obtain ⟨f0,f1,f2,_⟩:=hf p.1 hb
  obtain ⟨o,e',d⟩:=ho p.1 hb
  rw [e] at e';cases e'
  exact ⟨e,f0,f1,f2,d⟩
theorem Inv.unpinned {pins pl:List (Addr×Obj)}{σ:St}{H:Hp}{s:Shared}(I:Inv X (pins++pl) σ H s):Inv X pins σ H s:=I.pins_of fun p hp=>I.pin p (List.mem_append_right _ (List.mem_append_left _ hp))
theorem J1t {iter:Expr}{body:List Stmt}{wi:TI}{g:TG}{tb:TS}{pos:Pos}(hp:PassesOwn (model X.prog X.w) X.A X.env X.xe)(hc:X.calm=true)(hi:PI X tg iter wi)(hg:PG X tg g)(hb:PSs X body tb)
 (hs:∀ x,foldedSetIterable iter X.env x=pure x:=by intro _;rfl):PS X (.For tg iter body [] pos) (Q5b wi g tb):=by
 intro pins s σ H D I h
 refine wpAny_For (thn (hi pins s σ H _ I h) fun v s1 h1=>thn h1 fun itv s2 h2=>?_) hs
 obtain ⟨it,fp,tn,J,H2,e,I2,T,st2,f2,W,⟨m0,w0⟩,turn⟩:=h2
 subst e
 have stat:∀ {H':Hp},(∀ b∈fp,H' b=none)->∀ b∈fp,DV X pins H' b:=fun hn b hb=>⟨hn b hb,(f2 b hb).2⟩
 refine codeAny_forLoop_any (fun n s'=>∃ i σ' H',Inv X pins σ' H' s'/\tn i s'.heap/\(∀ b∈fp,H' b=none)/\W i n σ' H') ?_ m0 ⟨0,σ,H2,I2,st2,fun b hb=>(f2 b hb).1,w0⟩
 rintro n s3 ⟨i,σ3,H3,I3,st3,fr3,w3⟩
 rcases turn i n σ3 H3 w3 with ⟨stop,qn⟩|⟨go,N,hN,step⟩
 · refine wpAny_passesOwn hp (thn (T.done X rfl rfl rfl hc i pins s3 σ3 H3 X.xe I3 (stat fr3) st3 stop) fun r s4 ⟨hr,I4⟩=>?_)
   subst hr
   exact wpAny_execs_nil ⟨σ3,H3,I4,qn⟩
 · refine wpAny_passesOwn hp (thn (T.item X rfl rfl rfl hc i pins s3 σ3 H3 X.xe I3 (stat fr3) st3 go) fun r s4 ⟨u,hr,h4⟩=>?_)
   subst hr
   refine wpAny_passesOwn hp (thn h4 fun _ s5 ⟨x,H5,I5,r5,y5,st5,fr5⟩=>?_)
   have I5':=I5.pinned (stat fr5) (T.obj _ _ st5)
   refine wpAny_passesOwn hp (thn (hg _ s5 σ3 H5 x u _ I5' r5 (step x H5 y5)) fun _ s6 ⟨σ6,H6,I6,q6⟩=>?_)
   refine wpAny_passesOwn hp (thn (hb _ s6 σ6 H6 _ I6 q6) fun f s7 q7=>?_)
   have again:∀ {σ7:St} {H7:Hp},Inv X (pins++DU fp s5.heap) σ7 H7 s7->N σ7 H7->∃ m,m<n/\∃ i σ' H',Inv X pins σ' H' s7/\tn i s7.heap/\(∀ b∈fp,H' b=none)/\W i m σ' H':=fun {σ7 H7} I7 n7=>by
    obtain ⟨m',hm,w7⟩:=hN σ7 H7 n7
    refine ⟨m',hm,i+1,σ7,H7,I7.unpinned,T.keep _ _ _ st5 fun b hb o e=>(I7.pin (b,o) (List.mem_append_right _ (List.mem_append_right _ (Z5 hb e)))).1,fun b hb=>?_,w7⟩
    obtain ⟨o,e,d⟩:=T.obj _ _ st5 b hb
    exact (I7.pin (b,o) (List.mem_append_right _ (List.mem_append_right _ (Z5 hb e)))).2.1
   cases f with
   | next=>obtain ⟨σ7,H7,I7,n7⟩:=q7;exact again I7 n7
   | cont=>obtain ⟨σ7,H7,I7,n7⟩:=q7;exact again I7 n7
   | brk=>obtain ⟨σ7,H7,I7,q7⟩:=q7;exact ⟨σ7,H7,I7.unpinned,q7⟩
   | ret v=>obtain ⟨x7,σ7,H7,I7,r7,q7⟩:=q7;exact ⟨x7,σ7,H7,I7.unpinned,r7,q7⟩
end
theorem ZO {lo:Int}{n:Nat}{g:TG}{tb:TS}{D:Ends}{σ:St}{H:Hp}(Pv:Nat->St->Hp->Prop)(h0:Pv 0 σ H)
 (hs:∀ i σ H,i<n->Pv i σ H->g (.int (lo+i)) σ H fun σ2 H2=>tb { D with nx:=Pv (i+1),ct:=Pv (i+1),bk:=D.nx } σ2 H2) (hd:∀ σ H,Pv n σ H->D.nx σ H) :
 ∃ W:Nat->Nat->St->Hp->Prop,(∃ m,W 0 m σ H)/\∀ i m σ H,W i m σ H ->
  ((Itr lo n).stop i H/\D.nx σ H)\/((Itr lo n).go i H/\∃ N:St->Hp->Prop,(∀ σ' H',N σ' H'->∃ m',m'<m/\W (i+1) m' σ' H')/\∀ x H',(Itr lo n).yld i H x H'->g x σ H' fun σ2 H2=>tb { D with nx:=N,ct:=N,bk:=D.nx } σ2 H2):=by
 refine ⟨fun i m σ H=>m=n - i/\i<=n/\Pv i σ H,⟨n,by simp,Nat.zero_le _,h0⟩,?_⟩
 rintro i m σ H ⟨rfl,hi,p⟩
 by_cases hlt:i<n
 · refine .inr ⟨hlt,Pv (i+1),fun σ' H' p'=>⟨n - (i+1),by omega,rfl,hlt,p'⟩,fun x H' y=>?_⟩
   obtain ⟨e,y⟩:=y
   subst e y
   exact hs i σ _ hlt p
 · have e:i=n:=by omega
   subst e
   exact .inl ⟨Nat.le_refl _,hd σ H p⟩
theorem J0i {c:TT}{tb:TS}{D:Ends}{σ:St}{H:Hp}(Pv:St->Hp->Prop)(μ:St->Hp->Nat)(h0:Pv σ H)
 (hs:∀ σ H,Pv σ H->c σ H fun b H1=>if b=true then tb { D with nx:=fun σ' H'=>Pv σ' H'/\μ σ' H'<μ σ H,ct:=fun σ' H'=>Pv σ' H'/\μ σ' H'<μ σ H,bk:=D.nx } σ H1 else D.nx σ H1)
 (mono:∀ σ H Q Q',(∀ b H1,Q b H1->Q' b H1)->c σ H Q->c σ H Q'):J0m c tb D σ H:=by
 refine ⟨fun m σ H=>m=μ σ H/\Pv σ H,⟨_,rfl,h0⟩,?_⟩
 rintro m σ H ⟨rfl,p⟩
 refine mono σ H _ _ (fun b H1 q=>?_) (hs σ H p)
 cases b with
 | true=>exact ⟨_,fun σ' H' ⟨p',l⟩=>⟨_,l,rfl,p'⟩,q⟩
 | false=>exact q
abbrev R2:=V->V->Hp->VK->Prop
def OpR (X:Cx)(f:Value->Value->Sem Value)(r:R2):Prop :=
 ∀ (pins:List (Addr×Obj)) (s:Shared) (σ:St) (H:Hp) (x y:V) (v u:Value) (Q:VK),Inv X pins σ H s->RelV x v->RelV y u->r x y H Q ->
  wpAny (model X.prog X.w) X.A (f v u) (EP X pins σ Q) X.xe s
def UnR (X:Cx)(f:Value->Sem Value)(r:V->Hp->VK->Prop):Prop :=
 ∀ (pins:List (Addr×Obj)) (s:Shared) (σ:St) (H:Hp) (x:V) (v:Value) (Q:VK),Inv X pins σ H s->RelV x v->r x H Q ->
  wpAny (model X.prog X.w) X.A (f v) (EP X pins σ Q) X.xe s
def BG (X:Cx)(f:Value)(r:List V->Hp->VK->Prop):Prop :=
 ∀ (pins:List (Addr×Obj)) (s:Shared) (σ:St) (H:Hp) (xs:List V) (us:List Value) (Q:VK),Inv X pins σ H s->Vals xs us->r xs H Q ->
  wpAny (model X.prog X.w) X.A (call f us) (EP X pins σ Q) X.xe s
def Q8j (X:Cx)(r:V->Hp->(Bool->Hp->Prop)->Prop):Prop :=
 ∀ (pins:List (Addr×Obj)) (s:Shared) (σ:St) (H:Hp) (x:V) (v:Value) (Q:Bool->Hp->Prop),Inv X pins σ H s->RelV x v->r x H Q ->
  wpAny (model X.prog X.w) X.A (truthy v) (TP X pins σ Q) X.xe s
def tOp (r:R2)(ta tb:TE):TE:=fun σ H Q=>ta σ H fun x H1=>tb σ H1 fun y H2=>r x y H2 Q
def tUn (r:V->Hp->VK->Prop)(ta:TE):TE:=fun σ H Q=>ta σ H fun x H1=>r x H1 Q
def rI (C:Int->Int->Prop)(g:Int->Int->V):R2:=fun x y H Q=>∃ i j,x=.int i/\y=.int j/\C i j/\Q (g i j) H
def rI0 (g:Int->Int->V):R2:=fun x y H Q=>∃ i j,x=.int i/\y=.int j/\Q (g i j) H
def rU (g:Int->V):V->Hp->VK->Prop:=fun x H Q=>∃ i,x=.int i/\Q (g i) H
section
variable {X:Cx}{a b:Expr}{ta tb:TE}{pos:Pos}
theorem Q4h (ha:PE X a ta)(hb:PE X b tb){pins:List (Addr×Obj)}{s:Shared}{σ:St}{H:Hp}{R:V->V->Hp->Prop}(I:Inv X pins σ H s)
 (h:ta σ H fun x H1=>tb σ H1 fun y H2=>R x y H2) {Q:Value->Shared->Prop} {f:Value->Value->Sem Value}
 (hf:∀ v u s2 x y H2,Inv X pins σ H2 s2->RelV x v->RelV y u->R x y H2->wpAny (model X.prog X.w) X.A (f v u) Q X.xe s2) :
 wpAny (model X.prog X.w) X.A (eval a X.env) (fun v s₁=>wpAny (model X.prog X.w) X.A (eval b X.env) (fun u s₂=>wpAny (model X.prog X.w) X.A (f v u) Q X.xe s₂) X.xe s₁) X.xe s:=by
 refine thn (ha pins s σ H _ I h) fun v s1 ⟨x,H1,I1,r1,q1⟩=>?_
 refine thn (hb pins s1 σ H1 _ I1 q1) fun u s2 ⟨y,H2,I2,r2,q2⟩=>?_
 exact hf v u s2 x y H2 I2 r1 r2 q2
theorem BB {op:Operator}{r:R2}(ho:OpR X (binaryOp op) r)(ha:PE X a ta)(hb:PE X b tb):PE X (.BinOp a op b pos) (tOp r ta tb):=by
 intro pins s σ H Q I h
 exact wpAny_BinOp (Q4h ha hb I h fun v u s2 x y H2 I2 rx ry q=>ho pins s2 σ H2 x y v u Q I2 rx ry q)
theorem Q5n {op:UnaryOp}{r:V->Hp->VK->Prop}(ho:UnR X (unaryOp op) r)(ha:PE X a ta):PE X (.UnaryOp op a pos) (tUn r ta):=by
 intro pins s σ H Q I h
 exact UnaryOp_ (thn (ha pins s σ H _ I h) fun v s1 ⟨x,H1,I1,r1,q1⟩=>ho pins s1 σ H1 x v Q I1 r1 q1)
theorem opI {f:Value->Value->Sem Value}{C:Int->Int->Prop}{g:Int->Int->Int}
 (rule:∀ (i j:Int) (t u:Tok) (s:Shared) (Q:Value->Shared->Prop) (E:Value->Shared->Prop),C i j->Q (.int (g i j) s.toks) { s with toks:=s.toks+1 }->wpAny (model X.prog X.w) X.A (f (.int i t) (.int j u)) Q E s) :
 OpR X f (rI C fun i j=>.int (g i j)):=by
 intro pins s σ H x y v u Q I rx ry h
 obtain ⟨i,j,rfl,rfl,hc,q⟩:=h
 obtain ⟨t,rfl⟩:=rx
 obtain ⟨t',rfl⟩:=ry
 exact rule i j t t' s _ _ hc ⟨.int (g i j),H,I.tok _,⟨_,rfl⟩,q⟩
theorem Q5p {f:Value->Value->Sem Value}{g:Int->Int->Int}
 (rule:∀ (i j:Int) (t u:Tok) (s:Shared) (Q:Value->Shared->Prop) (E:Value->Shared->Prop),Q (.int (g i j) s.toks) { s with toks:=s.toks+1 }->wpAny (model X.prog X.w) X.A (f (.int i t) (.int j u)) Q E s) :
 OpR X f (rI0 fun i j=>.int (g i j)):=by
 intro pins s σ H x y v u Q I rx ry h
 obtain ⟨i,j,rfl,rfl,q⟩:=h
 obtain ⟨t,rfl⟩:=rx
 obtain ⟨t',rfl⟩:=ry
 exact rule i j t t' s _ _ ⟨.int (g i j),H,I.tok _,⟨_,rfl⟩,q⟩
theorem Q1p {f:Value->Value->Sem Value}{g:Int->Int->Bool}
 (rule:∀ (i j:Int) (t u:Tok) (s:Shared) (Q:Value->Shared->Prop) (E:Value->Shared->Prop),Q (.bool (g i j)) s->wpAny (model X.prog X.w) X.A (f (.int i t) (.int j u)) Q E s) :
 OpR X f (rI0 fun i j=>.bl (g i j)):=by
 intro pins s σ H x y v u Q I rx ry h
 obtain ⟨i,j,rfl,rfl,q⟩:=h
 obtain ⟨t,rfl⟩:=rx
 obtain ⟨t',rfl⟩:=ry
 exact rule i j t t' s _ _ ⟨.bl (g i j),H,I,rfl,q⟩
def Q8l (i j:Int):Prop:=0<=j/\j<=1000000/\i.natAbs<2 ^ 64
def CMul (i j:Int):Prop:=(-(2 ^ 64)<i/\i<2 ^ 64)\/(-(2 ^ 64)<j/\j<2 ^ 64)
theorem CMul.ok {i j:Int}(h:CMul i j):IntMulOk i j:=by
 rcases h with ⟨h1,h2⟩|⟨h1,h2⟩
 · exact .of_left (intBits_le_64 h1 h2)
 · exact .of_right (intBits_le_64 h1 h2)
theorem EI:OpR X (binaryOp .Add) (rI0 fun i j=>.int (i+j)):=Q5p fun _ _ _ _ _ _ _ q=>add_int q
theorem AQ:OpR X (binaryOp .Sub) (rI0 fun i j=>.int (i - j)):=Q5p fun _ _ _ _ _ _ _ q=>sub_int q
theorem GK:OpR X (binaryOp .Mod) (rI (fun _ j=>0<j) fun i j=>.int (i % j)):=opI fun i j _ _ _ _ _ hc q=>by
 have h1:(0:Int)<j:=hc
 exact mod_int' (by omega) (by rw [Int.fmod_eq_emod_of_nonneg i (by omega)];exact q)
theorem J7a:OpR X (binaryOp .Mod) (rI (fun _ j=>j≠0) fun i j=>.int (i.fmod j)):=opI fun _ _ _ _ _ _ _ hc q=>mod_int' hc q
theorem J2d:OpR X (binaryOp .Pow) (rI Q8l fun i j=>.int (i ^ j.toNat)):=opI fun _ _ _ _ _ _ _ hc q=>pow_int_small hc.1 hc.2.1 hc.2.2 q
theorem unI {f:Value->Sem Value}{g:Int->Int}
 (rule:∀ (i:Int) (t:Tok) (s:Shared) (Q:Value->Shared->Prop) (E:Value->Shared->Prop),Q (.int (g i) s.toks) { s with toks:=s.toks+1 }->wpAny (model X.prog X.w) X.A (f (.int i t)) Q E s) :
 UnR X f (rU fun i=>.int (g i)):=by
 intro pins s σ H x v Q I rx h
 obtain ⟨i,rfl,q⟩:=h
 obtain ⟨t,rfl⟩:=rx
 exact rule i t s _ _ ⟨.int (g i),H,I.tok _,⟨_,rfl⟩,q⟩
theorem Q0l:UnR X (unaryOp .USub) (rU fun i=>.int (-i)):=unI fun _ _ _ _ _ q=>neg_int q
end
def Q5g:V->V->Bool
 | .non,.non=>true|.non,.int _=>true|.int _,.non=>true|.non,.bl _=>true|.bl _,.non=>true|.non,.str _=>true|.str _,.non=>true
 | .int _,.int _=>true|.bl _,.bl _=>true|.str _,.str _=>true|.byt _,.byt _=>true
 | .int _,.str _=>true|.str _,.int _=>true|.bl _,.str _=>true|.str _,.bl _=>true
 | _,_=>false
def rEq:R2:=fun x y H Q=>Q5g x y=true/\Q (.bl (decide (x=y))) H
def rNe:R2:=fun x y H Q=>Q5g x y=true/\Q (.bl (!decide (x=y))) H
theorem XG {i j:Int}:decide (V.int i=V.int j)=(i==j):=by
 rw [Bool.eq_iff_iff]
 simp
theorem J4j {i j:Bool}:decide (V.bl i=V.bl j)=(i==j):=by
 rw [Bool.eq_iff_iff]
 simp
theorem XF {i j:Str}:decide (V.str i=V.str j)=(i==j):=by
 rw [Bool.eq_iff_iff]
 simp
theorem XH {i j:Array UInt8}:decide (V.byt i=V.byt j)=(i.toList==j.toList):=by
 rw [Bool.eq_iff_iff]
 cases i
 cases j
 simp
section
variable {X:Cx}{a b c:Expr}{ta tb tc:TE}{pos:Pos}
theorem V5 {pins:List (Addr×Obj)}{σ:St}{H:Hp}{s:Shared}{Q:VK}{k k':Bool}(I:Inv X pins σ H s)(q:Q (.bl k) H)(e:k=k'):EP X pins σ Q (.bool k') s:=by
 subst e
 exact ⟨.bl k,H,I,rfl,q⟩
theorem GX:OpR X (compareOp .Eq) rEq:=by
 intro pins s σ H x y v u Q I rx ry h
 obtain ⟨hs,q⟩:=h
 cases x with
 | non =>
   cases rx
   cases y with
   | non=>cases ry;exact PySem.EqNone.eq_none_none (V5 I q (by simp))
   | bl j=>cases ry;exact PySem.EqNone.eq_none_bool (V5 I q (by simp))
   | int j=>obtain ⟨t',rfl⟩:=ry;exact PySem.EqNone.eq_none_int (V5 I q (by simp))
   | str j=>obtain ⟨t',rfl⟩:=ry;exact PySem.EqNone.eq_none_str (V5 I q (by simp))
   | _=>exact absurd (show false=true from hs) Bool.false_ne_true
 | bl i =>
   cases rx
   cases y with
   | non=>cases ry;exact PySem.EqNone.eq_bool_none (V5 I q (by simp))
   | bl j=>cases ry;exact eq_bool (V5 I q J4j)
   | str j=>obtain ⟨t',rfl⟩:=ry;exact PySem.EqMixed.eq_bool_str (V5 I q (by simp))
   | _=>exact absurd (show false=true from hs) Bool.false_ne_true
 | int i =>
   obtain ⟨t,rfl⟩:=rx
   cases y with
   | non=>cases ry;exact PySem.EqNone.eq_int_none (V5 I q (by simp))
   | int j=>obtain ⟨t',rfl⟩:=ry;exact eq_int (V5 I q XG)
   | str j=>obtain ⟨t',rfl⟩:=ry;exact PySem.EqMixed.eq_int_str (V5 I q (by simp))
   | _=>exact absurd (show false=true from hs) Bool.false_ne_true
 | str i =>
   obtain ⟨t,rfl⟩:=rx
   cases y with
   | non=>cases ry;exact PySem.EqNone.eq_str_none (V5 I q (by simp))
   | bl j=>cases ry;exact PySem.EqMixed.eq_str_bool (V5 I q (by simp))
   | int j=>obtain ⟨t',rfl⟩:=ry;exact PySem.EqMixed.eq_str_int (V5 I q (by simp))
   | str j=>obtain ⟨t',rfl⟩:=ry;exact eq_str (V5 I q XF)
   | _=>exact absurd (show false=true from hs) Bool.false_ne_true
 | byt i =>
   obtain ⟨t,rfl⟩:=rx
   cases y with
   | byt j=>obtain ⟨t',rfl⟩:=ry;exact PySem.W.eq_bytes (V5 I q XH)
   | _=>exact absurd (show false=true from hs) Bool.false_ne_true
 | _=>cases y<;>exact absurd (show false=true from hs) Bool.false_ne_true
theorem J2f:OpR X (compareOp .NotEq) rNe:=by
 intro pins s σ H x y v u Q I rx ry h
 obtain ⟨hs,q⟩:=h
 cases x with
 | non =>
   cases rx
   cases y with
   | non=>cases ry;exact PySem.EqNone.ne_none_none (V5 I q (by simp))
   | bl j=>cases ry;exact PySem.EqNone.ne_none_bool (V5 I q (by simp))
   | int j=>obtain ⟨t',rfl⟩:=ry;exact PySem.EqNone.ne_none_int (V5 I q (by simp))
   | str j=>obtain ⟨t',rfl⟩:=ry;exact PySem.EqNone.ne_none_str (V5 I q (by simp))
   | _=>exact absurd (show false=true from hs) Bool.false_ne_true
 | bl i =>
   cases rx
   cases y with
   | non=>cases ry;exact PySem.EqNone.ne_bool_none (V5 I q (by simp))
   | bl j=>cases ry;exact ne_bool (V5 I q (congrArg not J4j))
   | str j=>obtain ⟨t',rfl⟩:=ry;exact PySem.EqMixed.ne_bool_str (V5 I q (by simp))
   | _=>exact absurd (show false=true from hs) Bool.false_ne_true
 | int i =>
   obtain ⟨t,rfl⟩:=rx
   cases y with
   | non=>cases ry;exact PySem.EqNone.ne_int_none (V5 I q (by simp))
   | int j=>obtain ⟨t',rfl⟩:=ry;exact ne_int (V5 I q (congrArg not XG))
   | str j=>obtain ⟨t',rfl⟩:=ry;exact PySem.EqMixed.ne_int_str (V5 I q (by simp))
   | _=>exact absurd (show false=true from hs) Bool.false_ne_true
 | str i =>
   obtain ⟨t,rfl⟩:=rx
   cases y with
   | non=>cases ry;exact PySem.EqNone.ne_str_none (V5 I q (by simp))
   | bl j=>cases ry;exact PySem.EqMixed.ne_str_bool (V5 I q (by simp))
   | int j=>obtain ⟨t',rfl⟩:=ry;exact PySem.EqMixed.ne_str_int (V5 I q (by simp))
   | str j=>obtain ⟨t',rfl⟩:=ry;exact ne_str (V5 I q (congrArg not XF))
   | _=>exact absurd (show false=true from hs) Bool.false_ne_true
 | byt i =>
   obtain ⟨t,rfl⟩:=rx
   cases y with
   | byt j=>obtain ⟨t',rfl⟩:=ry;exact PySem.W.ne_bytes (V5 I q (congrArg not XH))
   | _=>exact absurd (show false=true from hs) Bool.false_ne_true
 | _=>cases y<;>exact absurd (show false=true from hs) Bool.false_ne_true
theorem SB:OpR X (compareOp .Lt) (rI0 fun i j=>.bl (decide (i<j))):=Q1p fun _ _ _ _ _ _ _ q=>lt_int q
theorem J2g:OpR X (compareOp .LtE) (rI0 fun i j=>.bl (decide (i<=j))):=Q1p fun _ _ _ _ _ _ _ q=>le_int q
theorem J2h:OpR X (compareOp .Gt) (rI0 fun i j=>.bl (decide (j<i))):=Q1p fun _ _ _ _ _ _ _ q=>gt_int q
theorem Y0 (b:Expr){op:CmpOp}(h:op≠.In:=by decide)(h2:op≠.NotIn:=by decide):behindInMarks op b=false:=by
 have e1:(op==CmpOp.In)=false:=by cases op<;>first|rfl|exact absurd rfl h
 have e2:(op==CmpOp.NotIn)=false:=by cases op<;>first|rfl|exact absurd rfl h2
 cases b<;>simp [behindInMarks,e1,e2]
theorem J6y {op:CmpOp}{r:R2}(ho:OpR X (compareOp op) r)(ha:PE X a ta)(hb:PE X b tb)(hm:behindInMarks op b=false):PE X (.Compare a [op] [b] pos) (tOp r ta tb):=by
 intro pins s σ H Q I h
 exact wpAny_Compare1 (Q4h ha hb I h fun v u s2 x y H2 I2 rx ry q=>ho pins s2 σ H2 x y v u Q I2 rx ry q) hm
def Q4w (t:TE):TT:=fun σ H Q=>t σ H fun x H'=>∃ k,x=.bl k/\Q k H'
theorem FM {op:CmpOp}{r:R2}(ho:OpR X (compareOp op) r)(ha:PE X a ta)(hb:PE X b tb)(hm:behindInMarks op b=false):PT X (.Compare a [op] [b] pos) (Q4w (tOp r ta tb)):=by
 intro pins s σ H Q I h
 refine wpAny_isTrue_Compare1 (thn (ha pins s σ H _ I h) fun v s1 ⟨x,H1,I1,r1,q1⟩=>thn (hb pins s1 σ H1 _ I1 q1) fun u s2 ⟨y,H2,I2,r2,q2⟩ =>
  thn (ho pins s2 σ H2 x y v u _ I2 r1 r2 q2) fun c s3 ⟨z,H3,I3,r3,k,e,q3⟩=>?_) hm
 subst e
 cases r3
 exact wpAny_truthy_bool ⟨H3,I3,q3⟩
def Q0x (r r':R2)(ta tb tc:TE):TE:=fun σ H Q=>ta σ H fun x H1=>tb σ H1 fun y H2=>r x y H2 fun z H3=>∃ k,z=.bl k /\
 (if k=true then tc σ H3 fun w' H4=>r' y w' H4 Q else Q (.bl false) H3)
theorem J1z {op op':CmpOp}{r r':R2}(ho:OpR X (compareOp op) r)(ho':OpR X (compareOp op') r')(ha:PE X a ta)(hb:PE X b tb)(hc:PE X c tc)
 (hm:lastMarks [op,op'] [b,c]=false:=by with_unfolding_all rfl):PE X (.Compare a [op,op'] [b,c] pos) (Q0x r r' ta tb tc):=by
 intro pins s σ H Q I h
 refine Compare_chain (thn (ha pins s σ H _ I h) fun v s1 ⟨x,H1,I1,r1,q1⟩=>chain_link (thn (hb pins s1 σ H1 _ I1 q1) fun u s2 ⟨y,H2,I2,r2,q2⟩ =>
  thn (ho pins s2 σ H2 x y v u _ I2 r1 r2 q2) fun d s3 ⟨z,H3,I3,r3,k,e,q3⟩=>?_)) hm
 subst e
 cases r3
 refine wpAny_truthy_bool ?_
 cases k with
 | false=>exact ite_ff ⟨.bl false,H3,I3,rfl,q3⟩
 | true=>exact ite_tt (chain_last (thn (hc pins s3 σ H3 _ I3 q3) fun w' s4 ⟨z',H4,I4,r4,q4⟩=>ho' pins s4 σ H4 y z' u w' Q I4 r2 r4 q4))
def Q4l (K:Fg)(x:V)(H:Hp)(k:Bool):Prop :=
 match x with
 | .non=>k=false
 | .bl b=>k=b
 | .int i=>k=(i != 0)
 | .str y=>y.length<=sizeLine/\k=((y.length:Int)!=0)
 | .byt y=>y.size<=sizeLine/\k=((y.size:Int)!=0)
 | .ref p=>(∃ xs,SqL K H p xs/\k = !xs.isEmpty)\/(∃ xs,SqT K H p xs/\k = !xs.isEmpty)\/∃ kvs,H p=some (.dK kvs)/\k = !kvs.isEmpty
 | _=>False
theorem VL {κ:Type}{kvs:List (κ×V)}{vs:List (κ×Value)}(r:KV kvs vs):(!vs.isEmpty) = !kvs.isEmpty:=by
 cases r<;>rfl
theorem KZ {xs:List V}{its:List Value}(r:Vals xs its):(!its.toArray.isEmpty) = !xs.isEmpty:=by
 cases r<;>simp
theorem KQ:(sizeLine:Nat)<2 ^ 63:=by rw [sizeLine_eq];decide
theorem Q0n:Q8j X (fun x H Q=>∃ k,Q4l X.K x H k/\Q k H):=by
 intro pins s σ H x v Q I rx h
 obtain ⟨k,e,q⟩:=h
 have hl:=KQ
 have hs:sizeLine=16777216:=sizeLine_eq
 cases x with
 | non =>
   cases rx
   have e':k=false:=e
   subst e'
   exact truthy_none ⟨H,I,q⟩
 | bl b =>
   cases rx
   have e':k=b:=e
   subst e'
   exact wpAny_truthy_bool ⟨H,I,q⟩
 | int i =>
   obtain ⟨t,rfl⟩:=rx
   have e':k=(i != 0):=e
   subst e'
   exact PySem.P.truthy_int ⟨H,I,q⟩
 | str y =>
   obtain ⟨t,rfl⟩:=rx
   obtain ⟨hy,e'⟩:y.length<=sizeLine/\k=((y.length:Int)!=0):=e
   subst e'
   exact PySem.P.truthy_str (by omega) ⟨H,I.tok _,q⟩
 | byt y =>
   obtain ⟨t,rfl⟩:=rx
   obtain ⟨hy,e'⟩:y.size<=sizeLine/\k=((y.size:Int)!=0):=e
   subst e'
   exact PySem.W.truthy_bytes (by omega) ⟨H,I.tok _,q⟩
 | ref p =>
   cases rx
   have e':(∃ xs,SqL X.K H p xs/\k = !xs.isEmpty)\/(∃ xs,SqT X.K H p xs/\k = !xs.isEmpty)\/∃ kvs,H p=some (.dK kvs)/\k = !kvs.isEmpty:=e
   rcases e' with ⟨xs,hx,e'⟩|⟨xs,hx,e'⟩|⟨kvs,hx,e'⟩
   · subst e'
     obtain ⟨its,r,pl,hz⟩:=I.list hx
     have hlen:=r.length
     exact wpAny_truthy_list pl.isList (by simp only [List.size_toArray];omega) ⟨H,I.tok _,by rw [KZ r];exact q⟩
   · subst e'
     obtain ⟨its,r,pl,hz⟩:=I.tuple hx
     have hlen:=r.length
     exact truthy_tuple pl (by simp only [List.size_toArray];omega) ⟨H,I.tok _,by rw [KZ r];exact q⟩
   · subst e'
     obtain ⟨hz,hS,vs,r,m⟩:kvs.length<=sizeLine/\(p==sysModules)=false/\∃ vs,KV kvs vs/\s.heap.DictOf (PJ X.prog X.w) p vs:=I.hok p _ hx
     have hlen:kvs.length=vs.length:=Paired.length r
     exact wpAny_truthy_dict hS m (by omega) ⟨H,I.tok _,by rw [VL r];exact q⟩
 | _=>exact (show False from e).elim
theorem J1q (ha:PE X a ta)(he:∀ whole,isTrue a X.env whole=(do let v <- whole;standAt a.pos;holding [v] (truthy v))) :
 PT X a (fun σ H Q=>ta σ H fun x H'=>∃ k,Q4l X.K x H' k/\Q k H'):=by
 intro pins s σ H Q I h
 exact isTrue_plain (thn (ha pins s σ H _ I h) fun v s1 ⟨x,H1,I1,r1,q1⟩=>Q0n pins s1 σ H1 x v Q I1 r1 q1) (he _)
theorem JL {x:V}{us:List Value}(r:Vals [x] us):∃ u,us=[u]/\RelV x u:=by
 cases r with
 | cons r1 r2=>cases r2;exact ⟨_,rfl,r1⟩
theorem WA {x y:V}{us:List Value}(r:Vals [x,y] us):∃ u w',us=[u,w']/\RelV x u/\RelV y w':=by
 cases r with
 | cons r1 r2 =>
   cases r2 with
   | cons r3 r4=>cases r4;exact ⟨_,_,rfl,r1,r3⟩
theorem UG:BG X (.builtin "abs") (fun xs H Q=>∃ i,xs=[.int i]/\Q (.int (if i<0 then -i else i)) H):=by
 intro pins s σ H xs us Q I r h
 obtain ⟨i,rfl,q⟩:=h
 obtain ⟨u,rfl,t,rfl⟩:=JL r
 exact call_abs_int fun u tk=>⟨.int (if i<0 then -i else i),H,I.tok _,⟨_,rfl⟩,q⟩
theorem NU (hc:X.calm=true):BG X (.builtin "max") (fun xs H Q=>∃ i j,xs=[.int i,.int j]/\Q (.int (if j>i then j else i)) H):=by
 intro pins s σ H xs us Q I r h
 obtain ⟨i,j,rfl,q⟩:=h
 obtain ⟨u,w',rfl,⟨t,rfl⟩,⟨t',rfl⟩⟩:=WA r
 refine max_two_ints (I.ok.hd hc) fun h' tk k=>⟨_,H,I.kept k,?_,q⟩
 by_cases hj:j>i
 · rw [if_pos hj,if_pos hj];exact ⟨_,rfl⟩
 · rw [if_neg hj,if_neg hj];exact ⟨_,rfl⟩
end
structure ObjM (h:Heap)(x dx C:Addr)(mA:Str->Option Value):Prop where
 obj:h.get? x=some (PySem.W.instObj C dx)
 ns:h.Ns1 dx mA
 ne:dx≠x
theorem YZ {h:Heap}{dx:Addr}{mA:Str->Option Value}(n:h.Ns1 dx mA):∃ od,h.get? dx=some od/\∀ name,PySem.W.lookIn name od=some (mA name):=by
 obtain ⟨o,es,ep,ho,hd,hk,_,hm⟩:=n
 refine ⟨o,ho,fun name=>?_⟩
 have e:=hm name
 unfold nsFind findBy at e
 rw [<- Array.find?_toList] at e
 unfold PySem.W.lookIn
 rw [hd]
 dsimp only
 split
 · rename_i y q
   rw [q] at e
   exact congrArg some e
 · rename_i q
   rw [q] at e
   have a:es.toList.any (·.refKey)=false:=by
    rw [List.any_eq_false]
    intro y hy
    obtain ⟨z,t,hkey⟩:=hk y (Array.mem_toList_iff.mp hy)
    simp [DictEntry.refKey,hkey]
   have a':¬ es.toList.any (·.refKey)=true:=by rw [a];exact Bool.false_ne_true
   rw [if_neg a']
   exact congrArg some e
theorem ObjM.look {h:Heap}{x dx C:Addr}{mA:Str->Option Value}(I:ObjM h x dx C mA):∃ od,PySem.W.InstAt h x (PySem.W.instObj C dx) C (some od)/\∀ name,PySem.W.lookIn name od=some (mA name) :=
 let ⟨od,ho,hl⟩:=YZ I.ns
 ⟨od,⟨I.obj,rfl,rfl,ho⟩,hl⟩
section
variable {P:Program}{w:World}{H:Hp}{h:Heap}{a C dx:Addr}{fs:List (Str×V)}
theorem J7y (hok:HOk P w H h)(e:H a=some (.ins C dx fs)):∃ mA,ObjM h a dx C mA/\(∀ f,J5m (fs.lookup f) (mA f))/\PySem.Within mA (fs.map (·.1))/\fs.length<=1000/\H dx=some (.own a):=by
 obtain ⟨d,z,ne,ob,mA,n,r,q⟩:=(show ObjOk P w H h a (.ins C dx fs) from hok a _ e)
 exact ⟨mA,⟨ob,n,ne⟩,r,q,z,d⟩
end
structure Cls (K:Fg)(C:Addr):Prop where
 pg:PySem.W.plainGet K C Str.empty=true
 hd:PySem.W.hasDictIn K C=true
 po:PySem.W.plainOver K C=true
 sa:PySem.W.findIn K (.ref C) "__setattr__" = some (some (.builtin "object.__setattr__"))
theorem Cls.get {C:Addr}(c:Cls K C)(f:Str):PySem.W.plainGet K C f=true:=c.pg
def Q4q (K:Fg)(C:Addr)(f:Str):Prop:=PySem.W.findIn K (.ref C) f=some none
def Q8o (K:Fg)(ta:TE)(f:Str):TE:=fun σ H Q=>ta σ H fun x H1=>∃ a C dx fs v,x=.ref a/\H1 a=some (.ins C dx fs)/\Cls K C/\Q4q K C f/\fs.lookup f=some v/\Q v H1
section
variable {X:Cx}{pins:List (Addr×Obj)}{σ:St}{H:Hp}{s:Shared}{A:Around}{E:Value->Shared->Prop}{Q:Value->Shared->Prop}{c:Value}{b:Bool}
inductive TyOf (K:Fg)(H:Hp):V->Value->Prop where
 | non:TyOf K H .non (.type "NoneType")
 | bl (x:Bool):TyOf K H (.bl x) (.type "bool")
 | int (i:Int):TyOf K H (.int i) (.type "int")
 | str (x:Str):TyOf K H (.str x) (.type "str")
 | flt (x:UInt64):TyOf K H (.flt x) (.type "float")
 | lst {a:Addr} {xs:List V} (e:H a=some (.lst xs)):TyOf K H (.ref a) (.type "list")
 | frz {a:Addr} {o:Obj} {xs:List V} (e:H a=some (.frz o (.lst xs))):TyOf K H (.ref a) (.type "list")
 | tup {a:Addr} {xs:List V} (e:H a=some (.tup xs)):TyOf K H (.ref a) (.type "tuple")
 | dK {a:Addr} {kvs:List (Key×V)} (e:H a=some (.dK kvs)):TyOf K H (.ref a) (.type "dict")
 | dT {a:Addr} {kvs:List (List Key×V)} (e:H a=some (.dT kvs)):TyOf K H (.ref a) (.type "dict")
 | ins {a C dx:Addr} {fs:List (Str×V)} (e:H a=some (.ins C dx fs)) (cl:Cls K C) (ha:PySem.W.findIn K (.ref C) "__class__" = some (some (.builtin "object.__class__")))
  (hn:PySem.W.specialIn K (.builtin "object.__class__") "__get__" = some (some (.builtin "getset_descriptor.__get__"))) (htk:PySem.W.takesIn K (.builtin "object.__class__")=some true)
  (hm:PySem.W.mroIn K C (.type "object")=some true):TyOf K H (.ref a) (.ref C)
theorem ZJ {x:V}{u t:Value}(I:Inv X pins σ H s)(rx:RelV x u)(ty:TyOf X.K H x t)(e:PySem.W.kitOne X.K t c=some b)(h:∀ tk,Q (.bool b) { s with toks:=tk }) :
 wpAny (model X.prog X.w) A (call (.builtin "isinstance") [u,c]) Q E s:=by
 cases ty with
 | non=>cases (show u=Value.none from rx);exact PySem.W.kia_one PySem.W.kitx_none I.kIn True.intro e (fun z=>nomatch z) h
 | bl y=>cases (show u=Value.bool y from rx);exact PySem.W.kia_one PySem.W.kitx_bool I.kIn True.intro e (fun z=>nomatch z) h
 | int i=>obtain ⟨t,q⟩:=(show ∃ t,u=Value.int i t from rx);cases q;exact PySem.W.kia_one PySem.W.kitx_int I.kIn True.intro e (fun z=>nomatch z) h
 | str y=>obtain ⟨t,q⟩:=(show ∃ t,u=Value.str y t from rx);cases q;exact PySem.W.kia_one PySem.W.kitx_str I.kIn True.intro e (fun z=>nomatch z) h
 | flt y=>obtain ⟨t,q⟩:=(show ∃ t,u=Value.float y t from rx);cases q;exact PySem.W.kia_one PySem.W.kitx_float I.kIn True.intro e (fun z=>nomatch z) h
 | @lst a xs ea =>
   cases (show u=Value.ref a from rx)
   obtain ⟨_,_,n,_,h1⟩:=(show ObjOk X.prog X.w H s.heap a (.lst xs) from I.hok a _ ea)
   exact PySem.W.kia_one PySem.W.kitx_list I.kIn ⟨_,h1,rfl⟩ e (fun z=>nomatch z) h
 | @frz a ob xs ea =>
   cases (show u=Value.ref a from rx)
   obtain ⟨_,_,_,n,_,h1⟩:=(show ObjOk X.prog X.w H s.heap a (.frz ob (.lst xs)) from I.hok a _ ea)
   exact PySem.W.kia_one PySem.W.kitx_list I.kIn ⟨_,h1,rfl⟩ e (fun z=>nomatch z) h
 | @tup a xs ea =>
   cases (show u=Value.ref a from rx)
   obtain ⟨_,_,_,p⟩:=(show ObjOk X.prog X.w H s.heap a (.tup xs) from I.hok a _ ea)
   obtain ⟨o,h1,h2,_⟩:=p
   exact PySem.W.kia_one PySem.W.kitx_tuple I.kIn ⟨o,h1,h2⟩ e (fun z=>nomatch z) h
 | @dK a kvs ea =>
   cases (show u=Value.ref a from rx)
   obtain ⟨_,_,vs,_,p⟩:=(show ObjOk X.prog X.w H s.heap a (.dK kvs) from I.hok a _ ea)
   obtain ⟨o,es,ep,h1,h2,_⟩:=p
   exact PySem.W.kia_one PySem.W.kitx_dict I.kIn ⟨o,h1,h2.1⟩ e (fun z=>nomatch z) h
 | @dT a kvs ea =>
   cases (show u=Value.ref a from rx)
   obtain ⟨_,_,xs,_,o,es,ep,h1,h2,_⟩:=(show ObjOk X.prog X.w H s.heap a (.dT kvs) from I.hok a _ ea)
   exact PySem.W.kia_one PySem.W.kitx_dict I.kIn ⟨o,h1,h2.1⟩ e (fun z=>nomatch z) h
 | @ins a C dx fs ea cl ha hn htk hm =>
   cases (show u=Value.ref a from rx)
   obtain ⟨mA,O,_⟩:=J7y I.hok ea
   obtain ⟨od,J,_⟩:=O.look
   exact PySem.W.kia_one (PySem.W.kitx_own (cl.get _) cl.hd ha hn htk hm) I.kIn J e (fun z=>nomatch z) h
end
structure Room (k:Nat)(A:Around):Prop where
 hd:A.handled=none
 dp:A.depth+3*k+5<recursionLimit
 un:A.units+16*k+200<cLine
theorem Room.mono {j k:Nat}{A:Around}(r:Room k A)(h:j<=k):Room j A:=⟨r.hd,by have:=r.dp;omega,by have:=r.un;omega⟩
theorem Room.deeper {k:Nat}{A:Around}(r:Room (k+1) A)(env:Env):Room k (A.deeper env) :=
 ⟨r.hd,by have:=r.dp;show A.depth+1+3*k+5<_;omega,by have:=r.un;show A.units+3+16*k+200<_;omega⟩
theorem Room.in1 {k:Nat}{A:Around}(r:Room (k+1) A):Room k A.in1 :=
 ⟨r.hd,by have:=r.dp;show A.depth+3*k+5<_;omega,by have:=r.un;show A.units+1+16*k+200<_;omega⟩
theorem Room.depth {k:Nat}{A:Around}(r:Room k A):A.depth<recursionLimit:=by have:=r.dp;omega
theorem Room.units {k:Nat}{A:Around}(r:Room k A):A.units+64<cLine:=by have:=r.un;omega
def J5y:TA:=fun _ H Q=>Q [] H
def J0r (ta:TE)(tr:TA):TA:=fun σ H Q=>ta σ H fun x H1=>tr σ H1 fun xs H2=>Q (x::xs) H2
section
variable {X:Cx}{e:Expr}{es:List Expr}{te:TE}{t:TA}{pos:Pos}
theorem BY:PA X [] J5y:=fun _ _ _ _ H Q I h=>Calls.spliced_nil ⟨[],H,I,.nil,h⟩
theorem Z7 (ha:PE X e te)(hr:PA X es t)(hs:starEach (e::es) X.env=(false,eval e X.env)::starEach es X.env:=by rfl):PA X (e::es) (J0r te t):=by
 intro pos pins s σ H Q I h
 rw [hs]
 show wpAny _ _ (spliced ((false,eval e X.env)::backTo pos (starEach es X.env))) _ _ s
 refine Calls.spliced_cons (thn (ha pins s σ H _ I h) fun u s1 ⟨x,H1,I1,r1,q1⟩=>?_)
 exact thn (hr pos pins s1 σ H1 _ I1 q1) fun us s2 ⟨xs,H2,I2,r2,q2⟩=>⟨x::xs,H2,I2,.cons r1 r2,q2⟩
def J5w (t:TA):TE:=fun σ H Q=>t σ H fun xs H1=>xs.length<=sizeLine/\∀ p,H1 p=none->Q (.ref p) (upd H1 p (.tup xs))
def Q7o (t:TA):TE:=fun σ H Q=>t σ H fun xs H1=>xs.length<=sizeLine/\∀ p,H1 p=none->Q (.ref p) (upd H1 p (.lst xs))
theorem BM {x1}(h:PA X es t):PE X (.Tuple es x1 pos) (J5w t):=by
 intro pins s σ H Q I hq
 refine wpAny_Tuple_spliced (thn (h pos pins s σ H _ I hq) fun us s1 ⟨xs,H1,I1,r,z,q⟩=>⟨by rw [<- r.length];exact z,?_⟩)
 have hf:H1 s1.heap.objs.size=none:=I1.hok.fresh (Nat.le_refl _)
 refine ⟨.ref s1.heap.objs.size,upd H1 s1.heap.objs.size (.tup xs),I1.laid (t':=s1.toks) (fun b u e=>Heap.get?_push_of_some _ e) (Nat.le_refl _) ?_,rfl,q _ hf⟩
 exact ⟨z,us,r,⟨_,Heap.get?_push_size _ rfl,rfl,_,rfl⟩⟩
theorem UY (h:PA X es t):PE X (.List es pos) (Q7o t):=by
 intro pins s σ H Q I hq
 refine wpAny_List_spliced (thn (h pos pins s σ H _ I hq) fun us s1 ⟨xs,H1,I1,r,z,q⟩=>⟨by rw [<- r.length];exact z,?_⟩)
 have hf:H1 s1.heap.objs.size=none:=I1.hok.fresh (Nat.le_refl _)
 refine ⟨.ref s1.heap.objs.size,upd H1 s1.heap.objs.size (.lst xs),I1.laid (t':=s1.toks) (fun b u e=>Heap.get?_push_of_some _ e) (Nat.le_refl _) ?_,rfl,q _ hf⟩
 exact ⟨z,us,0,r,Heap.get?_push_size _ rfl⟩
end
abbrev Sp:=List V->Hp->VK->XK->Prop
abbrev CXT:=List Env->Hp->Shared->XK->Value->Shared->Prop
structure Env0 (P:Program)(w:World)(K:Fg)(mg:Str->Option Value)(base:Heap)(A:Around)(outer:List Env)(s:Shared)(H:Hp):Prop where
 frames:A.frames=some outer
 mod:Mod K mg base
 bs:∀ b o,base.get? b=some o->s.heap.get? b=some o/\H b=none
 bsz:base.objs.size<=s.heap.objs.size
 funs:s.heap.FunFrames base outer
 frf:∀ b∈frs outer,H b=none
 hok:HOk P w H s.heap
 bare:AllBare s.gens
def CE (outer:List Env)(P:Program)(w:World)(H:Hp)(s:Shared)(Q:VK)(u:Value)(s':Shared):Prop :=
 ∃ v H',s'.os=s.os/\AllBare s'.gens/\Un (frs outer) [] H H' s.heap s'.heap/\HOk P w H' s'.heap/\RelV v u/\Q v H'
def CR (CX:CXT)(outer:List Env)(P:Program)(w:World)(H:Hp)(s:Shared)(Q:VK)(E:XK)(r:Result)(s':Shared):Prop :=
 match r with
 | .ok (.ret u)=>CE outer P w H s Q u s'
 | .ok _=>False
 | .error e=>CX outer H s E e s'
structure FnOk (P:Program)(w:World)(K:Fg)(mg:Str->Option Value)(base:Heap)(CX:CXT)(k:Nat)(f:Addr)(fd:FuncData)(ps:List Str)(sp:Sp):Prop where
 len:∀ vs H Q E,sp vs H Q E->vs.length=ps.length
 run:∀ (A:Around) (outer:List Env) (s:Shared) (H:Hp) (args:Args) (us:List Value) (vs:List V) (Q:VK) (E:XK),Room k A->Env0 P w K mg base A outer s H->BindsTo s fd args (ps.zip us)->Vals vs us->sp vs H Q E ->
  codeAny (model P w) A (.call (.ref f) args) (CR CX outer P w H s Q E) s
theorem FnOk.mono {CX:CXT}{j k:Nat}{f:Addr} {ps:List Str}{sp:Sp}(F:FnOk P w K mg base CX j f fd ps sp)(h:j<=k) :
 FnOk P w K mg base CX k f fd ps sp:=⟨F.len,fun A outer s H args us vs Q E hr=>F.run A outer s H args us vs Q E (hr.mono h)⟩
theorem FnOk.imp {CX:CXT}{k:Nat}{f:Addr} {ps:List Str}{sp sp':Sp}(F:FnOk P w K mg base CX k f fd ps sp)
 (h:∀ vs H Q E,sp' vs H Q E->sp vs H Q E):FnOk P w K mg base CX k f fd ps sp' :=
 ⟨fun vs H Q E q=>F.len vs H Q E (h _ _ _ _ q),fun A outer s H args us vs Q E hr he hb hv hs=>F.run A outer s H args us vs Q E hr he hb hv (h _ _ _ _ hs)⟩
theorem Env0.in1 {A:Around}{outer:List Env}{s:Shared}{H:Hp}(e:Env0 P w K mg base A outer s H) :
 Env0 P w K mg base A.in1 outer s H:=⟨e.frames,e.mod,e.bs,e.bsz,e.funs,e.frf,e.hok,e.bare⟩
section
variable {X:Cx}{pins:List (Addr×Obj)}{σ:St}{H:Hp}{s s':Shared}
theorem Inv.env0 (I:Inv X pins σ H s):Env0 X.prog X.w X.K X.mg X.base X.A X.stack s H :=
 ⟨I.ok.frames,I.ok.mod,I.bs,Nat.le_trans I.ok.bsz I.sz,I.stack,I.stkFree,I.hok,I.bare⟩
theorem Inv.after {Q:VK}{u:Value}(I:Inv X pins σ H s)(h:CE X.stack X.prog X.w H s Q u s'):EP X pins σ Q u s':=by
 obtain ⟨v,H',os,bare,un,hok,r,q⟩:=h
 obtain ⟨hh,g,d,t,os'⟩:=s'
 obtain rfl:os'=s.os:=os
 exact ⟨v,H',I.call (h':=hh) (g':=g) (d':=d) (t':=t) (ch:=[]) un hok bare (fun b z=>absurd z (by simp)),r,q⟩
end
def MM (sp:Sp)(dvs:List V)(E:XK)(t:TA):TE:=fun σ H Q=>t σ H fun vs H1=>sp (vs++dvs) H1 Q E
def Q8m (C:Addr)(m:Str)(sp:Sp)(dvs:List V)(E:XK)(ta:TE)(t:TA):TE:=fun σ H Q=>ta σ H fun x H1=>∃ a dx fs,x=.ref a/\H1 a=some (.ins C dx fs)/\fs.lookup m=none /\
 t σ H1 fun vs H2=>sp (x::(vs++dvs)) H2 Q E
def Q8n (C:Addr)(sp:Sp)(dvs:List V)(E:XK)(t:TA):TE:=fun σ H Q=>t σ H fun vs H1=>∀ x dx,H1 x=none->H1 dx=none->dx≠x ->
 sp (.ref x::(vs++dvs)) (upd (upd H1 dx (.own x)) x (.ins C dx [])) (fun v H2=>v=.non/\Q (.ref x) H2) E
def Binds (K:Fg)(fd:FuncData)(ps:List Str)(ds:List Value):Prop :=
 ∀ (s:Shared) (us:List Value),K.In s.heap->(us++ds).length=ps.length->BindsTo s fd ⟨us,[]⟩ (ps.zip (us++ds))
theorem Binds.all {ps:List Str}(h:∀ us:List Value,us.length=ps.length->bindArgs fd ⟨us,[]⟩=pure (ps.zip us)):Binds K fd ps []:=fun s us _ hl=>by
 rw [List.append_nil] at hl ⊢
 exact .of_eq (h us hl)
def DD (CX:CXT)(X:Cx)(E:XK):Prop:=∀ (pins:List (Addr×Obj)) (σ:St) (H:Hp) (s:Shared) (e:Value) (s':Shared),Inv X pins σ H s->CX X.stack H s E e s'->X.xe e s'
section
variable {X:Cx}{CX:CXT}{k:Nat}{f:Addr}{fd:FuncData}{ps:List Str}{sp:Sp}{dvs:List V}{ds:List Value}{E:XK}{x:Str}{p pos:Pos}{e:Expr}{es:List Expr}{t:TA}
theorem J1i {pins:List (Addr×Obj)}{σ:St}{H:Hp}{s:Shared}{Q:VK}{us:List Value}{vs:List V}(F:FnOk X.prog X.w X.K X.mg X.base CX k f fd ps sp)(hr:Room k X.A)(hb:Binds X.K fd ps ds)(hd:Vals dvs ds)(hx:DD CX X E)
 (I:Inv X pins σ H s) (r:Vals vs us) (h:sp (vs++dvs) H Q E):wpAny (model X.prog X.w) X.A (call (.ref f) us) (EP X pins σ Q) X.xe s:=by
 have r2:Vals (vs++dvs) (us++ds):=r.append hd
 have hl:(us++ds).length=ps.length:=by rw [<- r2.length];exact F.len _ _ _ _ h
 refine wpAny_call (codeAny_mono (F.run X.A X.stack s H ⟨us,[]⟩ (us++ds) (vs++dvs) Q E hr I.env0 (hb s us I.kIn hl) r2 h) fun r s' hq=>?_)
 cases r with
 | error e=>exact hx pins σ H s e s' I hq
 | ok fl =>
   cases fl with
   | ret u=>exact I.after hq
   | next=>exact False.elim hq
   | brk=>exact False.elim hq
   | cont=>exact False.elim hq
theorem WO (F:FnOk X.prog X.w X.K X.mg X.base CX k f fd ps sp)(hr:Room k X.A)(hg:Gl X x)(hm:X.mg x=some (.ref f))(hk:PySem.W.keepIn X.K (.ref f)=true)(hb:Binds X.K fd ps ds)(hd:Vals dvs ds)(hx:DD CX X E)
 (ha:PA X (e::es) t) (hdb:(x==("__debug__" : Str))=false:=by decide) (he:starEach (e::es) X.env=(false,eval e X.env)::starEach es X.env:=by rfl) (hpl:(backTo pos (starEach es X.env)).any (·.1)=false:=by rfl) :
 PE X (.Call (.Name x p) (e::es) [] pos) (MM sp dvs E t):=by
 intro pins s σ H Q I h
 refine wpAny_Call_Name_kw (JC I hg hm ?_ hdb)
 refine PySem.W.callWith_K (h₀:=X.base) I.ok.mod.kin hk (thn (ha pos pins s σ H _ I h) fun us s1 ⟨vs,H1,I1,r,q⟩=>⟨I1.kIn,?_⟩) he hpl
 exact J1i F hr hb hd hx I1 r q
theorem J2a (F:FnOk X.prog X.w X.K X.mg X.base CX k f fd ps sp)(hr:Room k X.A)(hg:Gl X x)(hm:X.mg x=some (.ref f))(hk:PySem.W.keepIn X.K (.ref f)=true)(hb:Binds X.K fd ps ds)(hd:Vals dvs ds)(hx:DD CX X E)
 (hdb:(x==("__debug__" : Str))=false:=by decide):PE X (.Call (.Name x p) [] [] pos) (MM sp dvs E J5y):=by
 intro pins s σ H Q I h
 refine wpAny_Call_Name_kw (JC I hg hm ?_ hdb)
 exact PySem.W.callWith_K0 I.kIn hk (J1i (us:=[]) F hr hb hd hx I .nil h)
end
structure FnScope (N P:List Str)(sc:Scope):Prop where
 kind:sc.kind=.function
 co:sc.isCoroutine=false
 gen:sc.isGenerator=false
 nd:N.Nodup
 pre:N.take P.length=P
 par:∀ x∈P,sc.names.lookup x=some .local\/sc.names.lookup x=some .cell
 nofree:∀ y∈sc.names,y.2≠.free
theorem NV {kindOf:Str->Option NameKind}{x:Str}:∀ {binds:List (Str×Value)} {m:Str->Option Value},(∀ v,(x,v)∉binds)->bindL kindOf binds m x=m x
 | [],_,_=>rfl
 | (n,v)::r,m,h=>by
   unfold bindL
   rw [NV fun w hw=>h w (List.mem_cons_of_mem _ hw)]
   split
   · have:x≠n:=by rintro rfl;exact h v List.mem_cons_self
     simp [this]
   · rfl
theorem NX {kindOf:Str->Option NameKind}{x:Str}:∀ {binds:List (Str×Value)} {m:Str->Option Value},(∀ v,(x,v)∉binds)->bindC kindOf binds m x=m x
 | [],_,_=>rfl
 | (n,v)::r,m,h=>by
   unfold bindC
   rw [NX fun w hw=>h w (List.mem_cons_of_mem _ hw)]
   split
   · rfl
   · have:x≠n:=by rintro rfl;exact h v List.mem_cons_self
     simp [this]
theorem NW {kindOf:Str->Option NameKind}{x:Str}{v:Value}:∀ {P:List Str} {vs:List Value} {i:Nat} {m:Str->Option Value},P.Nodup->P[i]?=some x->vs[i]?=some v->kindOf x=some .local ->
 bindL kindOf (P.zip vs) m x=some v
 | [],_,_,_,_,h,_,_=>by simp at h
 | _::_,[],_,_,_,_,h,_=>by simp at h
 | p::P,w::vs,0,m,nd,h1,h2,hk=>by
   simp at h1 h2;subst h1;subst h2
   show bindL kindOf ((p,w)::P.zip vs) m p=_
   unfold bindL
   rw [NV fun v hv=>(List.nodup_cons.mp nd).1 (List.of_mem_zip hv).1,if_pos hk]
   simp
 | p::P,w::vs,i+1,m,nd,h1,h2,hk=>by
   show bindL kindOf ((p,w)::P.zip vs) m x=_
   unfold bindL
   exact NW (i:=i) (List.nodup_cons.mp nd).2 (by simpa using h1) (by simpa using h2) hk
theorem NY {kindOf:Str->Option NameKind}{x:Str}{v:Value}:∀ {P:List Str} {vs:List Value} {i:Nat} {m:Str->Option Value},P.Nodup->P[i]?=some x->vs[i]?=some v->kindOf x≠some .local ->
 bindC kindOf (P.zip vs) m x=some v
 | [],_,_,_,_,h,_,_=>by simp at h
 | _::_,[],_,_,_,_,h,_=>by simp at h
 | p::P,w::vs,0,m,nd,h1,h2,hk=>by
   simp at h1 h2;subst h1;subst h2
   show bindC kindOf ((p,w)::P.zip vs) m p=_
   unfold bindC
   rw [NX fun v hv=>(List.nodup_cons.mp nd).1 (List.of_mem_zip hv).1,if_neg hk]
   simp
 | p::P,w::vs,i+1,m,nd,h1,h2,hk=>by
   show bindC kindOf ((p,w)::P.zip vs) m x=_
   unfold bindC
   exact NY (i:=i) (List.nodup_cons.mp nd).2 (by simpa using h1) (by simpa using h2) hk
def DF (N:List Str)(vs:List V):St:=vs.map some++List.replicate (N.length - vs.length) none
def AJ (CX:CXT)(P:Program)(w:World)(K:Fg)(mg:Str->Option Value)(base:Heap)(N:List Str)(qual:Str)(scope:Scope)(f:Addr)(cd:Value)(A:Around)(outer:List Env)(s:Shared)(H:Hp)(E:XK):Cx where
 prog:=P
 w:=w
 K:=K
 mg:=mg
 base:=base
 A:=A.deeper (envOfC qual scope s.heap.objs.size f cd)
 N:=N
 s₀:=s
 H₀:=H
 env:=envOfC qual scope s.heap.objs.size f cd
 outer:=outer
 stack:=envOfC qual scope s.heap.objs.size f cd::outer
 ex:=[]
 calm:=true
 fn:=fun _=>true
 pn:=[]
 xe:=fun e s'=>wpAny (model P w) (A.deeper (envOfC qual scope s.heap.objs.size f cd)) (leaving (envOfC qual scope s.heap.objs.size f cd) e) (fun _ s''=>CX outer H s E e s'') (fun e' s''=>CX outer H s E e' s'') s'
theorem UE {sc:Scope}{n:Nat}{x:Str}(h:sc.names.lookup x=some .cell):∃ c,(cellsFrom n sc.names []).lookup x=some c:=by
 have q:=PySem.W.cellsFrom_some sc.names n [] (.inl h)
 exact Option.isSome_iff_exists.mp q
theorem ZK {CX:CXT}{P:Program}{w:World}{K:Fg}{mg:Str->Option Value}{base:Heap}{N ps:List Str}{qual:Str}{scope:Scope}{f:Addr}{cd:Value}{A:Around}{outer:List Env}{s s1:Shared}{H:Hp}{E:XK}{us:List Value}{vs:List V}
 (S:FnScope N ps scope) (hd:A.handled=none) (e0:Env0 P w K mg base A outer s H) (hl:vs.length=ps.length) (r:Vals vs us)
 (x:InCallC s s.heap.objs.size (bindL (envOfC qual scope s.heap.objs.size f cd).kindOf (ps.zip us) fun _=>none) (cellsFrom (s.heap.objs.size+1) scope.names []) (bindC (envOfC qual scope s.heap.objs.size f cd).kindOf (ps.zip us) fun _=>none) s1) :
 Inv (AJ CX P w K mg base N qual scope f cd A outer s H E) [] (DF N vs) H s1:=by
 have hpl:ps.length<=N.length:=by have:=congrArg List.length S.pre;rw [List.length_take] at this;omega
 obtain ⟨h1,tk,rfl,hk⟩:=x.done
 have noA:∀ b:Addr,b∉(AJ CX P w K mg base N qual scope f cd A outer s H E).ex:=fun b z=>absurd (show b∈([]:List Addr) from z) (by simp)
 refine ⟨⟨e0.mod,S.kind,rfl,rfl,Nat.le_refl _,fun y z c h1 h2=>?_,fun y hy=>?_,fun y c _ h=>?_,fun _=>hd,Around.frames_deeper e0.frames,.inr ⟨rfl,rfl⟩,fun b z=>absurd z (noA b),e0.bs,e0.bsz,fun b _ _=>noA b,fun b z=>absurd z (noA b),e0.funs,e0.frf⟩,
  rfl,e0.bare,Un.kept hk,⟨_,x.toInCall.ns,fun i y v h1 h2 h3=>?_⟩,fun y c h=>⟨_,x.cell y c h⟩,e0.hok.fresh (Nat.le_refl _),fun y c h=>?_,fun p hp=>absurd (show p∈([]:List (Addr×Obj)) from hp) (by simp),e0.hok.kept hk,?_⟩
 · exact name_of_addr x.apart (PySem.mem_of_lookup h1) (PySem.mem_of_lookup h2)
 · have hy:scope.names.lookup y=some .cell\/scope.names.lookup y=some .free:=hy
   rcases hy with hy|hy
   · exact UE hy
   · exact absurd rfl (S.nofree _ (PySem.mem_of_lookup hy))
 · exact Nat.le_of_lt (x.above y c (PySem.mem_of_lookup h))
 · have hi:i<vs.length:=by
    unfold DF at h2
    by_cases hi:i<vs.length
    · exact hi
    · rw [List.getElem?_append_right (by simpa using hi)] at h2
      rw [List.getElem?_replicate] at h2
      split at h2<;>cases h2
   have ha:vs[i]?=some v:=by
    unfold DF at h2
    rw [List.getElem?_append_left (by simpa using hi),List.getElem?_map] at h2
    cases e:vs[i]? with
    | none=>rw [e] at h2;cases h2
    | some a=>rw [e] at h2;cases h2;rfl
   obtain ⟨u,hu,rv⟩:=r.get ha
   have hp:ps[i]?=some y:=by
    rw [<- S.pre,List.getElem?_take_of_lt (by omega)];exact h1
   have ndP:ps.Nodup:=by rw [<- S.pre];exact S.nd.sublist (List.take_sublist _ _)
   refine ⟨u,rv,?_⟩
   rcases S.par y (List.mem_of_getElem? hp) with k|k
   · exact .inl ⟨k,NW ndP hp hu k⟩
   · obtain ⟨c,e⟩:=UE (n:=s.heap.objs.size+1) k
     refine .inr ⟨.inl k,c,e,?_⟩
     have q:=x.cell y c e
     rw [NY ndP hp hu (by show scope.names.lookup y≠_;rw [k];decide)] at q
     exact q
 · exact e0.hok.fresh (Nat.le_of_lt (x.above y c (PySem.mem_of_lookup h)))
 · unfold DF
   show _=N.length
   rw [List.length_append,List.length_map,List.length_replicate]
   omega
theorem J9q {CX:CXT}{P:Program}{w:World}{K:Fg}{mg:Str->Option Value}{base:Heap}{k:Nat}{f:Addr}{name qual:Str}{params:Arguments}{body:List Stmt}{scope:Scope}{dV kV doc pm cdv ct oc:Value}{an od:Option Addr}
 {osl:Array (Option Value)} {N ps:List Str} {sp:Sp} (lk:K.lookup f=some ⟨oc,od,.func (PySem.W.fnOf name qual params body scope dV kV doc pm an cdv ct),osl⟩) (hcd:PySem.W.codeIn K cdv qual=true) (S:FnScope N ps scope)
 (len:∀ vs H Q E,sp vs H Q E->vs.length=ps.length)
 (hbody:∀ (A:Around) (outer:List Env) (s:Shared) (H:Hp) (vs:List V) (Q:VK) (E:XK),Room k (A.deeper (envOfC qual scope s.heap.objs.size f cdv))->sp vs H Q E ->
  ∃ t,PSs (AJ CX P w K mg base N qual scope f cdv A outer s H E) body t/\t { nx:=fun _ H'=>Q .non H',rt:=Q } (DF N vs) H) :
 FnOk P w K mg base CX (k+1) f (PySem.W.fnOf name qual params body scope dV kV doc pm an cdv ct) ps sp:=by
 refine ⟨len,fun A outer s H args us vs Q E hr e0 hb r hsp=>?_⟩
 have hl:=len _ _ _ _ hsp
 have KX:K.In s.heap:=e0.mod.kin.keeps fun b o e=>(e0.bs b o e).1
 have lim:s.heap.NoLimit:=e0.mod.nolimit.keeps fun b o e=>(e0.bs b o e).1
 have hkind:∀ y∈ps.zip us,scope.names.lookup y.1=some .local\/(scope.names.lookup y.1=some .cell/\((cellsFrom (s.heap.objs.size+1) scope.names []).lookup y.1).isSome=true):=fun ⟨n,v⟩ hy=>by
  rcases S.par n (List.of_mem_zip hy).1 with q|q
  · exact .inl q
  · exact .inr ⟨q,PySem.W.cellsFrom_some _ _ _ (.inl q)⟩
 refine codeAny_call_function hr.depth (KX _ _ lk) rfl S.co S.gen rfl (PySem.W.codeRec_of KX hcd) (hb _ _ _ _ ?_)
 refine wpAny_newFunctionEnv_cells S.kind hkind fun env he s1 x=>?_
 subst he
 refine ⟨lim.keeps x.toInCall.keep,codeAny_func ?_⟩
 obtain ⟨t,ht,hq⟩:=hbody A outer s H vs Q E (hr.deeper _) hsp
 have I:Inv (AJ CX P w K mg base N qual scope f cdv A outer s H E) [] (DF N vs) H s1:=ZK S hr.hd e0 hl r x
 refine wpAny_mono (ht [] s1 (DF N vs) H _ I hq) (fun fl s' hs=>?_) fun e s' hs=>hs
 have fin:∀ {σ':St} {H':Hp} {v:V} {u:Value},Inv (AJ CX P w K mg base N qual scope f cdv A outer s H E) [] σ' H' s'->RelV v u->Q v H'->CE outer P w H s Q u s' :=
  fun {σ' H' v u} J rv q=>⟨v,H',J.os,J.bare,J.base,J.hok,rv,q⟩
 cases fl with
 | ret u =>
   obtain ⟨v,σ',H',J,rv,q⟩:=hs
   exact fin J rv q
 | next =>
   obtain ⟨σ',H',J,q⟩:=hs
   exact fin (v:=V.non) (u:=Value.none) J rfl q
 | brk =>
   obtain ⟨_,_,_,q⟩:=hs
   exact False.elim q
 | cont =>
   obtain ⟨_,_,_,q⟩:=hs
   exact False.elim q
section
variable {X:Cx}{x:Str}{p pos:Pos}{e:Expr}{es:List Expr}{t:TA}{id T:String}{r:List V->Hp->VK->Prop}
def tCB (r:List V->Hp->VK->Prop)(t:TA):TE:=fun σ H Q=>t σ H fun vs H1=>r vs H1 Q
theorem CV (hc:BG X (.builtin id) r)(hg:Gl X x)(hm:X.mg x=none)(hv:bootBuiltins x=some (.builtin id))(ha:PA X (e::es) t)(hn:x≠"__name__":=by decide) (hdb:(x==("__debug__" : Str))=false:=by decide)
 (he:starEach (e::es) X.env=(false,eval e X.env)::starEach es X.env:=by rfl) (hpl:(backTo pos (starEach es X.env)).any (·.1)=false:=by rfl):PE X (.Call (.Name x p) (e::es) [] pos) (tCB r t):=by
 intro pins s σ H Q I h
 refine wpAny_Call_Name_kw (KR I hg hm hv ?_ hn hdb)
 exact PyProof.Rows.callWith_builtin1 (thn (ha pos pins s σ H _ I h) fun us s1 ⟨vs,H1,I1,r1,q1⟩=>hc pins s1 σ H1 vs us Q I1 r1 q1) he hpl
theorem MW (hc:BG X (.type T) r)(hg:Gl X x)(hm:X.mg x=none)(hv:bootBuiltins x=some (.type T))(ha:PA X (e::es) t)(hn:x≠"__name__":=by decide) (hdb:(x==("__debug__" : Str))=false:=by decide)
 (he:starEach (e::es) X.env=(false,eval e X.env)::starEach es X.env:=by rfl) (hpl:(backTo pos (starEach es X.env)).any (·.1)=false:=by rfl):PE X (.Call (.Name x p) (e::es) [] pos) (tCB r t):=by
 intro pins s σ H Q I h
 refine wpAny_Call_Name_kw (KR I hg hm hv ?_ hn hdb)
 exact PyProof.Rows.callWith_type1 (thn (ha pos pins s σ H _ I h) fun us s1 ⟨vs,H1,I1,r1,q1⟩=>hc pins s1 σ H1 vs us Q I1 r1 q1) he hpl
end
end L2
namespace HT
open PySem PyProof.Rows
section
variable {prog:Program}{w:World}{A:Around}{E:Value->Shared->Prop}{s:Shared}
theorem cat_tup {t b:Addr}{vs ws:List Value}{Q:Value->Shared->Prop}(ht:IsTup s.heap t vs.toArray)(hb:IsTup s.heap b ws.toArray)(hv:vs≠[])
 (h1:ws=[]->Q (.ref t) s) (h2:ws≠[]->Q (.ref s.heap.objs.size) { s with heap:=s.heap.push { cls:=.type "tuple",data:=.seq (vs++ws).toArray } })
 (hsz:vs.length+ws.length<=sizeLine):wpAny (model prog w) A (binaryOp .Add (.ref t) (.ref b)) Q E s:=by
 obtain ⟨⟨cls,dd,data,sl⟩,ho,hc,n,hd⟩:=id ht
 obtain ⟨⟨cls2,dd2,data2,sl2⟩,ho2,hc2,n2,hd2⟩:=id hb
 simp only at hc hd hc2 hd2
 subst hc hd hc2 hd2
 have e:vs.toArray++ws.toArray=(vs++ws).toArray:=by simp
 by_cases hw:ws=[]
 · exact concat_meets ⟨_,ho,rfl⟩ ⟨_,ho2,rfl⟩ noFill_tuple_add seq_tuple_add PySem.F.slot_tuple_add PySem.F.entry_tuple_add (PySem.F.args_tuple_add_2 _ _)
    (tuple_addW1 t b vs.toArray ws.toArray n n2 dd dd2 sl sl2 (by simpa using hv) (by simp [hw])) ⟨ho,ho2,h1 hw⟩
 · refine concat_meets ⟨_,ho,rfl⟩ ⟨_,ho2,rfl⟩ noFill_tuple_add seq_tuple_add PySem.F.slot_tuple_add PySem.F.entry_tuple_add (PySem.F.args_tuple_add_2 _ _)
    (tuple_addW2 t b vs.toArray ws.toArray n n2 dd dd2 sl sl2 (by simpa using hv) (by simpa using hw) (by rw [List.size_toArray,List.size_toArray];exact hsz)) ⟨ho,ho2,?_⟩
   rw [e]
   exact h2 hw
def sIx (n d:Nat):Option Int->Nat
 | none=>d
 | some v=>if v<0 then (v+(n:Int)).toNat else min v.toNat n
theorem sIx_nat (n d k:Nat):sIx n d (some (k:Int))=min k n:=by
 show (if (k:Int)<0 then ((k:Int)+(n:Int)).toNat else min (k:Int).toNat n)=min k n
 rw [if_neg (by omega),Int.toNat_natCast]
theorem Q1b (n d:Nat)(hd:d<=n)(o:Option Int):sIx n d o<=n:=by
 cases o with
 | none=>exact hd
 | some v =>
   show (if v<0 then (v+(n:Int)).toNat else min v.toNat n)<=n
   by_cases hv:v<0
   · rw [if_pos hv];omega
   · rw [if_neg hv];exact Nat.min_le_right _ _
theorem XM (v:Int)(n d:Nat):(if v<0 then max (v+(n:Int)) 0 else min v (n:Int))=((sIx n d (some v):Nat):Int):=by
 show (if v<0 then max (v+(n:Int)) 0 else min v (n:Int))=(((if v<0 then (v+(n:Int)).toNat else min v.toNat n):Nat):Int)
 by_cases hv:v<0
 · simp only [if_pos hv];omega
 · simp only [if_neg hv];omega
theorem VW (lo hi:Option Int)(n:Nat):Builtin.Slice.sliceAdjust lo hi 1 (n:Int)=(((sIx n 0 lo:Nat):Int),((sIx n n hi:Nat):Int)):=by
 have h1:¬ ((1:Int)<0):=by omega
 unfold Builtin.Slice.sliceAdjust
 simp only [h1,if_false]
 refine Prod.ext ?_ ?_
 · cases lo with
   | none=>rfl
   | some v=>exact XM v n 0
 · cases hi with
   | none=>rfl
   | some v=>exact XM v n n
theorem UW (i j:Nat):Builtin.Slice.slicePlaces (i:Int) (j:Int) 1=j - i:=by
 unfold Builtin.Slice.slicePlaces
 have h1:(1:Int)>0:=by omega
 simp only [h1,if_true,Int.ediv_one]
 split<;>omega
theorem JQ {v:Value}{o:Option Int}{Q:Option Int->Shared->Prop}(p:IsPart v o)(h:Q o s):wpAny (model prog w) A (Builtin.Slice.slicePartIndex v) Q E s:=by
 cases p with
 | none=>exact slicePart_none h
 | int i t=>exact slicePart_int h
theorem HI {sl:Addr}{vl vu:Value}{lo hi:Option Int}{n:Nat}{Q:Int×Int×Nat->Shared->Prop}(hs:s.heap.IsSliceOf sl vl vu .none)(pl:IsPart vl lo)(pu:IsPart vu hi)
 (h:Q (((sIx n 0 lo:Nat):Int),1,sIx n n hi - sIx n 0 lo) s):wpAny (model prog w) A (Builtin.Slice.sliceApplied (.ref sl) (pure (n:Int))) Q E s:=by
 obtain ⟨os,hos,hcs,hds⟩:=id hs
 unfold Builtin.Slice.sliceApplied Builtin.Slice.sliceFields
 refine wpAny_bind (wpAny_bind (wpAny_field hos hds (x:=vl) rfl (wpAny_bind (wpAny_field hos hds (x:=vu) rfl (wpAny_bind (wpAny_field hos hds (x:=.none) rfl (wpAny_pure ?_)))))))
 refine wpAny_bind (slicePart_none ?_)
 show wpAny _ _ (if ((1:Int)==0)=true then _ else _) _ _ s
 rw [if_neg (by decide)]
 refine wpAny_bind (JQ pl (wpAny_bind (JQ pu (wpAny_bind (wpAny_pure ?_)))))
 show wpAny _ _ (match Builtin.Slice.sliceAdjust lo hi 1 (n:Int) with|(lo,hi)=>pure (lo,(1:Int),Builtin.Slice.slicePlaces lo hi 1)) _ _ s
 rw [VW lo hi n]
 show wpAny _ _ (pure (((sIx n 0 lo:Nat):Int),(1:Int),Builtin.Slice.slicePlaces ((sIx n 0 lo:Nat):Int) ((sIx n n hi:Nat):Int) 1)) _ _ s
 rw [UW]
 exact wpAny_pure h
theorem J1u (xs:Array Value)(i k:Nat):((List.range k).filterMap fun (m:Nat)=>xs[((i:Int)+(m:Int)*1).toNat]?).toArray=((xs.toList.drop i).take k).toArray:=by
 have e:(fun (m:Nat)=>xs[((i:Int)+(m:Int)*1).toNat]?)=fun m=>xs[i+m]?:=by
  funext m
  have:((i:Int)+(m:Int)*1).toNat=i+m:=by omega
  rw [this]
 rw [e]
 have:=pick_run xs i k
 rw [List.filterMap_map] at this
 have e2:((fun x=>xs[x]?)∘fun x=>i+x)=fun m=>xs[i+m]?:=rfl
 rw [e2] at this
 rw [this]
theorem getItem_tuple_cut {t sl:Addr}{items:Array Value}{vl vu:Value}{lo hi:Option Int}{Q:Value->Shared->Prop}(ht:IsTup s.heap t items)(hs:s.heap.IsSliceOf sl vl vu .none)(pl:IsPart vl lo)(pu:IsPart vu hi)
 (hw:¬ (sIx items.size 0 lo=0/\sIx items.size items.size hi=items.size))
 (h:Q (.ref s.heap.objs.size) { s with heap:=s.heap.push { cls:=.type "tuple",data:=.seq ((items.toList.drop (sIx items.size 0 lo)).take (sIx items.size items.size hi - sIx items.size 0 lo)).toArray } })
 (hsz:items.size<=sizeLine):wpAny (model prog w) A (getItem (.ref t) (.ref sl)) Q E s:=by
 have htake:sizeOk (.seq ((items.toList.drop (sIx items.size 0 lo)).take (sIx items.size items.size hi - sIx items.size 0 lo)).toArray):=by
  show ((items.toList.drop (sIx items.size 0 lo)).take (sIx items.size items.size hi - sIx items.size 0 lo)).toArray.size<=sizeLine
  rw [List.size_toArray,List.length_take,List.length_drop,Array.length_toList]
  omega
 have hj:sIx items.size items.size hi<=items.size:=Q1b _ _ (Nat.le_refl _) hi
 obtain ⟨os,hos,hcs,hds⟩:=id hs
 have hTs:s.TypeIs (.ref sl) "slice":=⟨os,hos,hcs⟩
 unfold getItem
 try with_reducible refine wpAny_holding ?_
 first|refine wpAny_bind (wpAny_pure ?_)|skip
 refine wpAny_bind (wpAny_sequenceKey ht.typeIs (by decide) ?_)
 refine wpAny_bind (wpAny_callSpecial?_slot (name:=Str.ofString "__getitem__") ht.typeIs PyProof.Rows.slot_tuple_getitem
  (wpAny_call_entry PyProof.Rows.slot_tuple_getitem ht.typeIs entry_tuple_getitem ?_ (args_tuple_getitem _ _)))
 show wpAny _ _ (Builtin.Tuple.tupleItemsOf (.ref t) >>= _) _ _ s
 refine wpAny_bind (tupleItemsOf_ ht ?_)
 refine wpAny_bind (wpAny_typeOf hTs ?_)
 rw [if_pos (by decide)]
 refine wpAny_bind (HI hs pl pu ?_)
 have hno:¬ ((((sIx items.size 0 lo:Nat):Int)==0&&(1:Int)==1&&(sIx items.size items.size hi - sIx items.size 0 lo)==items.size)=true):=by
  intro q
  rw [Bool.and_eq_true,Bool.and_eq_true] at q
  have q1:((sIx items.size 0 lo:Nat):Int)=0:=eq_of_beq q.1.1
  have q2:sIx items.size items.size hi - sIx items.size 0 lo=items.size:=eq_of_beq q.2
  exact hw ⟨by omega,by omega⟩
 show wpAny _ _ (if (((sIx items.size 0 lo:Nat):Int)==0&&(1:Int)==1&&(sIx items.size items.size hi - sIx items.size 0 lo)==items.size)=true then _ else _) _ _ s
 rw [if_neg hno,J1u]
 first
  | exact wpAny_bind (m:=Builtin.Tuple.tupleExact _) (wpAny_newObj_type (wpAny_pure ⟨_,rfl,wpAny_pure h⟩) htake)
  | exact wpAny_bind (m:=Builtin.Tuple.tupleExact _) (wpAny_newObj_type (wpAny_bind (wpAny_pure (wpAny_pure ⟨_,rfl,wpAny_pure h⟩))) htake)
  | exact wpAny_bind (wpAny_bind (m:=Builtin.Tuple.tupleExact _) (wpAny_newObj_type (wpAny_pure (wpAny_pure ⟨_,rfl,wpAny_pure h⟩)) htake))
  | exact wpAny_bind (wpAny_bind (m:=Builtin.Tuple.tupleExact _) (wpAny_newObj_type (wpAny_pure ⟨_,rfl,wpAny_pure h⟩) htake))
end
end HT
namespace L2
open PySem PySem.Spec PyProof.Rows
abbrev TO:=St->Hp->(Option Int->Hp->Prop)->Prop
def PO (X:Cx)(e:Option Expr)(t:TO):Prop :=
 ∀ (pins:List (Addr×Obj)) (s:Shared) (σ:St) (H:Hp) (Q:Option Int->Hp->Prop),Inv X pins σ H s->t σ H Q ->
  wpAny (model X.prog X.w) X.A (evalPart e X.env) (fun u s'=>∃ o H',Inv X pins σ H' s'/\IsPart u o/\Q o H') X.xe s
def J5x:TO:=fun _ H Q=>Q none H
def Q4y (t:TE):TO:=fun σ H Q=>t σ H fun x H1=>∃ i,x=.int i/\Q (some i) H1
section
variable {X:Cx}{e:Expr}{te:TE}{lo hi:Option Expr}{tl th:TO}{pos p2:Pos}
theorem J6p:PO X none J5x:=by
 intro pins s σ H Q I h
 rw [evalPart_none]
 exact wpAny_pure ⟨none,H,I,.none,h⟩
theorem J6o (h:PE X e te):PO X (some e) (Q4y te):=by
 intro pins s σ H Q I hw
 rw [evalPart_some]
 refine thn (h pins s σ H _ I hw) fun u s1 ⟨x,H1,I1,r1,q1⟩=>?_
 obtain ⟨i,rfl,q⟩:=q1
 obtain ⟨t,rfl⟩:=r1
 exact ⟨some i,H1,I1,.int i t,q⟩
def SlR (X:Cx)(r:V->Option Int->Option Int->Hp->VK->Prop):Prop :=
 ∀ (pins:List (Addr×Obj)) (s:Shared) (σ:St) (H:Hp) (x:V) (v vl vu:Value) (lo hi:Option Int) (sl:Addr) (Q:VK),Inv X pins σ H s->RelV x v->s.heap.IsSliceOf sl vl vu .none->IsPart vl lo->IsPart vu hi->r x lo hi H Q ->
  ∃ T id,typeLookup (.type T) "__getitem__" = pure (some (.builtin id))/\s.TypeIs v T/\wpAny (model X.prog X.w) X.A (getItem v (.ref sl)) (EP X pins σ Q) X.xe s
theorem SlR.or {r r':V->Option Int->Option Int->Hp->VK->Prop}(h:SlR X r)(h':SlR X r'):SlR X (fun x lo hi H Q=>r x lo hi H Q\/r' x lo hi H Q):=by
 intro pins s σ H x v vl vu lo hi sl Q I rx hs pl pu q
 rcases q with q|q
 · exact h pins s σ H x v vl vu lo hi sl Q I rx hs pl pu q
 · exact h' pins s σ H x v vl vu lo hi sl Q I rx hs pl pu q
def tSl (r:V->Option Int->Option Int->Hp->VK->Prop)(te:TE)(tl th:TO):TE:=fun σ H Q=>te σ H fun x H1=>tl σ H1 fun l H2=>th σ H2 fun u H3=>r x l u H3 Q
theorem J1v {r:V->Option Int->Option Int->Hp->VK->Prop}(hr:SlR X r)(he:PE X e te)(hl:PO X lo tl)(hu:PO X hi th):PE X (.Subscript e (.Slice lo hi none p2) pos) (tSl r te tl th):=by
 intro pins s σ H Q I h
 refine Subscript_ (thn (he pins s σ H _ I h) fun v s1 ⟨x,H1,I1,r1,q1⟩=>?_)
 refine wpAny_Slice (thn (hl pins s1 σ H1 _ I1 q1) fun vl s2 ⟨l,H2,I2,pl,q2⟩=>thn (hu pins s2 σ H2 _ I2 q2) fun vu s3 ⟨u,H3,I3,pu,q3⟩=>?_)
 rw [evalPart_none]
 refine wpAny_pure ?_
 have I4:Inv X pins σ H3 { s3 with heap:=s3.heap.push { cls:=.type "slice",data:=.fields #[vl,vu,.none] } }:=I3.kept (t':=s3.toks) fun b ob q=>Heap.get?_push_of_some _ q
 obtain ⟨T,id,hT,ht,hg⟩:=hr pins { s3 with heap:=s3.heap.push { cls:=.type "slice",data:=.fields #[vl,vu,.none] } } σ H3 x v vl vu l u s3.heap.objs.size Q I4 r1 (Heap.IsSliceOf.new ..) pl pu q3
 show wpAny (model X.prog X.w) X.A (subscriptTail e (.Slice lo hi none p2) v (.ref s3.heap.objs.size)) (EP X pins σ Q) X.xe { s3 with heap:=s3.heap.push { cls:=.type "slice",data:=.fields #[vl,vu,.none] } }
 exact tail_any (ops:=[.ref s3.heap.objs.size,v]) ht hT hg (by with_unfolding_all rfl)
def TU (xs:List V)(lo hi:Option Int):List V:=(xs.drop (HT.sIx xs.length 0 lo)).take (HT.sIx xs.length xs.length hi - HT.sIx xs.length 0 lo)
theorem IL (xs:List V)(lo hi:Option Int):(TU xs lo hi).length<=xs.length:=by
 unfold TU
 rw [List.length_take,List.length_drop]
 omega
def J1m (K:Fg):V->Option Int->Option Int->Hp->VK->Prop:=fun x lo hi H Q=>∃ a xs,x=.ref a/\SqT K H a xs /\
 ¬ (HT.sIx xs.length 0 lo=0/\HT.sIx xs.length xs.length hi=xs.length)/\∀ p,H p=none->Q (.ref p) (upd H p (.tup (TU xs lo hi)))
theorem Q0y:SlR X (J1m X.K):=by
 intro pins s σ H x v vl vu lo hi sl Q I rx hs pl pu h
 obtain ⟨a,xs,rfl,hx,hw,q⟩:=h
 cases rx
 obtain ⟨its,r,ht,hz⟩:=I.tuple hx
 have hlen:its.toArray.size=xs.length:=by rw [List.size_toArray];exact r.length.symm
 refine ⟨"tuple",_,PyProof.Rows.slot_tuple_getitem.lookup,ht.typeIs,?_⟩
 refine HT.getItem_tuple_cut ht hs pl pu (by rw [hlen];exact hw) ?_ (by rw [hlen];exact hz)
 rw [hlen]
 refine ⟨.ref s.heap.objs.size,_,I.laid (t':=s.toks) (o:=.tup (TU xs lo hi)) (fun b ob q=>Heap.get?_push_of_some _ q) (Nat.le_refl _) ?_,rfl,q _ (I.hok.fresh (Nat.le_refl _))⟩
 exact ⟨Nat.le_trans (IL xs lo hi) hz,_,(r.drop (HT.sIx xs.length 0 lo)).take (HT.sIx xs.length xs.length hi - HT.sIx xs.length 0 lo),IsTup.new _ _⟩
def J9j (K:Fg):R2:=fun x y H Q=>∃ a b xs ys,x=.ref a/\y=.ref b/\SqT K H a xs/\SqT K H b ys/\xs≠[]/\xs.length+ys.length<=sizeLine /\
 (ys=[]->Q (.ref a) H)/\(ys≠[]->∀ p,H p=none->Q (.ref p) (upd H p (.tup (xs++ys))))
theorem Vals.nil_iff {xs:List V}{us:List Value}(r:Vals xs us):us=[]↔xs=[]:=by
 cases r with
 | nil=>simp
 | cons _ _=>simp
theorem J7b:OpR X (binaryOp .Add) (J9j X.K):=by
 intro pins s σ H x y v u Q I rx ry h
 obtain ⟨a,b,xs,ys,rfl,rfl,ha,hb,hx,hz,q1,q2⟩:=h
 cases rx
 cases ry
 obtain ⟨its,r1,p1,_⟩:=I.tuple ha
 obtain ⟨its2,r2,p2,_⟩:=I.tuple hb
 refine HT.cat_tup p1 p2 (fun z=>hx (r1.nil_iff.mp z)) (fun z=>⟨.ref a,H,I,rfl,q1 (r2.nil_iff.mp z)⟩) (fun z=>?_) (by rw [<- r1.length,<- r2.length];exact hz)
 refine ⟨.ref s.heap.objs.size,_,I.laid (t':=s.toks) (o:=.tup (xs++ys)) (fun b ob q=>Heap.get?_push_of_some _ q) (Nat.le_refl _) ?_,rfl,q2 (fun w=>z (r2.nil_iff.mpr w)) _ (I.hok.fresh (Nat.le_refl _))⟩
 exact ⟨by rw [List.length_append];exact hz,_,r1.append r2,IsTup.new _ _⟩
end
def ixN (n:Nat)(i:Int):Option Nat:=if 0<=i then (if i<n then some i.toNat else none) else if -(n:Int)<=i then some (i+n).toNat else none
def atI {α:Type}(xs:List α)(i:Int):Option α:=(ixN xs.length i).bind fun j=>xs[j]?
theorem WY {n:Nat}{i:Int}{j:Nat}(h:ixN n i=some j):seqIndex? i n=some j/\j<n/\-(n:Int)<=i/\i<n:=by
 unfold ixN at h
 by_cases h0:0<=i
 · rw [if_pos h0] at h
   by_cases h1:i<n
   · rw [if_pos h1] at h
     have e:i.toNat=j:=Option.some.inj h
     exact ⟨by rw [seqIndex_of h0 h1,e],by omega,by omega,h1⟩
   · rw [if_neg h1] at h;cases h
 · rw [if_neg h0] at h
   by_cases h1 : -(n:Int)<=i
   · rw [if_pos h1] at h
     have e:(i+n).toNat=j:=Option.some.inj h
     exact ⟨by rw [seqIndex_neg (by omega) h1,e],by omega,h1,by omega⟩
   · rw [if_neg h1] at h;cases h
theorem XR {α:Type}{xs:List α}{i:Int}{v:α}(h:atI xs i=some v):∃ j,seqIndex? i xs.length=some j/\xs[j]?=some v/\j<xs.length/\-(xs.length:Int)<=i/\i<xs.length:=by
 unfold atI at h
 cases e:ixN xs.length i with
 | none=>rw [e] at h;cases h
 | some j =>
   rw [e] at h
   obtain ⟨h1,h2,h3,h4⟩:=WY e
   exact ⟨j,h1,h,h2,h3,h4⟩
theorem JJ {α:Type}{xs:List α}{j:Nat}{v:α}(h:xs[j]?=some v):atI xs (j:Int)=some v:=by
 have hj:j<xs.length:=(List.getElem?_eq_some_iff.mp h).1
 have e:ixN xs.length (j:Int)=some j:=by
  unfold ixN
  rw [if_pos (by omega),if_pos (by omega)];simp
 unfold atI;rw [e];exact h
def QM (b:Expr):Prop:=∀ o i,subscripted b false o i=operate [o,i] (getItem o i)
def IxR (X:Cx)(r:R2):Prop :=
 ∀ (value slice:Expr) (pins:List (Addr×Obj)) (s:Shared) (σ:St) (H:Hp) (x y:V) (v u:Value) (Q:VK),Inv X pins σ H s->RelV x v->RelV y u->r x y H Q ->
  subscripted slice false v u=operate [v,u] (getItem v u)->wpAny (model X.prog X.w) X.A (subscriptTail value slice v u) (EP X pins σ Q) X.xe s
def MtR (X:Cx)(id:String)(r:V->List V->Hp->VK->Prop):Prop :=
 ∀ (pins:List (Addr×Obj)) (s:Shared) (σ:St) (H:Hp) (x:V) (xs:List V) (v:Value) (us:List Value) (Q:VK),Inv X pins σ H s->RelV x v->Vals xs us->r x xs H Q ->
  wpAny (model X.prog X.w) X.A (call (.builtin id) (v::us)) (EP X pins σ Q) X.xe s
section
variable {X:Cx}{a b:Expr}{ta tb:TE}{pos:Pos}
theorem IxR.or {r r':R2}(h:IxR X r)(h':IxR X r'):IxR X (fun x y H Q=>r x y H Q\/r' x y H Q):=by
 intro value slice pins s σ H x y v u Q I rx ry q hs
 rcases q with q|q
 · exact h value slice pins s σ H x y v u Q I rx ry q hs
 · exact h' value slice pins s σ H x y v u Q I rx ry q hs
theorem KG {r:R2}(hr:IxR X r)(ha:PE X a ta)(hb:PE X b tb)(hs:QM b):PE X (.Subscript a b pos) (tOp r ta tb):=by
 intro pins s σ H Q I h
 exact Subscript_ (Q4h ha hb I h fun v u s2 x y H2 I2 rx ry q=>hr a b pins s2 σ H2 x y v u Q I2 rx ry q (hs _ _))
def J6l (K:Fg):R2:=fun x y H Q=>∃ p xs i v,x=.ref p/\y=.int i/\SqL K H p xs/\atI xs i=some v/\Q v H
def J6k (K:Fg):R2:=fun x y H Q=>∃ p xs i v,x=.ref p/\y=.int i/\SqT K H p xs/\atI xs i=some v/\Q v H
theorem J7v:IxR X (J6l X.K):=by
 intro value slice pins s σ H x y v u Q I rx ry h hs
 obtain ⟨p,xs,i,z,rfl,rfl,hq,he,q⟩:=h
 cases rx
 obtain ⟨t,rfl⟩:=ry
 obtain ⟨its,r,pl,hz⟩:=I.list hq
 obtain ⟨j,h1,h2,h3,h4,h5⟩:=XR he
 obtain ⟨w,ew,rw'⟩:=r.get h2
 have hl:=r.length
 have hn:=KQ
 have fin:EP X pins σ Q w s:=⟨z,H,I,rw',q⟩
 by_cases h0:0<=i
 · have hj:i.toNat=j:=by
    rw [seqIndex_of h0 h5] at h1
    exact Option.some.inj h1
   exact item_listR pl.isList h0 (by omega) (by rw [hj];simpa using ew) fin hs
 · have hj:(i+(its.toArray.size:Int)).toNat=j:=by
    rw [seqIndex_neg (by omega) h4] at h1
    rw [List.size_toArray,<- hl]
    exact Option.some.inj h1
   exact subscriptTail_builtinR (x:=w) pl.isList.typeIs slot_list_getitem.lookup
    (wpAny_getItem_list_neg (Q:=fun r s'=>r=w/\EP X pins σ Q r s') pl.isList (by omega) (by rw [List.size_toArray]<;>omega) (by omega) (by rw [hj];simpa using ew) ⟨rfl,fin⟩) hs
theorem Q2h:IxR X (J6k X.K):=by
 intro value slice pins s σ H x y v u Q I rx ry h hs
 obtain ⟨p,xs,i,z,rfl,rfl,hq,he,q⟩:=h
 cases rx
 obtain ⟨t,rfl⟩:=ry
 obtain ⟨its,r,pl,hz⟩:=I.tuple hq
 obtain ⟨j,h1,h2,h3,h4,h5⟩:=XR he
 obtain ⟨w,ew,rw'⟩:=r.get h2
 have hl:=r.length
 have hn:=KQ
 have fin:EP X pins σ Q w s:=⟨z,H,I,rw',q⟩
 exact subscriptTail_builtinR (x:=w) pl.typeIs slot_tuple_getitem.lookup
  (getItem_tuple (j:=j) (Q:=fun r s'=>r=w/\EP X pins σ Q r s') pl (by omega) (by omega) (by rw [List.size_toArray,<- hl];exact h1) (by simpa using ew) ⟨rfl,fin⟩) hs
theorem VF (its:List Value)(n j:Nat)(u:Value):Obj.mapSeq (·.setIfInBounds j u) { cls:=.type "list",data:=.seq its.toArray n }={ cls:=.type "list",data:=.seq (its.set j u).toArray n }:=by
 simp [Obj.mapSeq]
theorem Inv.lst {pins:List (Addr×Obj)}{σ:St}{H:Hp}{s:Shared}{p:Addr}{xs:List V}(I:Inv X pins σ H s)(h:H p=some (.lst xs)) :
 ∃ (its:List Value) (n:Nat),Vals xs its/\s.heap.get? p=some { cls:=.type "list",data:=.seq its.toArray n }/\xs.length<=sizeLine:=by
 obtain ⟨z,its,n,r,e⟩:=I.hok p _ h
 exact ⟨its,n,r,e,z⟩
theorem Inv.lstUpd {pins:List (Addr×Obj)}{σ:St}{H:Hp}{s:Shared}{p:Addr}{xs ys:List V}{its its':List Value}{n n':Nat}{f:Obj->Obj}(I:Inv X pins σ H s)(h:H p=some (.lst xs))
 (ho:s.heap.get? p=some { cls:=.type "list",data:=.seq its.toArray n }) (hf:f { cls:=.type "list",data:=.seq its.toArray n }={ cls:=.type "list",data:=.seq its'.toArray n' }) (r:Vals ys its') (hz:ys.length<=sizeLine) (t:Nat) :
 Inv X pins σ (upd H p (.lst ys)) { s with heap:=s.heap.update p f,toks:=t }:=by
 have e:(s.heap.update p f).get? p=some { cls:=.type "list",data:=.seq its'.toArray n' }:=by
  rw [Heap.get?_update_self f ho (by rw [hf]<;>rfl),hf]
 refine I.write (x:=p) (e:=p) (by rw [h];trivial) (.inl rfl) (fun b u hb q=>(Heap.get?_update_other _ _ (Ne.symm hb)).trans q) ⟨_,e⟩ ?_
 exact ⟨hz,its',n',r,e⟩
def Q5i:V->V->V->Hp->(Hp->Prop)->Prop:=fun o i v H Q=>∃ p xs k j,o=.ref p/\i=.int k/\H p=some (.lst xs)/\ixN xs.length k=some j/\Q (upd H p (.lst (xs.set j v)))
theorem RM:Q4o X Q5i:=by
 intro pins s σ H o i v ov iv u Q I ro ri rv h
 obtain ⟨p,xs,k,j,rfl,rfl,hp,hj,q⟩:=h
 cases ro
 obtain ⟨t,rfl⟩:=ri
 obtain ⟨its,n,r,ho,hz⟩:=I.lst hp
 obtain ⟨h1,h2,h3,h4⟩:=WY hj
 have hl:=r.length
 have hn:=KQ
 have I':Inv X pins σ (upd H p (.lst (xs.set j v))) { s with heap:=s.heap.update p (Obj.mapSeq (·.setIfInBounds j u)) } :=
  I.lstUpd hp ho (VF its n j u) (r.set rv j) (by rw [List.length_set];exact hz) s.toks
 by_cases h0:0<=k
 · have hk:k.toNat=j:=by
    rw [seqIndex_of h0 h4] at h1
    exact Option.some.inj h1
   exact PySem.W.ki_setAt ho h0 (by omega) (by rw [List.size_toArray,<- hl];exact h4) (by rw [hk];exact ⟨_,I',q⟩)
 · have hk:(k+(its.toArray.size:Int)).toNat=j:=by
    rw [seqIndex_neg (by omega) h3] at h1
    rw [List.size_toArray,<- hl]
    exact Option.some.inj h1
   exact PySem.W.ki_setBack ho (by omega) (by rw [List.size_toArray,<- hl];exact h3) (by omega) (by rw [hk];exact ⟨_,I',q⟩)
theorem OI (lo hi:Option Int)(n:Nat):(sliceBounds lo hi none n).1=((HT.sIx n 0 lo:Nat):Int)/\(sliceBounds lo hi none n).2.1=((HT.sIx n n hi:Nat):Int)/\(sliceBounds lo hi none n).2.2=1:=by
 refine ⟨?_,?_,rfl⟩
 · cases lo with
   | none=>simp [sliceBounds,HT.sIx]
   | some i =>
     simp only [sliceBounds,HT.sIx,Option.getD_none,show (1:Int)>0 by decide,if_true]
     by_cases h:i<0
     · simp only [h,if_true]<;>omega
     · simp only [h,if_false]<;>omega
 · cases hi with
   | none=>simp [sliceBounds,HT.sIx]
   | some i =>
     simp only [sliceBounds,HT.sIx,Option.getD_none,show (1:Int)>0 by decide,if_true]
     by_cases h:i<0
     · simp only [h,if_true]<;>omega
     · simp only [h,if_false]<;>omega
theorem LS (its:List Value)(lo hi:Option Int):slicePick its.toArray lo hi none=((its.drop (HT.sIx its.length 0 lo)).take (HT.sIx its.length its.length hi - HT.sIx its.length 0 lo)).toArray:=by
 obtain ⟨h1,h2,h3⟩:=OI lo hi its.toArray.size
 unfold slicePick
 rw [h1,h2,h3]
 simp only [sliceRange_one,pick_run,List.size_toArray]<;>rfl
def J1n (K:Fg):V->Option Int->Option Int->Hp->VK->Prop:=fun x lo hi H Q=>∃ a xs,x=.ref a/\SqL K H a xs/\∀ p,H p=none->Q (.ref p) (upd H p (.lst (TU xs lo hi)))
theorem J6e:SlR X (J1n X.K):=by
 intro pins s σ H x v vl vu lo hi sl Q I rx hs pl pu h
 obtain ⟨a,xs,rfl,hx,q⟩:=h
 cases rx
 obtain ⟨its,r,ht,hz⟩:=I.list hx
 have hlen:=r.length
 refine ⟨"list",_,slot_list_getitem.lookup,ht.isList.typeIs,?_⟩
 refine wpAny_getItem_list_slice ht.isList hs pl pu .none (by simp) ?_ (by rw [List.size_toArray]<;>omega)
 rw [LS,<- hlen]
 refine ⟨.ref s.heap.objs.size,_,I.laid (t':=s.toks) (o:=.lst (TU xs lo hi)) (fun b ob q=>Heap.get?_push_of_some _ q) (Nat.le_refl _) ?_,rfl,q _ (I.hok.fresh (Nat.le_refl _))⟩
 exact ⟨Nat.le_trans (IL xs lo hi) hz,_,0,(r.drop (HT.sIx xs.length 0 lo)).take (HT.sIx xs.length xs.length hi - HT.sIx xs.length 0 lo),Heap.get?_push_size _ rfl⟩
theorem QH:BG X (.builtin "len") (fun xs H Q=>∃ p ys,xs=[.ref p]/\(SqL X.K H p ys\/SqT X.K H p ys)/\Q (.int ys.length) H):=by
 intro pins s σ H xs us Q I r h
 obtain ⟨p,ys,rfl,hq,q⟩:=h
 obtain ⟨u,rfl,rx⟩:=JL r
 cases rx
 have hn:=KQ
 rcases hq with hq|hq
 · obtain ⟨its,r',pl,hz⟩:=I.list hq
   have hlen:=r'.length
   exact Calls.call_len_list pl.isList (by simp only [List.size_toArray]<;>omega) ⟨.int ys.length,H,I.tok _,⟨s.toks+1,by rw [List.size_toArray,hlen]⟩,q⟩
 · obtain ⟨its,r',pl,hz⟩:=I.tuple hq
   have hlen:=r'.length
   exact len_tuple pl (by simp only [List.size_toArray]<;>omega) ⟨.int ys.length,H,I.tok _,⟨s.toks+1,by rw [List.size_toArray,hlen]⟩,q⟩
theorem QG:BG X (.type "list") (fun xs H Q=>∃ p ys,xs=[.ref p]/\(SqL X.K H p ys\/SqT X.K H p ys)/\∀ l,H l=none->Q (.ref l) (upd H l (.lst ys))):=by
 intro pins s σ H xs us Q I r h
 obtain ⟨p,ys,rfl,hq,q⟩:=h
 obtain ⟨u,rfl,rx⟩:=JL r
 cases rx
 have fin:∀ (its:List Value),Vals ys its->ys.length<=sizeLine->∀ (h':Heap) (c':Nat),(∀ b o',s.heap.get? b=some o'->h'.get? b=some o') ->
  h'.get? s.heap.objs.size=some { cls:=.type "list",dict:=none,data:=.seq its.toArray c',slots:=#[] }->EP X pins σ Q (.ref s.heap.objs.size) { s with heap:=h' }:=fun its r' hz h' c' kp e =>
  ⟨.ref s.heap.objs.size,_,I.laid (t':=s.toks) kp (Nat.le_refl _) (show ObjOk X.prog X.w _ h' _ (.lst ys) from ⟨hz,its,c',r',e⟩),rfl,q _ (I.hok.fresh (Nat.le_refl _))⟩
 rcases hq with hq|hq
 · obtain ⟨its,r',pl,hz⟩:=I.list hq
   have hlen:=r'.length
   obtain ⟨o,ho,hc,n,hd⟩:=pl.isList
   exact call_list_seq p (.inl rfl) ho hc hd (fun h' c' kp e=>fin its r' hz h' c' kp e) (by simp only [List.size_toArray]<;>omega)
 · obtain ⟨its,r',pl,hz⟩:=I.tuple hq
   have hlen:=r'.length
   obtain ⟨o,ho,hc,n,hd⟩:=pl
   exact call_list_seq p (.inr rfl) ho hc hd (fun h' c' kp e=>fin its r' hz h' c' kp e) (by simp only [List.size_toArray]<;>omega)
theorem MH:BG X (.type "tuple") (fun xs H Q=>∃ p ys,xs=[.ref p]/\((SqL X.K H p ys/\∀ l,H l=none->Q (.ref l) (upd H l (.tup ys)))\/(SqT X.K H p ys/\Q (.ref p) H))):=by
 intro pins s σ H xs us Q I r h
 obtain ⟨p,ys,rfl,h⟩:=h
 obtain ⟨u,rfl,rx⟩:=JL r
 cases rx
 rcases h with ⟨hq,q⟩|⟨hq,q⟩
 · obtain ⟨its,r',pl,hz⟩:=I.list hq
   have hlen:=r'.length
   refine call_tuple_list pl.isList (fun h' kp=>?_) (by simp only [List.size_toArray]<;>omega)
   have I1:Inv X pins σ H { s with heap:=h' }:=I.kept (t':=s.toks) kp
   have I2:Inv X pins σ (upd H h'.objs.size (.tup ys)) { s with heap:=h'.push { cls:=.type "tuple",data:=.seq its.toArray } } :=
    I1.laid (t':=s.toks) (fun b o e=>Heap.get?_push_of_some _ e) (Nat.le_refl _) (show ObjOk X.prog X.w _ _ _ (.tup ys) from ⟨hz,its,r',IsTup.new _ _⟩)
   exact ⟨.ref h'.objs.size,_,I2,rfl,q _ (I1.hok.fresh (Nat.le_refl _))⟩
 · obtain ⟨its,r',pl,hz⟩:=I.tuple hq
   exact call_tuple_same pl ⟨.ref p,H,I,rfl,q⟩
def tyV (K:Fg)(T:String)(x:V)(H:Hp):Prop:=match x with
 | .str _=>T = "str"
 | .int _=>T = "int"
 | .ref p=>(T = "list"/\∃ xs,SqL K H p xs)\/(T = "tuple"/\∃ o,K.lookup p=some o/\o.cls=.type "tuple"/\o.dict=none) \/
  (T = "dict"/\((∃ kvs,H p=some (.dK kvs))\/∃ kvs,H p=some (.dT kvs)))\/(T = "set"/\∃ S n,H p=some (.set S n))
 | _=>False
theorem Q0m {pins:List (Addr×Obj)}{σ:St}{H:Hp}{s:Shared}{T:String}{x:V}{v:Value}(I:Inv X pins σ H s)(r:RelV x v)(ty:tyV X.K T x H) :
 s.TypeIs v T/\∀ a,v=.ref a->∃ ob,s.heap.get? a=some ob/\ob.dict=none:=by
 cases x with
 | str z =>
   obtain ⟨t,rfl⟩:=r
   cases (show T = "str" from ty)
   exact ⟨typeIs_str s z t,fun _ e=>nomatch e⟩
 | int i =>
   obtain ⟨t,rfl⟩:=r
   cases (show T = "int" from ty)
   exact ⟨typeIs_int s i t,fun _ e=>nomatch e⟩
 | ref p =>
   cases r
   rcases ty with ⟨rfl,xs,hq⟩|⟨rfl,o,hk,hc,hd⟩|⟨rfl,hk⟩|⟨rfl,S,n,hk⟩
   · obtain ⟨its,_,pl,_⟩:=I.list hq
     refine ⟨pl.isList.typeIs,fun a e=>?_⟩
     cases e
     obtain ⟨o,n,e,c,hd,_⟩:=pl
     exact ⟨o,e,hd⟩
   · refine ⟨⟨o,I.kIn p o hk,hc⟩,fun a e=>?_⟩
     cases e
     exact ⟨o,I.kIn _ o hk,hd⟩
   · have z:∃ o,s.heap.get? p=some o/\o.ExactDict:=by
      rcases hk with ⟨kvs,hk⟩|⟨kvs,hk⟩
      · obtain ⟨_,_,_,_,o,_,_,e,ex,_⟩:=I.hok p _ hk
        exact ⟨o,e,ex⟩
      · obtain ⟨_,_,_,_,o,_,_,e,ex,_⟩:=I.hok p _ hk
        exact ⟨o,e,ex⟩
     obtain ⟨o,e,ex⟩:=z
     refine ⟨⟨o,e,ex.1⟩,fun a e2=>?_⟩
     cases e2
     exact ⟨o,e,ex.2.1⟩
   · obtain ⟨o,_,_,_,e,ex,_⟩:=I.hok p _ hk
     refine ⟨⟨o,e,ex.1⟩,fun a e2=>?_⟩
     cases e2
     exact ⟨o,e,ex.2.1⟩
 | _=>exact False.elim ty
def tBM (K:Fg)(T:String)(r:V->List V->Hp->VK->Prop)(to:TE)(t:TA):TE:=fun σ H Q=>to σ H fun x H1=>tyV K T x H1/\t σ H1 fun xs H2=>r x xs H2 Q
variable {o e:Expr}{es:List Expr}{to:TE}{t:TA}{name:Str}{apos cpos:Pos}{T id:String}{r:V->List V->Hp->VK->Prop}
theorem WP (pa:PlainAttrs T)(slot:Slot T name id)(hty:typeOf (.builtin id)=pure (.type "method_descriptor")) (hm:MtR X id r) (ho:PE X o to) (ha:PA X (e::es) t)
 (hbase:attributeBase o name X.env (eval o X.env)=eval o X.env:=by rfl)
 (hfew:((backTo cpos (starEach (e::es) X.env)).all (fun x=>!x.1)&&(backToKw cpos (keywordEach [] X.env)).all (fun x=>x.1.isSome)
  && decide ((e::es).length+([]:List Keyword).length+(if ([]:List Keyword).isEmpty then 0 else 1)<30))=true:=by rfl)
 (hline:(apos.endLine==cpos.line)=true:=by rfl) (hs:starEach (e::es) X.env=(false,eval e X.env)::starEach es X.env:=by rfl) (hplain:(backTo cpos (starEach es X.env)).any (·.1)=false:=by rfl) :
 PE X (.Call (.Attribute o name apos) (e::es) [] cpos) (tBM X.K T r to t):=by
 intro pins s σ H Q I h
 refine wpAny_Call_method_late hbase hfew hline rfl (thn (ho pins s σ H _ I h) fun v s1 ⟨x,H1,I1,r1,ty,q1⟩=>?_)
 obtain ⟨h1,h2⟩:=Q0m I1 r1 ty
 refine ⟨T,id,pa,slot,hty,h1,h2,?_⟩
 have hA:=ha cpos pins s1 σ H1 _ I1 q1
 rw [hs] at hA ⊢
 refine Calls.callWith_builtin (by show (false||(backTo cpos (starEach es X.env)).any (·.1))=false;rw [hplain]<;>rfl) (Calls.evalArgs_plain ?_)
 exact thn hA fun us s2 ⟨vs,H2,I2,r2,q2⟩=>hm pins s2 σ H2 x vs v us Q I2 r1 r2 q2
end
def MtM (X:Cx)(id:String)(r:V->List V->Hp->VK->Prop):Prop :=
 ∀ (pins:List (Addr×Obj)) (s:Shared) (σ:St) (H:Hp) (x:V) (xs:List V) (v:Value) (us:List Value) (Q:VK),Inv X pins σ H s->RelV x v->Vals xs us->r x xs H Q ->
  wpAny (model X.prog X.w) X.A (call (.builtin id) (v::us)) (EP X pins σ Q) X.xe s
theorem Vals.one:∀ {x:V} {us:List Value},Vals [x] us->∃ u,us=[u]/\RelV x u
 | _,_,.cons r .nil=>⟨_,rfl,r⟩
theorem Vals.two:∀ {x y:V} {us:List Value},Vals [x,y] us->∃ u v,us=[u,v]/\RelV x u/\RelV y v
 | _,_,_,.cons r (.cons q .nil)=>⟨_,_,rfl,r,q⟩
theorem Vals.eraseIdx:∀ {xs:List V} {us:List Value} (i:Nat),Vals xs us->Vals (xs.eraseIdx i) (us.eraseIdx i)
 | _,_,_,.nil=>.nil
 | _,_,0,.cons _ t=>t
 | _,_,i+1,.cons r t=>.cons r (Vals.eraseIdx i t)
theorem Vals.rep {xs:List V}{us:List Value}(h:Vals xs us):∀ k:Nat,Vals (List.replicate k xs).flatten (List.replicate k us).flatten
 | 0=>.nil
 | k+1=>by
   rw [List.replicate_succ,List.replicate_succ,List.flatten_cons,List.flatten_cons]
   exact Vals.append h (Vals.rep h k)
theorem NB {α:Type}:∀ (l:List α) (i:Nat),(l.eraseIdx i).length<=l.length
 | [],_=>Nat.le_refl _
 | _::_,0=>Nat.le_succ _
 | _::r,i+1=>Nat.succ_le_succ (NB r i)
theorem NL (its:List Value):∀ (k:Nat) (acc:List Value),
 List.foldl (fun x1 x2=>x1++x2) acc.toArray (List.replicate k its.toArray)=(acc++(List.replicate k its).flatten).toArray
 | 0,acc=>by simp
 | k+1,acc=>by
   have e:acc.toArray++its.toArray=(acc++its).toArray:=by simp
   have e2:(acc++its)++(List.replicate k its).flatten=acc++(List.replicate (k+1) its).flatten:=by
    rw [List.replicate_succ,List.flatten_cons,List.append_assoc]
   rw [<- e2,<- NL its k (acc++its),<- e,List.replicate_succ,List.foldl_cons]
section
variable {X:Cx}{pins:List (Addr×Obj)}{σ:St}{H:Hp}{s:Shared}{l:Addr}{xs ys:List V}
theorem Inv.lset {its its':List Value}{n:Nat}{f:Array Value->Array Value}{t':Nat}(I:Inv X pins σ H s)(hH:H l=some (.lst xs))
 (e:s.heap.get? l=some { cls:=.type "list",data:=.seq its.toArray n }) (hf:f its.toArray=its'.toArray) (hv:Vals ys its') (hz:ys.length<=sizeLine) :
 Inv X pins σ (upd H l (.lst ys)) { s with heap:=s.heap.update l (Obj.mapSeq f),toks:=t' }:=by
 have q:=PySem.IsL.update e f
 rw [hf] at q
 refine I.write (x:=l) (e:=l) (by rw [hH];exact trivial) (.inl rfl) (fun b' u hb hu=>(Heap.get?_update_other s.heap (Obj.mapSeq f) (Ne.symm hb)).trans hu) ⟨_,q⟩ ?_
 exact ⟨hz,its',_,hv,q⟩
theorem Inv.lnew {its:List Value}{t':Nat}(I:Inv X pins σ H s)(hv:Vals ys its)(hz:ys.length<=sizeLine) :
 Inv X pins σ (upd H s.heap.objs.size (.lst ys)) { s with heap:=s.heap.push { cls:=.type "list",data:=.seq its.toArray },toks:=t' } :=
 I.laid (fun _ _ q=>Heap.get?_push_of_some _ q) (Nat.le_refl _) ⟨hz,its,0,hv,Heap.get?_push_size _ rfl⟩
theorem Inv.fresh (I:Inv X pins σ H s):H s.heap.objs.size=none:=I.hok.fresh (Nat.le_refl _)
theorem Inv.lstM (I:Inv X pins σ H s)(hH:H l=some (.lst xs)):xs.length<=sizeLine/\∃ (its:List Value) (n:Nat),Vals xs its/\xs.length=its.length/\s.heap.get? l=some { cls:=.type "list",data:=.seq its.toArray n }:=by
 obtain ⟨z,its,n,r,e⟩:=I.hok l _ hH
 exact ⟨z,its,n,r,r.length,e⟩
theorem SJ {n:Nat}(h:n<=sizeLine):Builtin.List.listTooLong n=false:=by
 unfold Builtin.List.listTooLong
 exact decide_eq_false (by omega)
end
section
variable {X:Cx}
def IZ:V->List V->Hp->VK->Prop:=fun x vs H Q=>∃ l xs y,x=.ref l/\vs=[y]/\H l=some (.lst xs)/\xs.length<sizeLine/\Q .non (upd H l (.lst (xs++[y])))
theorem YX:MtM X "list.append" IZ:=by
 intro pins s σ H x vs v us Q I rx rv h
 obtain ⟨l,xs,y,rfl,rfl,hH,hz,q⟩:=h
 cases rx
 obtain ⟨u,rfl,ru⟩:=rv.one
 obtain ⟨z,its,n,r,hl,e⟩:=I.lstM hH
 refine call_meets F.slot_list_append ⟨_,e,rfl⟩ F.entry_list_append (F.args_list_append_2 _ _) (PySem.list_append l its.toArray n u (by rw [List.size_toArray];omega)) ⟨e,?_⟩
 refine ⟨.non,_,I.lset (its':=its++[u]) hH e (by simp) (r.append (.cons ru .nil)) ?_,rfl,q⟩
 rw [List.length_append,List.length_singleton]
 omega
def OT:V->List V->Hp->VK->Prop:=fun x vs H Q=>∃ l b xs zs,x=.ref l/\vs=[.ref b]/\H l=some (.lst xs)/\H b=some (.lst zs)/\xs.length+zs.length<=sizeLine/\Q .non (upd H l (.lst (xs++zs)))
theorem MZ:MtM X "list.extend" OT:=by
 intro pins s σ H x vs v us Q I rx rv h
 obtain ⟨l,b,xs,zs,rfl,rfl,hH,hB,hz,q⟩:=h
 cases rx
 obtain ⟨u,rfl,ru⟩:=rv.one
 cases ru
 obtain ⟨z,its,n,r,hl,e⟩:=I.lstM hH
 obtain ⟨z2,its2,n2,r2,hl2,e2⟩:=I.lstM hB
 have hsz:its.toArray.size+its2.toArray.size<=sizeLine:=by rw [List.size_toArray,List.size_toArray];omega
 have hlong:¬ (!its.toArray.isEmpty&&Builtin.List.listTooLong (its.toArray.size+its2.toArray.size))=true:=by
  rw [SJ hsz,Bool.and_false]
  exact Bool.false_ne_true
 refine call_meets F.slot_list_extend ⟨_,e,rfl⟩ F.entry_list_extend (F.args_list_extend_2 _ _)
  (AutoSeq1.list_extend_list_list_0 l its.toArray n b its2.toArray n2 hlong (by rw [List.size_toArray];omega) (by omega)) ⟨e,e2,?_⟩
 refine ⟨.non,_,I.lset (its':=its++its2) hH e (by simp) (r.append r2) ?_,rfl,q⟩
 rw [List.length_append]
 omega
def UT:V->List V->Hp->VK->Prop:=fun x vs H Q=>∃ l xs i k y,x=.ref l/\vs=[.int i]/\H l=some (.lst xs)/\-(2 ^ 63)<=i/\i<2 ^ 63/\seqIndex? i xs.length=some k/\xs[k]?=some y/\Q y (upd H l (.lst (xs.eraseIdx k)))
theorem J3a:MtM X "list.pop" UT:=by
 intro pins s σ H x vs v us Q I rx rv h
 obtain ⟨l,xs,i,k,y,rfl,rfl,hH,h1,h2,hk,hy,q⟩:=h
 cases rx
 obtain ⟨u,rfl,ru⟩:=rv.one
 obtain ⟨t,rfl⟩:=ru
 obtain ⟨z,its,n,r,hl,e⟩:=I.lstM hH
 obtain ⟨w,hw,rw'⟩:=r.get hy
 refine call_meets F.slot_list_pop ⟨_,e,rfl⟩ F.entry_list_pop (F.args_list_pop_2 _ _)
  (MeetsSeq.list_pop_at l its.toArray n i t k w (fitsIndex_both h1 h2) (by rw [List.size_toArray,<- hl];exact hk) (by rw [<- Array.getElem?_toList];exact hw) (by rw [List.size_toArray];omega)) ⟨e,?_⟩
 refine ⟨y,_,I.lset (its':=its.eraseIdx k) hH e ?_ (r.eraseIdx k) ?_,rw',q⟩
 · show its.toArray.eraseIdxIfInBounds k=(its.eraseIdx k).toArray
   rw [List.eraseIdxIfInBounds_toArray]
 · have:=NB xs k
   omega
def Q5l:R2:=fun x y H Q=>∃ l b xs zs,x=.ref l/\y=.ref b/\H l=some (.lst xs)/\H b=some (.lst zs)/\xs.length+zs.length<=sizeLine/\∀ p,H p=none->Q (.ref p) (upd H p (.lst (xs++zs)))
theorem Q1o:OpR X (binaryOp .Add) Q5l:=by
 intro pins s σ H x y v u Q I rx ry h
 obtain ⟨l,b,xs,zs,rfl,rfl,hH,hB,hz,q⟩:=h
 cases rx
 cases ry
 obtain ⟨z,its,n,r,hl,e⟩:=I.lstM hH
 obtain ⟨z2,its2,n2,r2,hl2,e2⟩:=I.lstM hB
 refine PySem.P.add_list e e2 ?_ (by rw [List.size_toArray,List.size_toArray];omega)
 have ea:its.toArray++its2.toArray=(its++its2).toArray:=by simp
 rw [ea]
 exact ⟨.ref _,_,I.lnew (t':=s.toks) (r.append r2) (by rw [List.length_append];omega),rfl,q _ I.fresh⟩
def Q5j:R2:=fun x y H Q=>∃ l k xs,x=.ref l/\y=.int k/\H l=some (.lst xs)/\-(2 ^ 63)<=k/\k<2 ^ 63/\xs.length*k.toNat<=sizeLine /\
 ∀ p,H p=none->Q (.ref p) (upd H p (.lst (List.replicate k.toNat xs).flatten))
theorem J7n {α:Type}(xs:List α)(k:Nat):(List.replicate k xs).flatten.length=k*xs.length:=by
 induction k with
 | zero=>simp
 | succ k ih=>rw [List.replicate_succ,List.flatten_cons,List.length_append,ih,Nat.succ_mul,Nat.add_comm]
theorem J2c:OpR X (binaryOp .Mult) Q5j:=by
 intro pins s σ H x y v u Q I rx ry h
 obtain ⟨l,k,xs,rfl,rfl,hH,h1,h2,hz,q⟩:=h
 cases rx
 obtain ⟨t,rfl⟩:=ry
 obtain ⟨z,its,n,r,hl,e⟩:=I.lstM hH
 have hlen:its.toArray.size*k.toNat<=sizeLine:=by rw [List.size_toArray,<- hl];exact hz
 have hcap:¬ its.toArray.size*k.toNat>(2 ^ 63 - 1) / 8:=by
  have:(sizeLine:Nat)<=(2 ^ 63 - 1) / 8:=by decide
  omega
 have hfit:¬ (!Builtin.List.listFitsIndex k)=true:=by
  rw [fitsIndex_both h1 h2]
  exact Bool.false_ne_true
 have hlong:¬ Builtin.List.listTooLong (its.toArray.size*k.toNat)=true:=by
  rw [SJ hlen]
  exact Bool.false_ne_true
 have hnew:List.foldl (fun x1 x2=>x1++x2) #[] (List.replicate (if its.toArray.isEmpty=true then 0 else k.toNat) its.toArray)=(List.replicate k.toNat its).flatten.toArray:=by
  have f0:∀ m:Nat,List.foldl (fun x1 x2=>x1++x2) #[] (List.replicate m its.toArray)=(List.replicate m its).flatten.toArray:=fun m=>by
   have:=NL its m []
   rw [List.nil_append] at this
   exact this
  rw [f0]
  cases its with
  | nil=>simp
  | cons a r'=>rw [if_neg (by simp)]
 refine wpAny_binaryOp_repeat_ref (T:="list") (U:="int") (by decide) ⟨_,e,rfl⟩ (fun s'=>typeIs_int s' k t) noFill_list_mul F.fills_int_mul F.slot_int_rmul repeat_list F.slot_int_index.lookup
  (call_meets F.slot_int_rmul (typeIs_int s k t) F.entry_int_rmul (F.args_int_rmul_2 _ _) (int___rmul___int_list k t l its.toArray n)
   ⟨e,rfl,⟨_,e,rfl⟩,call_meets F.slot_list_mul ⟨_,e,rfl⟩ F.entry_list_mul (F.args_list_mul_2 _ _) (AutoListH.list___mul___list_int_3 l its.toArray n k t hfit hcap hlong) ⟨e,?_⟩⟩)
 rw [hnew]
 exact ⟨.ref _,_,I.lnew (t':=s.toks) (r.rep k.toNat) (by rw [J7n,Nat.mul_comm];exact hz),rfl,q _ I.fresh⟩
end
end L2
namespace Att
open PySem PySem.W PySem.Calls PyProof.Rows
theorem IT {P:Params}{h:Heap}:∀ (ns:List Int) (vs:List Value),WellAll P h vs (ns.map WData.int)->IntsAre vs ns:=by
 intro ns
 induction ns with
 | nil =>
   intro vs w
   rw [List.map_nil] at w
   cases w
   exact .nil
 | cons n ns ih =>
   intro vs w
   rw [List.map_cons] at w
   cases w with
   | cons a b =>
     cases a
     exact .cons _ _ (ih _ b)
theorem YI {l:OpenLaw}{n:Nat}(hn:l.most=some n){P:Params}{h:Heap}{args:List WData}{vals:List Value}
 (hpre:l.row.toRowW.claim.pre args=true) (hwl:WellAll P h vals args) :
 ∃ a vs ns,vals=[Value.ref a]/\args=[WData.list (ns.map WData.int)]/\h.get? a=some { cls:=.type "list",data:=.seq vs.toArray }/\IntsAre vs ns/\ns.length<=n:=by
 have hsh:WShape.hasAll [] args [.list .int]=true:=(pre_splitW hpre).1
 have hc:l.pre.holds [] { args:=args }=true:=(pre_splitW hpre).2
 obtain ⟨d,r,rfl,h1,h2⟩:=hasAllW_cons hsh
 obtain rfl:=hasAllW_nil h2
 obtain ⟨xs,rfl,h3⟩:=hasW_list h1
 obtain ⟨ns,rfl⟩:=items_int h3
 have hlen:ns.length<=n:=by
  unfold OpenLaw.pre at hc
  have h4:(WTm.not (.lt (.lit (.int (n:Int))) (.len (.arg 0)))).holds [] { args:=[.list (ns.map .int)] }=true:=by
   have h4:=(holds_andW hc).1
   rw [hn] at h4
   exact h4
  have h5:=condW_of h4 (w_not (w_lt w_lit (w_len_list (w_arg rfl))))
  rw [List.length_map] at h5
  refine Nat.le_of_not_lt fun q=>?_
  have q':(n:Int)<((ns.length:Nat):Int):=by omega
  first
   | (rw [decide_eq_true q'] at h5;exact absurd h5 (by decide))
   | (simp at h5;omega)
 cases hwl with
 | cons w1 w2 =>
   cases w2
   cases w1 with
   | list ho hall=>exact ⟨_,_,ns,rfl,rfl,ho,IT ns _ hall,hlen⟩
theorem YQ (l:OpenLaw)(args:List WData):l.row.toRowW.claim.post args (.bool true) args=true :=
 postW_of (r:=l.row.toRowW) (X:=(true==true))
  (show WShape.has [] (.bool true) .bool=true by first|rfl|decide|simp [WShape.has,WShape.arms,WShape.armsAll])
  (show (WTm.eq .res (.lit (.bool true))).value [] { args:=args,res:=some (.bool true),after:=args }=some (.bool (true==true)) from w_eq_bool (w_res rfl) w_lit) rfl
theorem attach_call {l:OpenLaw}{n:Nat}{q:Program}{loose:List Str}{XP:(Str->Option Value)->Heap->Prop}{YP:World->Heap->Prop}{d:DefRec}
 (hn:l.most=some n) (hdf:d.params.defaults=[])
 (call:∀ (w:World) (s₀ s₁:Shared) (mg mb:Str->Option Value) (fa:Addr) (o:Obj) (pm cd doc:Value) (a:Addr) (vs:List Value) (ns:List Int),
  Ground q loose [] XP w s₀ mg mb s₁.heap->YP w s₁.heap ->
  s₁.heap.get? fa=some o->o.data=.func (docDef d.name d.params d.body d.scope pm cd doc)->s₁.heap.CodeRec cd d.name->mg d.name=some (.ref fa) ->
  s₁.heap.get? a=some { cls:=.type "list",data:=.seq vs.toArray }->IntsAre vs ns->ns.length<=n->s₁.gens=#[] ->
  codeAny (model l.prog w) callerA (.call (.ref fa) ⟨[.ref a],[]⟩) (fun r s'=>r=.ok (.ret (.bool true))/\OldK s₁.heap s'.heap/\s'.os=s₁.os/\AllBare s'.gens) s₁) :
 WalkO q loose XP YP l.row.toRowW d [] (fun f vs=>PySem.call f vs):=by
 intro w s₀ s₁ mg mb G Y fa o pm cd doc dV kV ho hd hcd hD hmg hg args vals as hpre hlay hrd hwl hlo
 obtain rfl:dV=.none:=Dflts.none hD hdf
 obtain rfl:kV=.none:=Dflts.noKw hD
 obtain ⟨a,vs,ns,rfl,rfl,hobj,hints,hlen⟩:=YI hn hpre hwl
 refine enter_call (codeAny_mono (call w s₀ s₁ mg mb fa o pm cd doc a vs ns G Y ho (fd_plain hd) hcd hmg hobj hints hlen hg) fun r s' hq=>?_)
 obtain ⟨rfl,h2,h3,h4⟩:=hq
 exact ⟨.inl ⟨.bool true,.bool true,[],rfl,fun _=>rfl,.bool true,YQ l _,fun _=>⟨List.Pairwise.nil,fun _ hm=>(nomatch hm)⟩⟩,h2,h3,h4⟩
section
def Q7x (h:Heap)(L d:Addr):List (Addr×Obj):=(List.range h.objs.size).filterMap fun a=>if a=L\/a=d then none else (h.get? a).map fun o=>(a,o)
end
end Att
namespace L2
open PySem PySem.Spec PyProof.Rows
theorem MK:∀ {vs:List Value} {ns:List Int},IntsAre vs ns->Vals (ns.map V.int) vs
 | _,_,.nil=>.nil
 | _,_,.cons n t h=>.cons ⟨t,rfl⟩ (MK h)
def Q4p (H:Hp):Prop:=∀ b,H b=none\/∃ o xs,H b=some (.frz o (.lst xs))
theorem J3f {P:Program}{w:World}{K:Fg}{mg mb:Str->Option Value}{CX:CXT}{k:Nat}{fa a:Addr}{fd:FuncData}{x:Str}{sp:Sp}{s₁:Shared}{vs:List Value}{ns:List Int}
 (KX:K.In s₁.heap) (hns:s₁.heap.Ns mainGlobals mg) (hb:s₁.heap.Ns builtinsNs mb) (hbb:∀ x:Str,x≠"__name__"->mb x=bootBuiltins x) (hlim:s₁.heap.NoLimit) (hg:s₁.gens=#[])
 (ha:s₁.heap.get? a=some { cls:=.type "list",data:=.seq vs.toArray }) (hi:IntsAre vs ns) (hl:ns.length<=sizeLine) (hr:Room k callerA)
 (F:∀ base:Heap,K.In base->base.Ns mainGlobals mg->FnOk P w K mg base CX k fa fd [x] sp) (hbind:∀ (s:Shared) (u:Value),BindsTo s fd ⟨[u],[]⟩ [(x,u)])
 (hsp:∀ H:Hp,Q4p H->SqL K H a (ns.map V.int)->sp [.ref a] H (fun v _=>v=.bl true) fun _ _ _=>False)
 (hCX:∀ H e s',CX [] H s₁ (fun _ _ _=>False) e s'->False) :
 codeAny (model P w) callerA (.call (.ref fa) ⟨[.ref a],[]⟩) (fun r s'=>r=.ok (.ret (.bool true))/\OldK s₁.heap s'.heap/\s'.os=s₁.os/\AllBare s'.gens) s₁:=by
 have rv:=MK hi
 have lenV:=hi.length
 have core:∀ H:Hp,Q4p H->SqL K H a (ns.map V.int)->HOk P w H s₁.heap->(∀ b,H b≠none->b=a)->(H a≠none->K.lookup a=none) ->
  codeAny (model P w) callerA (.call (.ref fa) ⟨[.ref a],[]⟩) (fun r s'=>r=.ok (.ret (.bool true))/\OldK s₁.heap s'.heap/\s'.os=s₁.os/\AllBare s'.gens) s₁:=by
  intro H hO hS hok hA hK
  have base_of:∀ {b:Addr} {o:Obj},s₁.heap.get? b=some o->H b=none->(PM s₁.heap H).get? b=some o:=fun e n=>J4a e n
  have noA:∀ {b:Addr} {o:Obj} {es:Array DictEntry} {ep:Nat},s₁.heap.get? b=some o->o.data=.dict es ep->H b=none:=fun {b o es ep} e d=>by
   cases q:H b with
   | none=>rfl
   | some u =>
     have e':b=a:=hA b (by rw [q];simp)
     subst e'
     rw [ha] at e;cases e
     have d':Data.seq vs.toArray _=Data.dict es ep:=d
     cases d'
  have nsK:∀ {b:Addr} {m:Str->Option Value},s₁.heap.Ns b m->(PM s₁.heap H).Ns b m:=fun {b m} ⟨o,es,ep,e,d,r⟩=>⟨o,es,ep,base_of e (noA e d),d,r⟩
  have hKb:K.In (PM s₁.heap H):=fun b o e=>base_of (KX b o e) (by
   cases q:H b with
   | none=>rfl
   | some u =>
     have e':b=a:=hA b (by rw [q];simp)
     subst e'
     rw [hK (by rw [q];simp)] at e;cases e)
  have hM:Mod K mg (PM s₁.heap H):=⟨hKb,nsK hns,⟨mb,nsK hb,hbb⟩,let ⟨mc,h1,h2⟩:=hlim;⟨mc,nsK h1,h2⟩⟩
  have e0:Env0 P w K mg (PM s₁.heap H) callerA [] s₁ H:=⟨rfl,hM,fun b o e=>J7e e,Nat.le_of_eq (ZL _ _),trivial,fun b hb=>absurd (show b∈([]:List Addr) from hb) (by simp),hok,.of_eq hg⟩
  refine codeAny_mono ((F _ hKb (nsK hns)).run callerA [] s₁ H ⟨[.ref a],[]⟩ [.ref a] [.ref a] _ _ hr e0 (hbind s₁ (.ref a)) (.cons rfl .nil) (hsp H hO hS)) fun r s' h=>?_
  cases r with
  | error e=>exact (hCX H e s' h).elim
  | ok fl =>
    cases fl with
    | next=>exact False.elim h
    | brk=>exact False.elim h
    | cont=>exact False.elim h
    | ret u =>
      obtain ⟨v,H',os,bare,un,hok',r',q⟩:=h
      have q':v=.bl true:=q
      subst q'
      obtain rfl:u=Value.bool true:=r'
      refine ⟨rfl,OldK.of_keep fun b o e=>?_,os,bare⟩
      cases q:H b with
      | none=>exact un.keep b o e q (by intro z;exact absurd (show b∈([]:List Addr) from z) (by simp)) (by simp)
      | some u =>
        rcases hO b with z|⟨ob,xs,z⟩
        · rw [q] at z;cases z
        · have z2:=un.frzs b ob _ z
          obtain ⟨e1,_⟩:=hok b _ z
          obtain ⟨e2,_⟩:=hok' b _ z2
          rw [e] at e1;cases e1
          exact e2
 cases hk:K.lookup a with
 | some o =>
   have e:=KX a o hk
   rw [ha] at e
   cases e
   refine core (fun _=>none) (fun _=>.inl rfl) (.inr ⟨_,vs.toArray,_,hk,rfl,rfl,rfl,by rw [List.size_toArray,lenV];exact hl,by simpa using rv⟩) (fun b u z=>by have z':(none:Option HO)=some u:=z;cases z') (fun b z=>absurd rfl z) fun z=>absurd rfl z
 | none =>
   refine core (fun b=>if b=a then some (.frz { cls:=.type "list",data:=.seq vs.toArray } (.lst (ns.map V.int))) else none) (fun b=>?_) (.inl (.inr ⟨{ cls:=.type "list",data:=.seq vs.toArray },if_pos rfl⟩)) (fun b u z=>?_) (fun b z=>?_) fun _=>hk
   · by_cases hb:b=a
     · exact .inr ⟨_,_,if_pos hb⟩
     · exact .inl (if_neg hb)
   · by_cases hb:b=a
     · have z':=(if_pos hb).symm.trans z
       cases z'
       subst hb
       exact ⟨ha,by rw [List.length_map];exact hl,vs,_,rv,ha⟩
     · have z':=(if_neg hb).symm.trans z
       cases z'
   · by_cases hb:b=a
     · exact hb
     · exact absurd (if_neg hb) z
theorem J5s {l:PySem.W.OpenLaw}{n k:Nat}{q:Program}{loose:List Str}{XP:(Str->Option Value)->Heap->Prop}{YP:World->Heap->Prop}{d:DefRec}{K:Params->Fg}{CX:World->CXT}{sp:World->Sp}{x:Str}
 (hn:l.most=some n) (hn2:n<=sizeLine) (hdf:d.params.defaults=[]) (hr:Room k callerA)
 (hY:∀ (w:World) (h:Heap),YP w h->(K w.params).In h)
 (F:∀ (w:World) (mg:Str->Option Value) (fa:Addr) (h:Heap),(K w.params).In h->h.Ns mainGlobals mg->mg d.name=some (.ref fa) ->
  ∃ fd:FuncData,(∀ (s:Shared) (u:Value),BindsTo s fd ⟨[u],[]⟩ [(x,u)]) /\
   ∀ base:Heap,(K w.params).In base->base.Ns mainGlobals mg->FnOk l.prog w (K w.params) mg base (CX w) k fa fd [x] (sp w))
 (hsp:∀ (w:World) (H:Hp) (a:Addr) (ns:List Int),ns.length<=n->Q4p H->SqL (K w.params) H a (ns.map V.int)->sp w [.ref a] H (fun v _=>v=.bl true) fun _ _ _=>False)
 (hCX:∀ (w:World) (H:Hp) (s:Shared) (e:Value) (s':Shared),CX w [] H s (fun _ _ _=>False) e s'->False) :
 PySem.W.WalkO q loose XP YP l.row.toRowW d [] (fun f vs=>PySem.call f vs):=by
 refine Att.attach_call hn hdf fun w s₀ s₁ mg mb fa o pm cd doc a vs ns G Y ho hd hcd hmg hobj hints hlen hg=>?_
 have KX:=hY w _ Y
 obtain ⟨fd,hb,hF⟩:=F w mg fa _ KX G.T.g hmg
 exact J3f KX G.T.g G.T.b G.T.builtins G.T.nolimit hg hobj hints (Nat.le_trans hlen hn2) hr hF hb (fun H hO hS=>hsp w H a ns hlen hO hS) fun H e s'=>hCX w H s₁ e s'
def HF (s:Stmt):Arguments:=match s with
 | .FunctionDef _ a _ _ _ _ _ _ _ _=>a
 | _=>{ posonlyargs:=[],args:=[],vararg:=none,kwonlyargs:=[],kw_defaults:=[],kwarg:=none,defaults:=[] }
def AO (s:Stmt):List Stmt:=match s with
 | .FunctionDef _ _ b _ _ _ _ _ _ _=>b
 | _=>[]
def J4 (s:Stmt):Scope:=match s with
 | .FunctionDef _ _ _ _ _ _ sc _ _ _=>sc
 | _=>{ kind:=.function,names:=[],isGenerator:=false,isCoroutine:=false }
abbrev CX0:CXT:=fun _ _ _ _ _ _=>False
abbrev E0:XK:=fun _ _ _=>False
theorem J9k {X:Cx}:DD CX0 X E0:=fun _ _ _ _ _ _ _ h=>h.elim
structure Fun (K:Fg)(x qual:Str)(st:Stmt)(f:Addr)(fd:FuncData):Prop where
 ex:∃ (oc:Value) (od:Option Addr) (kV doc pm:Value) (an:Option Addr) (cdv ct:Value) (osl:Array (Option Value)),
  fd=PySem.W.fnOf x qual (HF st) (AO st) (J4 st) .none kV doc pm an cdv ct/\K.lookup f=some ⟨oc,od,.func fd,osl⟩/\PySem.W.codeIn K cdv qual=true
 kp:PySem.W.keepIn K (.ref f)=true
section
variable {P:Program}{w:World}{K:Fg}{mg:Str->Option Value}{base:Heap}
theorem Fun.ok {x qual:Str}{st:Stmt}{f:Addr} {N ps:List Str}{k:Nat}{sp:Sp}(F:Fun K x qual st f fd)(S:FnScope N ps (J4 st))(len:∀ vs H Q E,sp vs H Q E->vs.length=ps.length)
 (hbody:∀ (cdv:Value) (A:Around) (outer:List Env) (s:Shared) (H:Hp) (vs:List V) (Q:VK) (E:XK),Room k (A.deeper (envOfC qual (J4 st) s.heap.objs.size f cdv))->sp vs H Q E ->
  ∃ t,PSs (AJ CX0 P w K mg base N qual (J4 st) f cdv A outer s H E).nox (AO st) t/\t { nx:=fun _ H'=>Q .non H',rt:=Q } (DF N vs) H):FnOk P w K mg base CX0 (k+1) f fd ps sp:=by
 obtain ⟨oc,od,kV,doc,pm,an,cdv,ct,osl,rfl,lk,hcd⟩:=F.ex
 refine J9q lk hcd S len fun A outer s H vs Q E hr hsp=>?_
 obtain ⟨t,h,q⟩:=hbody cdv A outer s H vs Q E hr hsp
 exact ⟨t,h.nox,q⟩
theorem Fun.binds {x qual:Str}{st:Stmt}{f:Addr} {ps:List Str}(F:Fun K x qual st f fd)
 (h:∀ (kV doc pm:Value) (an:Option Addr) (cdv ct:Value) (us:List Value),us.length=ps.length->bindArgs (PySem.W.fnOf x qual (HF st) (AO st) (J4 st) .none kV doc pm an cdv ct) ⟨us,[]⟩=pure (ps.zip us)):Binds K fd ps []:=by
 obtain ⟨oc,od,kV,doc,pm,an,cdv,ct,osl,rfl,lk,hcd⟩:=F.ex
 exact .all (h kV doc pm an cdv ct)
theorem Q2r {x qual:Str}{st:Stmt}{f:Addr}{oc:Value}{od an:Option Addr}{osl:Array (Option Value)}{kV doc pm cdv ct:Value}(l:K.lookup f=some ⟨oc,od,.func (PySem.W.fnOf x qual (HF st) (AO st) (J4 st) .none kV doc pm an cdv ct),osl⟩)
 (c:PySem.W.codeIn K cdv qual=true) (k:PySem.W.keepIn K (.ref f)=true):Fun K x qual st f (PySem.W.fnOf x qual (HF st) (AO st) (J4 st) .none kV doc pm an cdv ct):=⟨⟨oc,od,kV,doc,pm,an,cdv,ct,osl,rfl,l,c⟩,k⟩
end
section
variable {X:Cx}
theorem pv (i:Nat) {x:Str} {pos:Pos} (hN:X.N[i]?=some x:=by rfl) (hv:Vis X.env.scope x:=by first|exact Or.inl rfl|exact Or.inr (Or.inl rfl)|exact Or.inr (Or.inr rfl)) (hd:(x==("__debug__" : Str))=false:=by decide)
 (hcd:(x==("__classdict__" : Str))=false:=by decide):PE X (.Name x pos) (JN i):=OV hN hv hd hcd
end
theorem Q8a {A B:Prop}(h:B):if false=true then A else B:=by
 rw [if_neg Bool.false_ne_true]
 exact h
theorem Q7z {A B:Prop}(h:A):if true=true then A else B:=by
 rw [if_pos rfl]
 exact h
def Same (H H':Hp):Prop:=∀ b o,H b=some o->H' b=some o
theorem Same.refl (H:Hp):Same H H:=fun _ _ h=>h
theorem Same.trans {H H1 H2:Hp}(a:Same H H1)(b:Same H1 H2):Same H H2:=fun c o h=>b c o (a c o h)
theorem Same.free {H H':Hp}(e:Same H H'){l:Addr}(h:H' l=Option.none):H l=Option.none:=by
 cases q:H l with
 | none=>rfl
 | some o =>
   rw [e l o q] at h
   cases h
end L2
set_option maxHeartbeats 4000000
namespace L2
open PySem PySem.Spec PyProof.Rows
theorem QC {x:Str}{lo:Nat}:∀ (names:List (Str×NameKind)) (n:Nat) (acc:List (Str×Addr)),lo<=n->(∀ c,acc.lookup x=some c->lo<=c)->∀ c,(cellsFrom n names acc).lookup x=some c->lo<=c
 | [],_,_,_,h,c,e=>h c e
 | (y,k)::r,n,acc,hn,h,c,e=>by
   unfold cellsFrom at e
   split at e
   · refine QC r (n+1) ((y,n)::acc) (by omega) (fun c' e'=>?_) c e
     rw [List.lookup_cons] at e'
     cases hb:x==y with
     | true=>rw [hb] at e';cases e';exact hn
     | false=>rw [hb] at e';exact h c' e'
   · exact QC r n acc hn h c e
theorem VQ {x:Str}{lo:Nat}:∀ (names:List (Str×NameKind)) (n:Nat) (acc:List (Str×Addr)),lo<=n->(x,NameKind.cell)∈names->∀ c,(cellsFrom n names acc).lookup x=some c->lo<=c
 | [],_,_,_,hm,_,_=>by cases hm
 | (y,k)::r,n,acc,hn,hm,c,e=>by
   unfold cellsFrom at e
   split at e
   · rcases List.mem_cons.mp hm with z|z
     · cases z
       refine QC r (n+1) ((x,n)::acc) (by omega) (fun c' e'=>?_) c e
       rw [List.lookup_cons,beq_self_eq_true] at e'
       cases e'
       exact hn
     · exact VQ r (n+1) ((y,n)::acc) (by omega) z c e
   · rename_i hk
     rcases List.mem_cons.mp hm with z|z
     · cases z
       exact absurd rfl hk
     · exact VQ r n acc hn z c e
theorem VR {x:Str}:∀ (names:List (Str×NameKind)) (n:Nat) (acc:List (Str×Addr)),¬ (x,NameKind.cell)∈names->(cellsFrom n names acc).lookup x=acc.lookup x
 | [],_,_,_=>rfl
 | (y,k)::r,n,acc,hm=>by
   unfold cellsFrom
   have hr:¬ (x,NameKind.cell)∈r:=fun z=>hm (List.mem_cons_of_mem _ z)
   split
   · rename_i hk
     rw [VR r (n+1) _ hr,List.lookup_cons]
     have hxy:(x==y)=false:=by
      cases hb:x==y with
      | false=>rfl
      | true =>
        have e1:x=y:=beq_iff_eq.mp hb
        have e2:k=NameKind.cell:=beq_iff_eq.mp hk
        subst e1 e2
        exact absurd List.mem_cons_self hm
     rw [hxy]
   · exact VR r n acc hr
theorem VS:∀ (names:List (Str×NameKind)) (n:Nat) (acc:List (Str×Addr)),(∀ x c,acc.lookup x=some c->c<n)->(∀ x y c,acc.lookup x=some c->acc.lookup y=some c->x=y) ->
 ∀ x y c,(cellsFrom n names acc).lookup x=some c->(cellsFrom n names acc).lookup y=some c->x=y
 | [],_,_,_,h,x,y,c,e1,e2=>h x y c e1 e2
 | (z,k)::r,n,acc,hb,h,x,y,c,e1,e2=>by
   unfold cellsFrom at e1 e2
   split at e1
   · rename_i hk
     rw [if_pos hk] at e2
     refine VS r (n+1) ((z,n)::acc) (fun x' c' e'=>?_) (fun x' y' c' e1' e2'=>?_) x y c e1 e2
     · rw [List.lookup_cons] at e'
       cases q:x'==z with
       | true=>rw [q] at e';cases e';exact Nat.lt_succ_self _
       | false=>rw [q] at e';exact Nat.lt_succ_of_lt (hb x' c' e')
     · rw [List.lookup_cons] at e1' e2'
       cases q1:x'==z with
       | true =>
         rw [q1] at e1'
         cases e1'
         cases q2:y'==z with
         | true=>rw [beq_iff_eq.mp q1,beq_iff_eq.mp q2]
         | false =>
           rw [q2] at e2'
           exact absurd (hb y' _ e2') (Nat.lt_irrefl _)
       | false =>
         rw [q1] at e1'
         cases q2:y'==z with
         | true =>
           rw [q2] at e2'
           cases e2'
           exact absurd (hb x' _ e1') (Nat.lt_irrefl _)
         | false =>
           rw [q2] at e2'
           exact h x' y' c' e1' e2'
   · rename_i hk
     rw [if_neg hk] at e2
     exact VS r n acc hb h x y c e1 e2
theorem NS:∀ (names:List (Str×NameKind)) (n:Nat) (acc:List (Str×Addr)) (x:Str) (c:Addr),(cellsFrom n names acc).lookup x=some c->acc.lookup x=some c\/n<=c
 | [],_,_,_,_,e=>.inl e
 | (z,k)::r,n,acc,x,c,e=>by
   unfold cellsFrom at e
   split at e
   · rcases NS r (n+1) ((z,n)::acc) x c e with q|q
     · rw [List.lookup_cons] at q
       cases hb:x==z with
       | true=>rw [hb] at q;cases q;exact .inr (Nat.le_refl _)
       | false=>rw [hb] at q;exact .inl q
     · exact .inr (by omega)
   · exact NS r n acc x c e
theorem QD:∀ (names:List (Str×NameKind)) (h:Heap) (acc:List (Str×Addr)),(∀ x c,acc.lookup x=some c->∃ v,h.IsCell c v) ->
 ∀ x c,(cellsFrom h.objs.size names acc).lookup x=some c->∃ v,(pushCells h names).IsCell c v
 | [],_,_,hh,x,c,e=>hh x c e
 | (z,k)::r,h,acc,hh,x,c,e=>by
   unfold cellsFrom at e
   unfold pushCells
   split at e
   · rename_i hk
     rw [if_pos hk]
     have e':(cellsFrom (h.push { cls:=.type "cell",data:=.cell none }).objs.size r ((z,h.objs.size)::acc)).lookup x=some c:=by rw [Heap.size_push];exact e
     refine QD r _ _ (fun x' c' q=>?_) x c e'
     rw [List.lookup_cons] at q
     cases hb:x'==z with
     | true =>
       rw [hb] at q
       cases q
       exact ⟨none,_,Heap.get?_push_size _ rfl,rfl⟩
     | false =>
       rw [hb] at q
       obtain ⟨v,w⟩:=hh x' c' q
       exact ⟨v,w.keeps fun b o e=>Heap.get?_push_of_some _ e⟩
   · rename_i hk
     rw [if_neg hk]
     exact QD r h acc hh x c e
theorem QB {env:Env}(f:Str×NameKind->List (Str×Addr)->Sem (ForInStep (List (Str×Addr))))
 (hf:∀ name kind cs,f (name,kind) cs=if kind==.free then (do let a <- cellOf env name;pure (.yield ((name,a)::cs))) else pure (.yield cs)) :
 ∀ (names:List (Str×NameKind)) (acc:List (Str×Addr)),(∀ x,(x,NameKind.free)∈names->∃ c,env.cells.lookup x=some c)->(∀ x c,acc.lookup x=some c->env.cells.lookup x=some c) ->
  ∃ cl,forIn names acc f=pure cl/\(∀ x c,cl.lookup x=some c->env.cells.lookup x=some c)/\∀ x,((acc.lookup x).isSome=true\/(x,NameKind.free)∈names)->(cl.lookup x).isSome=true
 | [],acc,_,ha=>⟨acc,by rw [List.forIn_nil],ha,fun x h=>h.elim id fun z=>by cases z⟩
 | (name,kind)::r,acc,hn,ha=>by
   have hr:∀ x,(x,NameKind.free)∈r->∃ c,env.cells.lookup x=some c:=fun x hx=>hn x (List.mem_cons_of_mem _ hx)
   by_cases hk:(kind==NameKind.free)=true
   · have ek:kind=NameKind.free:=beq_iff_eq.mp hk
     subst ek
     obtain ⟨c,hc⟩:=hn name List.mem_cons_self
     obtain ⟨cl,e1,e2,e3⟩:=QB f hf r ((name,c)::acc) hr (fun x c' e=>by
      rw [List.lookup_cons] at e
      cases hb:x==name with
      | true=>rw [hb] at e;cases e;rw [beq_iff_eq.mp hb];exact hc
      | false=>rw [hb] at e;exact ha x c' e)
     refine ⟨cl,?_,e2,fun x hx=>e3 x ?_⟩
     · rw [List.forIn_cons,hf,if_pos hk]
       unfold cellOf
       rw [hc]
       simpa using e1
     · rcases hx with hx|hx
       · left
         rw [List.lookup_cons]
         cases hb:x==name with
         | true=>rfl
         | false=>exact hx
       · rcases List.mem_cons.mp hx with z|z
         · cases z
           left
           rw [List.lookup_cons,beq_self_eq_true]
           rfl
         · exact .inr z
   · obtain ⟨cl,e1,e2,e3⟩:=QB f hf r acc hr ha
     refine ⟨cl,?_,e2,fun x hx=>e3 x ?_⟩
     · rw [List.forIn_cons,hf,if_neg hk]
       simpa using e1
     · rcases hx with hx|hx
       · exact .inl hx
       · rcases List.mem_cons.mp hx with z|z
         · cases z
           exact absurd rfl hk
         · exact .inr z
theorem MG {scope:Scope}{env:Env}(hn:∀ x,(x,NameKind.free)∈scope.names->∃ c,env.cells.lookup x=some c) :
 ∃ cl,closureFor scope env=pure cl/\(∀ x c,cl.lookup x=some c->env.cells.lookup x=some c)/\∀ x,(x,NameKind.free)∈scope.names->(cl.lookup x).isSome=true:=by
 obtain ⟨cl,e1,e2,e3⟩:=QB (env:=env) (fun x cs=>match x with
  | (name,kind)=>if (kind==NameKind.free)=true then (do let a <- cellOf env name;pure (ForInStep.yield ((name,a)::cs))) else pure (ForInStep.yield cs)) (fun name kind cs=>rfl) scope.names [] hn (fun x c e=>by cases e)
 refine ⟨cl,?_,e2,fun x hx=>e3 x (.inr hx)⟩
 show (forIn scope.names [] _ >>= fun r=>pure r)=_
 refine Eq.trans (congrArg (fun m=>m >>= fun r=>pure r) e1) ?_
 simp
def QY (ifs:List Expr)(env:Env):Sem Bool:=forIn ifs true fun c r=>if r=true then do let ok <- isTrue c env (eval c env);pure (ForInStep.yield ok) else pure (ForInStep.yield r)
theorem PZ {prog:Program}{w:World}{A:Around}{R:Result->Shared->Prop}{s:Shared}{elt target iter:Expr}{ifs:List Expr}{scope:Scope}{pos:Pos}{it acc:Value}{env:Env}(J:Nat->Shared->Prop)
 (turn:∀ n s,J n s->wpAny (model prog w) A (pyNext it) (fun r s₁=>match r with
  | none=>R (.ok .next) s₁
  | some v=>wpAny (model prog w) A (letOwnedTupleGo target it v) (fun _ s₁'=>wpAny (model prog w) A (assign target env v) (fun _ s₂=>wpAny (model prog w) A (QY ifs env) (fun ok s₃ =>
   if ok=true then wpAny (model prog w) A (eval elt env) (fun x s₄=>wpAny (model prog w) A (call (.builtin "list.append") [acc,x]) (fun _ s₅=>∃ m,m<n/\J m s₅) (notedBy (model prog w) A env fun e s'=>R (.error e) s') s₄)
    (notedBy (model prog w) A env fun e s'=>R (.error e) s') s₃
   else ∃ m,m<n/\J m s₃) (notedBy (model prog w) A env fun e s'=>R (.error e) s') s₂) (notedBy (model prog w) A env fun e s'=>R (.error e) s') s₁') (notedBy (model prog w) A env fun e s'=>R (.error e) s') s₁)
   (notedBy (model prog w) A env fun e s'=>R (.error e) s') s) (n:Nat) (h:J n s) :
 codeAny (model prog w) A (.compLoop (.ListComp elt [⟨target,iter,ifs,0⟩] scope pos) 0 it acc env) R s:=by
 refine codeAny_loop rfl J (fun n s hJ=>?_) n h
 show wpAny _ _ (Sem.onRaise (compTurn (.ListComp elt [⟨target,iter,ifs,0⟩] scope pos) 0 it acc env) fun x=>do noteFrame x env;theTreesLotGoes x) _ _ _
 refine wpAny_noted ?_
 rw [compTurn_list]
 refine wpAny_bind (wpAny_standAt (wpAny_bind (thn (turn n s hJ) fun r s₁ h₁=>?_)))
 cases r with
 | none=>exact wpAny_pure h₁
 | some v =>
   refine wpAny_bind (thn h₁ fun _ s₁' h₁'=>wpAny_bind (thn h₁' fun _ s₂ h₂=>wpAny_bind (thn h₂ fun ok s₃ h₃=>?_)))
   cases ok with
   | true=>exact wpAny_bind (wpAny_bind (thn h₃ fun x s₄ h₄=>wpAny_bind (thn h₄ fun _ s₅ h₅=>wpAny_pure (wpAny_pure ⟨rfl,h₅⟩))))
   | false=>exact wpAny_pure ⟨rfl,h₃⟩
def J0d (X:Cx)(C:Addr)(e:Value)(s':Shared):Prop :=
 ∃ m,s'.heap.Ns C m/\∀ h',Heap.SameBut C s'.heap h'->∀ cenv:Env,cenv.locals=C->wpAny (model X.prog X.w) X.A (passOn "comprehension.variables-let-go" e cenv:Sem Value) (fun _ _=>False) X.xe { s' with heap:=h' }
def J9 (X:Cx)(N:List Str)(scope:Scope)(cells:List (Str×Addr))(C:Addr)(fp:List Addr)(s:Shared)(H:Hp):Cx where
 prog:=X.prog
 w:=X.w
 K:=X.K
 mg:=X.mg
 base:=X.base
 A:=X.A
 N:=N
 s₀:=s
 H₀:=H
 env:=compEnvC scope cells C X.env
 outer:=X.stack
 stack:=X.stack
 ex:=fp
 fn:=fun x=>decide (scope.names.lookup x=some NameKind.cell)
 calm:=X.calm
 pn:=[]
 xe:=notedBy (model X.prog X.w) X.A (compEnvC scope cells C X.env) (J0d X C)
def capt (σ:St)(map:List (Option Nat)):St:=map.map fun o=>o.bind fun i=>(σ[i]?).join
def CapOk (X:Cx)(scope:Scope):List (Option Nat)->List Str->Prop
 | [],[]=>True
 | none::m,_::n=>CapOk X scope m n
 | some i::m,x::n=>(X.N[i]?=some x/\scope.names.lookup x=some .free/\(scope.names.all fun p=>!(p.1==x&&p.2==NameKind.cell))=true/\(X.env.kindOf x=some .cell\/X.env.kindOf x=some .free))/\CapOk X scope m n
 | _,_=>False
theorem CapOk.length {X:Cx}{scope:Scope}:∀ {m:List (Option Nat)} {n:List Str},CapOk X scope m n->m.length=n.length
 | [],[],_=>rfl
 | none::m,_::n,h=>by simp [CapOk.length (m:=m) (n:=n) h]
 | some i::m,x::n,h=>by simp [CapOk.length (m:=m) (n:=n) h.2]
 | [],_::_,h=>h.elim
 | some _::_,[],h=>h.elim
 | none::_,[],h=>h.elim
theorem CapOk.get {X:Cx}{scope:Scope}:∀ {m:List (Option Nat)} {n:List Str} {j i:Nat} {x:Str},CapOk X scope m n->m[j]?=some (some i)->n[j]?=some x ->
 X.N[i]?=some x/\scope.names.lookup x=some .free/\¬ (x,NameKind.cell)∈scope.names/\(X.env.kindOf x=some .cell\/X.env.kindOf x=some .free)
 | [],[],_,_,_,_,e,_=>by simp at e
 | none::m,_::n,0,_,_,_,e,_=>by simp at e
 | none::m,_::n,j+1,i,x,h,e,e'=>CapOk.get (m:=m) (n:=n) (j:=j) h (by simpa using e) (by simpa using e')
 | some k::m,y::n,0,i,x,h,e,e'=>by
   have e1:k=i:=by simpa using e
   have e2:y=x:=by simpa using e'
   subst e1 e2
   obtain ⟨⟨h1,h2,h3,h4⟩,_⟩:=h
   refine ⟨h1,h2,fun hm=>?_,h4⟩
   have q:=List.all_eq_true.mp h3 _ hm
   simp at q
 | some k::m,y::n,j+1,i,x,h,e,e'=>CapOk.get (m:=m) (n:=n) (j:=j) h.2 (by simpa using e) (by simpa using e')
 | [],_::_,_,_,_,h,_,_=>h.elim
 | some _::_,[],_,_,_,h,_,_=>h.elim
 | none::_,[],_,_,_,h,_,_=>h.elim
def FG (g:TG)(map:List (Option Nat)):Prop:=∀ v σ H Q,g v σ H Q->g v σ H fun σ' H'=>(σ'.length=σ.length/\∀ j i:Nat,map[j]?=some (some i)->σ'[j]?=σ[j]?)/\Q σ' H'
def PIf (X:Cx)(ifs:List Expr)(t:TT):Prop :=
 ∀ (pins:List (Addr×Obj)) (s:Shared) (σ:St) (H:Hp) (Q:Bool->Hp->Prop),Inv X pins σ H s->t σ H Q->wpAny (model X.prog X.w) X.A (QY ifs X.env) (TP X pins σ Q) X.xe s
def Q4v:TT:=fun _ H Q=>Q true H
theorem J6r {X:Cx}:PIf X [] Q4v:=fun _ _ _ H _ I h=>wpAny_pure ⟨H,I,h⟩
theorem J6q {X:Cx}{c:Expr}{t:TT}(hc:PT X c t):PIf X [c] t:=fun pins s σ H Q I h=>by
 unfold QY
 simp only [List.forIn_cons,List.forIn_nil,if_true]
 exact wpAny_bind (wpAny_bind (thn (hc pins s σ H Q I h) fun b s' hb=>wpAny_pure (wpAny_pure hb)))
theorem BO {env:Env}{x:Str}{k:NameKind}:∀ {names:List (Str×NameKind)},
 (names.map fun (p:Str×NameKind)=>match p with|(n,k)=>if (k==NameKind.free&&env.scope.kind==.function&&env.kindOf n==some .cell) then (n,NameKind.cell) else (n,k)).lookup x=some k ->
 ∃ k',names.lookup x=some k'/\(k'=k\/(k'=.free/\k=.cell))
 | [],h=>by simp at h
 | (n,k')::r,h=>by
   rw [List.map_cons] at h
   by_cases hc:(k'==NameKind.free&&env.scope.kind==.function&&env.kindOf n==some .cell)=true
   · simp only [if_pos hc,List.lookup_cons] at h
     rw [List.lookup_cons]
     cases hx:x==n with
     | true =>
       rw [hx] at h
       cases h
       refine ⟨k',rfl,.inr ⟨?_,rfl⟩⟩
       simp only [Bool.and_eq_true,beq_iff_eq] at hc
       exact hc.1.1
     | false =>
       rw [hx] at h
       exact BO h
   · simp only [if_neg hc,List.lookup_cons] at h
     rw [List.lookup_cons]
     cases hx:x==n with
     | true =>
       rw [hx] at h
       cases h
       exact ⟨_,rfl,.inl rfl⟩
     | false =>
       rw [hx] at h
       exact BO h
theorem EH {env:Env}{x:Str}:∀ {names:List (Str×NameKind)},names.lookup x=some .free ->
 (names.map fun (p:Str×NameKind)=>match p with|(n,k)=>if (k==NameKind.free&&env.scope.kind==.function&&env.kindOf n==some .cell) then (n,NameKind.cell) else (n,k)).lookup x=some .cell \/
 (names.map fun (p:Str×NameKind)=>match p with|(n,k)=>if (k==NameKind.free&&env.scope.kind==.function&&env.kindOf n==some .cell) then (n,NameKind.cell) else (n,k)).lookup x=some .free
 | [],h=>by simp at h
 | (n,k')::r,h=>by
   rw [List.map_cons]
   rw [List.lookup_cons] at h
   by_cases hc:(k'==NameKind.free&&env.scope.kind==.function&&env.kindOf n==some .cell)=true
   · simp only [if_pos hc,List.lookup_cons]
     cases hx:x==n with
     | true=>exact .inl rfl
     | false =>
       rw [hx] at h
       exact EH h
   · simp only [if_neg hc,List.lookup_cons]
     cases hx:x==n with
     | true =>
       rw [hx] at h
       cases h
       exact .inr rfl
     | false =>
       rw [hx] at h
       exact EH h
section
variable {X:Cx}{elt iter tg:Expr}{ifs:List Expr}{scope:Scope}{pos:Pos}{N':List Str}{map:List (Option Nat)}{wi:TI}{g:TG}{tt:TT}{te:TE}
def LN (J:It)(g:TG)(tt:TT)(te:TE)(σc:St)(Fin:List V->Hp->Prop)(W:Nat->Nat->List V->Hp->Prop):Prop :=
 ∀ i m acc H2,W i m acc H2->(J.stop i H2/\acc.length<=sizeLine/\Fin acc H2) \/
  (J.go i H2/\acc.length<sizeLine/\∃ N:List V->Hp->Prop,(∀ acc' H',N acc' H'->∃ m',m'<m/\W (i+1) m' acc' H')/\∀ x H3,J.yld i H2 x H3->g x σc H3 fun σ4 H4=>tt σ4 H4 fun b H5=>if b=true then te σ4 H5 fun v H6=>N (acc++[v]) H6 else N acc H5)
structure TurnG (R:Cx->Prop)(P:Program)(w:World)(K:Fg)(tg:Expr)(J:It)(fp:List Addr)(it:Addr)(tn:Nat->Heap->Prop):Prop where
 mem:it∈fp
 obj:∀ i h,tn i h->∀ b∈fp,∃ o,h.get? b=some o/\∀ v,o.data≠.cell v
 keep:∀ i h h',tn i h->(∀ b∈fp,∀ o,h.get? b=some o->h'.get? b=some o)->tn i h'
 item:∀ (X:Cx),X.prog=P->X.w=w->X.K=K->R X->∀ (i:Nat) (pins:List (Addr×Obj)) (s:Shared) (σ:St) (H:Hp) (E:Value->Shared->Prop),Inv X pins σ H s->(∀ b∈fp,DV X pins H b)->tn i s.heap->J.go i H->wpAny (model P w) X.A (pyNext (.ref it)) (fun r s1=>∃ u,r=some u /\
  wpAny (model P w) X.A (letOwnedTupleGo tg (.ref it) u) (fun _ s2=>∃ x H',Inv X pins σ H' s2/\RelV x u/\J.yld i H x H'/\tn (i+1) s2.heap/\∀ b∈fp,H' b=none) E s1) E s
 done:∀ (X:Cx),X.prog=P->X.w=w->X.K=K->R X->∀ (i:Nat) (pins:List (Addr×Obj)) (s:Shared) (σ:St) (H:Hp) (E:Value->Shared->Prop),Inv X pins σ H s->(∀ b∈fp,DV X pins H b)->tn i s.heap->J.stop i H->wpAny (model P w) X.A (pyNext (.ref it)) (fun r s1=>r=none/\Inv X pins σ H s1) E s
 self:∀ (A:Around) (i:Nat) (s:Shared) (Q:Value->Shared->Prop) (E:Value->Shared->Prop),tn i s.heap->Q (.ref it) s->wpAny (model P w) A (pyIter (.ref it)) Q E s
theorem Turn.gen {tg:Expr}{J:It}{fp:List Addr}{it:Addr}{tn:Nat->Heap->Prop}(T:Turn P w K tg J fp it tn):TurnG (fun X=>X.calm=true) P w K tg J fp it tn:=⟨T.mem,T.obj,T.keep,T.item,T.done,T.self⟩
def LQ (X:Cx)(C:Addr)(fp:List Addr)(s:Shared)(H:Hp):Prop:=∃ pins σ,Inv X pins σ H s/\(∀ b∈fp,DV X pins H b)/\s.heap.objs.size<=C
structure BlkM (X:Cx)(N':List Str)(scope:Scope)(map:List (Option Nat))(tg elt:Expr)(ifs:List Expr)(g:TG)(tt:TT)(te:TE):Prop where
 kind:scope.kind=.function
 loc:∀ x∈scope.names,x.2=.local->scope.names.lookup x.1=some .local
 free:(scope.names.all fun p=>!(p.2==NameKind.free)||(X.env.kindOf p.1==some .cell||X.env.kindOf p.1==some .free))=true
 cap:CapOk X scope map N'
 keep:FG g map
 run:∀ cells C fp s H,LQ X C fp s H->PG (J9 X N' scope cells C fp s H) tg g/\PIf (J9 X N' scope cells C fp s H) ifs tt/\PE (J9 X N' scope cells C fp s H) elt te
structure Blk (X:Cx)(N':List Str)(scope:Scope)(map:List (Option Nat))(tg elt:Expr)(ifs:List Expr)(g:TG)(tt:TT)(te:TE):Prop where
 calm:X.calm=true
 kind:scope.kind=.function
 loc:∀ x∈scope.names,x.2=.local->scope.names.lookup x.1=some .local
 free:(scope.names.all fun p=>!(p.2==NameKind.free)||(X.env.kindOf p.1==some .cell||X.env.kindOf p.1==some .free))=true
 cap:CapOk X scope map N'
 keep:FG g map
 run:∀ cells C fp s H,LQ X C fp s H->PG (J9 X N' scope cells C fp s H) tg g/\PIf (J9 X N' scope cells C fp s H) ifs tt/\PE (J9 X N' scope cells C fp s H) elt te
theorem Blk.m (B:Blk X N' scope map tg elt ifs g tt te):BlkM X N' scope map tg elt ifs g tt te:=⟨B.kind,B.loc,B.free,B.cap,B.keep,B.run⟩
theorem QI {pins:List (Addr×Obj)}{σ:St}{H1:Hp}{s2:Shared}{cl:List (Str×Addr)}{fp:List Addr}(I:Inv X pins σ H1 s2)(B:BlkM X N' scope map tg elt ifs g tt te)
 (hsub:∀ x c,cl.lookup x=some c->X.env.cells.lookup x=some c) (hhas:∀ x,(x,NameKind.free)∈scope.names->(cl.lookup x).isSome=true)
 (hf:∀ b∈fp,DV X pins H1 b) (hfo:∀ b∈fp,∃ o,s2.heap.get? b=some o) (C:Addr) (h3:Heap) (hC:s2.heap.objs.size<=C) (k3:∀ b o,s2.heap.get? b=some o->h3.get? b=some o) (hCsz:C<h3.objs.size) (hns:h3.Ns C fun _=>none) (tk:Nat) :
 Inv (J9 X N' scope (cellsFrom h3.objs.size scope.names cl) C fp s2 H1) [] (capt σ map) H1 { s2 with heap:=pushCells h3 scope.names,toks:=tk }:=by
 have kk:∀ b o,s2.heap.get? b=some o->(pushCells h3 scope.names).get? b=some o:=fun b o e=>pushCells_keeps _ _ b o (k3 b o e)
 have fsz:∀ b∈fp,b<s2.heap.objs.size:=fun b hb=>by obtain ⟨o,e⟩:=hfo b hb;exact Heap.lt_size e
 have clz:∀ x c,cl.lookup x=some c->c<s2.heap.objs.size:=fun x c e=>by
  obtain ⟨v,o,ho,_⟩:=I.cell x c (hsub x c e)
  exact Heap.lt_size ho
 have h3sz:s2.heap.objs.size<h3.objs.size:=Nat.lt_of_le_of_lt hC hCsz
 have cof:∀ x c,(cellsFrom h3.objs.size scope.names cl).lookup x=some c->X.env.cells.lookup x=some c\/h3.objs.size<=c:=fun x c e=>(NS _ _ _ x c e).imp (hsub x c) id
 have cnb:∀ x c,(cellsFrom h3.objs.size scope.names cl).lookup x=some c->∀ b∈fp,c≠b:=fun x c e b hb z=>by
  rcases cof x c e with q|q
  · exact (hf b hb).2.2.2.2.1 x c q z
  · have h1:=fsz b hb
    rw [<- z] at h1
    exact absurd (Nat.lt_of_lt_of_le (Nat.lt_trans h1 h3sz) q) (Nat.lt_irrefl _)
 have fnf:∀ b∈fp,b∉frs X.stack:=fun b hb hm=>by
  obtain ⟨_,f1,f2,_⟩:=hf b hb
  rcases List.mem_cons.mp (I.stkSub b hm) with z|z
  · exact f1 z
  · exact f2 z
 have cellI:∀ x c,(cellsFrom h3.objs.size scope.names cl).lookup x=some c->∃ v,(pushCells h3 scope.names).IsCell c v:=fun x c e =>
  QD scope.names h3 cl (fun x' c' q=>by
   obtain ⟨v,w⟩:=I.cell x' c' (hsub x' c' q)
   exact ⟨v,w.keeps k3⟩) x c e
 have hC0:H1 C=none:=I.hok.fresh hC
 have ok:(J9 X N' scope (cellsFrom h3.objs.size scope.names cl) C fp s2 H1).Ok :=
  { mod:=I.ok.mod
    kind:=B.kind
    glob:=I.ok.glob
    blt:=I.ok.blt
    above:=hC
    inj:=VS scope.names h3.objs.size cl (fun x c e=>Nat.lt_trans (clz x c e) h3sz) fun x y c e1 e2=>I.ok.inj x y c (hsub x c e1) (hsub y c e2)
    has:=fun x hx=>by
     have hx:(relabel scope X.env).names.lookup x=some .cell\/(relabel scope X.env).names.lookup x=some .free:=hx
     have goal:(scope.names.lookup x=some .cell\/(cl.lookup x).isSome=true):=by
      rcases hx with q|q
      · obtain ⟨k',e1,e2⟩:=BO q
        rcases e2 with z|⟨z,_⟩
        · exact .inl (by rw [e1,z])
        · exact .inr (hhas x (PySem.mem_of_lookup (by rw [e1,z])))
      · obtain ⟨k',e1,e2⟩:=BO q
        rcases e2 with z|⟨z,z'⟩
        · exact .inr (hhas x (PySem.mem_of_lookup (by rw [e1,z])))
        · cases z'
     exact Option.isSome_iff_exists.mp (PySem.W.cellsFrom_some scope.names h3.objs.size cl goal)
    cab:=fun x c hx e=>Nat.le_of_lt (Nat.lt_of_lt_of_le h3sz (VQ scope.names h3.objs.size cl (Nat.le_refl _) (PySem.mem_of_lookup (of_decide_eq_true hx)) c e))
    hd:=I.ok.hd
    frames:=I.ok.frames
    stk:=.inl rfl
    exf:=fun b hb=>⟨fun z=>absurd (fsz b hb) (by rw [z];exact Nat.not_lt.mpr hC),fun x c e=>cnb x c e b hb⟩
    bs:=I.bs
    bsz:=Nat.le_trans I.ok.bsz I.sz
    noex:=fun b o e hb=>by
     rcases (hf b hb).2.2.2.1 with z|z
     · exact I.ok.noex b o e z
     · exact absurd (Heap.lt_size (I.ok.bs b o e).1) (Nat.not_lt.mpr z)
    exfs:=fnf
    funs:=I.stack
    frf:=I.stkFree }
 refine ⟨ok,rfl,I.bare,Un.kept kk,⟨fun _=>none,hns.keeps fun b o e=>pushCells_keeps _ _ b o e,fun j x v e1 e2 e3=>?_⟩,cellI,hC0,fun x c e=>?_,fun p hp=>absurd (show p∈([]:List (Addr×Obj)) from hp) (by simp),I.hok.kept kk,?_⟩
 · have e2':(capt σ map)[j]?=some (some v):=e2
   unfold capt at e2'
   rw [List.getElem?_map] at e2'
   cases hm:map[j]? with
   | none=>rw [hm] at e2';cases e2'
   | some o =>
     rw [hm] at e2'
     cases o with
     | none=>simp at e2'
     | some i =>
       have e2'':(σ[i]?).join=some v:=by simpa using e2'
       have hσ:σ[i]?=some (some v):=by
        cases q:σ[i]? with
        | none=>rw [q] at e2'';cases e2''
        | some o' =>
          rw [q] at e2''
          have:o'=some v:=by simpa using e2''
          rw [this]
       obtain ⟨c1,c2,c3,c4⟩:=B.cap.get hm e1
       obtain ⟨m,hn,hl⟩:=I.loc
       have vis:Vis X.env.scope x:=by
        rcases c4 with z|z
        · exact .inr (.inl z)
        · exact .inr (.inr z)
       obtain ⟨u,r,l⟩:=hl i x v c1 hσ vis
       refine ⟨u,r,?_⟩
       rcases l with ⟨z,_⟩|⟨_,c,ec,hcell⟩
       · rcases c4 with q|q
         · rw [q] at z;cases z
         · rw [q] at z;cases z
       · right
         refine ⟨EH c2,c,?_,hcell.keeps kk⟩
         show (cellsFrom h3.objs.size scope.names cl).lookup x=some c
         rw [VR _ _ _ c3]
         obtain ⟨c',hc'⟩:=Option.isSome_iff_exists.mp (hhas x (PySem.mem_of_lookup c2))
         have:=hsub x c' hc'
         rw [ec] at this
         cases this
         exact hc'
 · rcases cof x c e with q|q
   · exact I.freeC x c q
   · exact I.hok.fresh (Nat.le_trans (Nat.le_of_lt h3sz) q)
 · show (capt σ map).length=N'.length
   unfold capt
   rw [List.length_map]
   exact B.cap.length
theorem XQ {pins:List (Addr×Obj)}{σ:St}{H1:Hp}{s2:Shared}{cl:List (Str×Addr)}{fp:List Addr}{it:Addr}{tn:Nat->Heap->Prop}{J:It}{E:Value->Shared->Prop}(I:Inv X pins σ H1 s2)(B:BlkM X N' scope map tg elt ifs g tt te)
 (hsub:∀ x c,cl.lookup x=some c->X.env.cells.lookup x=some c) (hhas:∀ x,(x,NameKind.free)∈scope.names->(cl.lookup x).isSome=true)
 {R:Cx->Prop} (hR:∀ cells C fp s H,R (J9 X N' scope cells C fp s H)) (T:TurnG R X.prog X.w X.K tg J fp it tn) (st:tn 0 s2.heap) (hf:∀ b∈fp,DV X pins H1 b) {Fin:List V->Hp->Prop} {W:Nat->Nat->List V->Hp->Prop} {m0:Nat} (w0:W 0 m0 [] H1) (ht:LN J g tt te (capt σ map) Fin W)
 {RR:Value->Addr->Result->Shared->Prop}
 (hOk:∀ D C acc H' s' m,Inv X pins σ (upd H' D (.lst acc)) s'->H' D=none->s'.heap.Ns C m->upd H' D (.lst acc) C=none->C≠X.env.locals->X.s₀.heap.objs.size<=C->(∀ x c,X.env.cells.lookup x=some c->c≠C)->(∀ p∈X.pn++pins,p.1≠C)->Fin acc H'->RR (.ref D) C (.ok .next) s')
 (hErr:∀ D C e s',J0d X C e s'->RR (.ref D) C (.error e) s') :
 wpAny (model X.prog X.w) X.A (newList []) (fun acc s3=>wpAny (model X.prog X.w) X.A (newFunctionEnv scope X.env.globals cl [] X.env.qual none .none (some X.env)) (fun cenv s4 =>
  codeAny (model X.prog X.w) X.A (.compStart (.ListComp elt [⟨tg,iter,ifs,0⟩] scope pos) 0 (.ref it) acc { cenv with scope:=relabel scope X.env }) (RR acc cenv.locals) s4) E s3) E s2:=by
 have fo:∀ b∈fp,∃ o,s2.heap.get? b=some o:=fun b hb=>by obtain ⟨o,e,_⟩:=T.obj 0 _ st b hb;exact ⟨o,e⟩
 refine wpAny_newObj_type ?_
 generalize hH2:s2.heap.push { cls:=.type "list",dict:=none,data:=.seq ([]:List Value).toArray }=H2
 have szD:H2.objs.size=s2.heap.objs.size+1:=by rw [<- hH2,Heap.size_push]
 have kD:∀ b o,s2.heap.get? b=some o->H2.get? b=some o:=fun b o e=>hH2▸Heap.get?_push_of_some _ e
 simp only [newFunctionEnv,Option.isSome_some,if_true]
 refine wpAny_bind (wpAny_alloc ?_)
 refine wpAny_bind (wpAny_layCells _ (fun name kind cells=>by cases hkc:kind==NameKind.cell<;>simp [hkc]) _ _ _ _ ?_)
 dsimp only
 generalize hH3:H2.push { cls:=.type "dict",dict:=none,data:=.dict #[] }=h3
 have sz3:h3.objs.size=H2.objs.size+1:=by rw [<- hH3,Heap.size_push]
 have kC:∀ b o,H2.get? b=some o->h3.get? b=some o:=fun b o e=>hH3▸Heap.get?_push_of_some _ e
 have nsC:h3.Ns H2.objs.size fun _=>none:=hH3▸Heap.Ns.new H2 (.type "dict")
 refine wpAny_bind (wpAny_pure (wpAny_pure ?_))
 show codeAny _ _ (.compStart (.ListComp elt [⟨tg,iter,ifs,0⟩] scope pos) 0 (.ref it) (.ref s2.heap.objs.size) (compEnvC scope (cellsFrom h3.objs.size scope.names cl) H2.objs.size X.env)) _ _
 generalize hX':J9 X N' scope (cellsFrom h3.objs.size scope.names cl) H2.objs.size fp s2 H1=X'
 have I4:Inv X' [] (capt σ map) H1 { s2 with heap:=pushCells h3 scope.names }:=hX'▸QI I B hsub hhas hf fo H2.objs.size h3 (by rw [szD];exact Nat.le_succ _) (fun b o e=>kC b o (kD b o e)) (by rw [sz3];exact Nat.lt_succ_self _) nsC s2.toks
 obtain ⟨pg,pif,pel⟩:=B.run (cellsFrom h3.objs.size scope.names cl) H2.objs.size fp s2 H1 ⟨pins,σ,I,hf,by rw [szD];exact Nat.le_succ _⟩
 rw [hX'] at pg pif pel
 have eprog:X'.prog=X.prog:=by rw [<- hX'];rfl
 have ew:X'.w=X.w:=by rw [<- hX'];rfl
 have eK:X'.K=X.K:=by rw [<- hX'];rfl
 have eA:X'.A=X.A:=by rw [<- hX'];rfl
 have ecalm:R X':=by rw [<- hX'];exact hR _ _ _ _ _
 have eenv:X'.env=compEnvC scope (cellsFrom h3.objs.size scope.names cl) H2.objs.size X.env:=by rw [<- hX'];rfl
 have exe:X'.xe=notedBy (model X.prog X.w) X.A (compEnvC scope (cellsFrom h3.objs.size scope.names cl) H2.objs.size X.env) (J0d X H2.objs.size):=by rw [<- hX'];rfl
 have es0:X'.s₀=s2:=by rw [<- hX'];rfl
 have eH0:X'.H₀=H1:=by rw [<- hX'];rfl
 have eex:X'.ex=fp:=by rw [<- hX'];rfl
 have efs:X'.fs=frs X.stack:=by rw [<- hX'];rfl
 have epn:X'.pn=[]:=by rw [<- hX'];rfl
 have eL:X'.env.locals=H2.objs.size:=by rw [eenv];rfl
 generalize hDd:s2.heap.objs.size=D at *
 have fD:∀ b∈fp,b≠D:=fun b hb=>by obtain ⟨o,e⟩:=fo b hb;exact Nat.ne_of_lt (hDd▸Heap.lt_size e)
 have nfsD:D∉X'.fs:=fun hb=>by
  rw [efs] at hb
  have h1:=I.stkSub D hb
  rcases List.mem_cons.mp h1 with z|z
  · have:=I.lt;rw [hDd,<- z] at this;exact Nat.lt_irrefl _ this
  · exact I.nofs (by rw [hDd];exact Nat.le_refl _) z
 have ncD:∀ x c,X'.env.cells.lookup x=some c->c≠D:=fun x c e z=>by
  rw [eenv] at e
  rcases NS _ _ _ x c e with q|q
  · obtain ⟨v,o,ho,_⟩:=I.cell x c (hsub x c q)
    have:=Heap.lt_size ho
    rw [hDd,z] at this
    exact Nat.lt_irrefl _ this
  · rw [z,sz3,szD] at q
    exact absurd (Nat.lt_of_lt_of_le (Nat.lt_succ_of_lt (Nat.lt_succ_self D)) q) (Nat.lt_irrefl _)
 have f4:∀ {H':Hp} {pl:List (Addr×Obj)},(∀ b∈fp,H' b=none)->(∀ p∈pl,p.1=D)->∀ b∈fp,DV X' pl H' b:=fun {H' pl} hn hpl b hb=>by
  have q:=hf b hb
  refine ⟨hn b hb,?_,?_,.inl (by rw [eex];exact hb),fun x c e=>?_,fun p hp=>?_⟩
  · rw [eL]
    obtain ⟨o,e⟩:=fo b hb
    have:=Heap.lt_size e
    rw [hDd] at this
    intro z
    rw [z,szD] at this
    exact absurd (Nat.lt_of_succ_lt this) (Nat.lt_irrefl _)
  · have:=I4.ok.exfs b (by rw [eex];exact hb)
    exact this
  · exact (I4.ok.exf b (by rw [eex];exact hb)).2 x c e
  · rw [epn] at hp
    have hp:p∈pl:=by simpa using hp
    rw [hpl p hp]
    exact (fD b hb).symm
 have noCell:∀ {its:Array Value} {n:Nat} (v:Option Value),({ cls:=.type "list",data:=.seq its n }:Obj).data≠.cell v:=fun v z=>by cases z
 have hD4:(pushCells h3 scope.names).get? D=some { cls:=.type "list",data:=.seq ([]:List Value).toArray 0 }:=pushCells_keeps _ _ _ _ (kC _ _ (by rw [<- hH2,<- hDd];exact Heap.get?_push_size _ rfl))
 have loop:codeAny (model X.prog X.w) X.A (.compLoop (.ListComp elt [⟨tg,iter,ifs,0⟩] scope pos) 0 (.ref it) (.ref D) (compEnvC scope (cellsFrom h3.objs.size scope.names cl) H2.objs.size X.env)) (RR (.ref D) H2.objs.size) { s2 with heap:=pushCells h3 scope.names }:=by
  refine PZ (fun n s'=>∃ i acc H' its k,Inv X' [] (capt σ map) H' s'/\tn i s'.heap/\(∀ b∈fp,H' b=none)/\H' D=none/\s'.heap.get? D=some { cls:=.type "list",data:=.seq (List.toArray its) k }/\Vals acc its/\W i n acc H') ?_ m0
   ⟨0,[],H1,[],0,I4,T.keep _ _ _ st fun b hb o e=>pushCells_keeps _ _ _ _ (kC _ _ (kD _ _ e)),fun b hb=>(hf b hb).1,I.hok.fresh (by rw [hDd];exact Nat.le_refl _),hD4,.nil,w0⟩
  rintro n s5 ⟨i,acc,H5,its,k,I5,st5,fr5,hD5,oD5,rv5,w5⟩
  have pinD:Inv X' [(D,{ cls:=.type "list",data:=.seq (List.toArray its) k })] (capt σ map) H5 s5:=I5.pins_of fun p hp=>by
   have e:p=(D,{ cls:=.type "list",data:=.seq (List.toArray its) k }):=by simpa using hp
   subst e
   refine ⟨oD5,hD5,?_,nfsD,fun v=>noCell v⟩
   rw [eL,szD]
   exact Nat.ne_of_lt (Nat.lt_succ_self _)
  have plD:∀ p∈[(D,({ cls:=.type "list",data:=.seq (List.toArray its) k }:Obj))],p.1=D:=fun p hp=>by
   have e:p=(D,{ cls:=.type "list",data:=.seq (List.toArray its) k }):=by simpa using hp
   rw [e]
  have err:∀ e s',X'.xe e s'->notedBy (model X.prog X.w) X.A (compEnvC scope (cellsFrom h3.objs.size scope.names cl) H2.objs.size X.env) (fun e s'=>RR (.ref D) H2.objs.size (.error e) s') e s':=fun e s' he=>by
   rw [exe] at he
   exact wpAny_mono he (fun _ s'' q=>hErr D _ e s'' q) fun e'' s'' q=>hErr D _ e'' s'' q
  rcases ht i n acc H5 w5 with ⟨stop,hsz,fin⟩|⟨go,hsz,NN,hNN,step⟩
  · have dn:=T.done X' eprog ew eK ecalm i _ s5 (capt σ map) H5 (notedBy (model X.prog X.w) X.A (compEnvC scope (cellsFrom h3.objs.size scope.names cl) H2.objs.size X.env) fun e s'=>RR (.ref D) H2.objs.size (.error e) s') pinD (f4 fr5 plD) st5 stop
    rw [eA] at dn
    refine thn dn fun r s6 ⟨hr,I6⟩=>?_
    subst hr
    obtain ⟨oD6,hD6,_⟩:=I6.pin (D,_) (by rw [epn];exact List.mem_cons_self)
    obtain ⟨m,nsm,_⟩:=I6.loc
    rw [eL] at nsm
    have un:=I6.base
    rw [efs,eex,eH0,es0] at un
    have hok:=I6.hok
    rw [eprog,ew] at hok
    have os6:=I6.os
    rw [es0] at os6
    have fC:H5 H2.objs.size=none:=by rw [<- eL];exact I6.free
    have nDC:H2.objs.size≠D:=by rw [szD];exact Nat.ne_of_gt (Nat.lt_succ_self _)
    refine hOk D H2.objs.size acc H5 s6 m (I.call' (ch:=fp) os6 ?_ ?_ I6.bare fun b hb=>?_) hD5 nsm (by rw [Q3 nDC];exact fC) ?_ ?_ ?_ ?_ fin
    · refine ⟨un.keep,un.slot,fun b o e n hx=>?_,un.there,fun b xs e=>?_,fun b o u e=>?_,fun b ps e=>?_⟩
      · rw [Q3 (Nat.ne_of_lt (hDd▸Heap.lt_size e))]
        exact un.free b o e n hx
      · have:=un.tups b xs e
        rw [Q3 (Q4 this hD5)]
        exact this
      · have:=un.frzs b o u e
        rw [Q3 (Q4 this hD5)]
        exact this
      · obtain ⟨more,this⟩:=un.tbls b ps e
        exact ⟨more,by rw [Q3 (Q4 this hD5)];exact this⟩
    · intro b o e
      by_cases hb:b=D
      · subst hb
        rw [Q5] at e
        cases e
        exact ⟨hsz,its,k,rv5,oD6⟩
      · rw [Q3 hb] at e
        exact (hok b o e).stay (fun _ _ _ q=>q) (fun c q=>by rw [Q3 (Q4 q hD5)];exact q) fun c xs q=>by rw [Q3 (Q4 q hD5)];exact q
    · obtain ⟨f0,f1,f2,f3,f4',f5⟩:=hf b hb
      exact ⟨f3,f1,f4',f5⟩
    · have:=I.lt
      rw [hDd] at this
      intro z
      rw [<- z,szD] at this
      exact absurd (Nat.lt_of_succ_lt this) (Nat.lt_irrefl _)
    · have:=I.sz
      rw [hDd] at this
      omega
    · intro x c e z
      obtain ⟨v,o,ho,_⟩:=I.cell x c e
      have:=Heap.lt_size ho
      rw [hDd,z,szD] at this
      exact absurd (Nat.lt_of_succ_lt this) (Nat.lt_irrefl _)
    · intro p hp z
      have:=Heap.lt_size (I.pin p hp).1
      rw [hDd,z,szD] at this
      exact absurd (Nat.lt_of_succ_lt this) (Nat.lt_irrefl _)
  · have im:=T.item X' eprog ew eK ecalm i _ s5 (capt σ map) H5 (notedBy (model X.prog X.w) X.A (compEnvC scope (cellsFrom h3.objs.size scope.names cl) H2.objs.size X.env) fun e s'=>RR (.ref D) H2.objs.size (.error e) s') pinD (f4 fr5 plD) st5 go
    rw [eA] at im
    refine thn im fun r s6 ⟨u,hr,h6⟩=>?_
    subst hr
    refine thn h6 fun _ s7 ⟨x,H7,I7,r7,y7,st7,fr7⟩=>?_
    have I7':=I7.pinned (f4 fr7 plD) (T.obj _ _ st7)
    have stp:=B.keep _ _ _ _ (step x H7 y7)
    have pgx:=pg _ s7 (capt σ map) H7 x u _ I7' r7 stp
    rw [eprog,ew,eA,eenv] at pgx
    refine wpAny_mono pgx (fun _ s8 ⟨σ8,H8,I8,⟨kl,k8⟩,q8⟩=>?_) err
    have pix:=pif _ s8 σ8 H8 _ I8 q8
    rw [eprog,ew,eA,eenv] at pix
    refine wpAny_mono pix (fun b s9 ⟨H9,I9,q9⟩=>?_) err
    have wk:∀ {σa:St} {Ha:Hp} {sa:Shared},σa=σ8->Inv X' ([(D,({ cls:=.type "list",data:=.seq (List.toArray its) k }:Obj))]++DU fp s7.heap) σa Ha sa ->
     Inv X' [] (capt σ map) Ha sa/\tn (i+1) sa.heap/\(∀ b∈fp,Ha b=none)/\Ha D=none/\sa.heap.get? D=some { cls:=.type "list",data:=.seq (List.toArray its) k }:=fun {σa Ha sa} ea Ia=>by
     subst ea
     refine ⟨(Ia.pins_of (pins':=[]) fun p hp=>absurd hp (by simp)).weak kl.symm fun j v e=>?_,T.keep _ _ _ st7 fun b hb o e=>(Ia.pin (b,o) (List.mem_append_right _ (List.mem_append_right _ (Z5 hb e)))).1,fun b hb=>?_,?_,?_⟩
     · have e':=e
       unfold capt at e'
       rw [List.getElem?_map] at e'
       cases hm:map[j]? with
       | none=>rw [hm] at e';cases e'
       | some o =>
         rw [hm] at e'
         cases o with
         | none=>simp at e'
         | some i'=>rw [k8 j i' hm];exact e
     · obtain ⟨o,e,d⟩:=T.obj _ _ st7 b hb
       exact (Ia.pin (b,o) (List.mem_append_right _ (List.mem_append_right _ (Z5 hb e)))).2.1
     · exact (Ia.pin (D,_) (List.mem_append_right _ (List.mem_append_left _ List.mem_cons_self))).2.1
     · exact (Ia.pin (D,_) (List.mem_append_right _ (List.mem_append_left _ List.mem_cons_self))).1
    cases b with
    | false =>
      rw [if_neg Bool.false_ne_true] at q9 ⊢
      obtain ⟨m',hm',w9⟩:=hNN _ _ q9
      obtain ⟨a1,a2,a3,a4,a5⟩:=wk rfl I9
      exact ⟨m',hm',i+1,acc,H9,its,k,a1,a2,a3,a4,a5,rv5,w9⟩
    | true =>
      rw [if_pos rfl] at q9 ⊢
      have pex:=pel _ s9 σ8 H9 _ I9 q9
      rw [eprog,ew,eA,eenv] at pex
      refine wpAny_mono pex (fun v s10 ⟨y,H10,I10,r10,q10⟩=>?_) err
      obtain ⟨m',hm',w10⟩:=hNN _ _ q10
      obtain ⟨a1,a2,a3,a4,a5⟩:=wk rfl I10
      have hl:=rv5.length
      refine wpAny_list_append_plain (items:=List.toArray its) ⟨k,a5⟩ (fun h11 pl11 sb11=>?_) (by simp only [List.size_toArray];omega)
      obtain ⟨k',e11⟩:=pl11
      refine ⟨m',hm',i+1,acc++[y],H10,its++[v],k',a1.turned (t':=s10.toks) (it:=D) (fun b o hb e=>(sb11.2 b hb).trans e) a4 ?_ (.inr (by rw [es0,hDd];exact Nat.le_refl _)) ncD (fun p hp=>absurd hp (by rw [epn];simp)),T.keep _ _ _ a2 fun b hb o e=>(sb11.2 b (fD b hb)).trans e,a3,a4,?_,rv5.append (.cons r10 .nil),w10⟩
      · rw [eL,szD]
        exact Nat.ne_of_lt (Nat.lt_succ_self _)
      · rw [e11,List.push_toArray]
 exact codeAny_compStart_list loop (T.self _ 0 _ _ _ (T.keep _ _ _ st fun b hb o e=>pushCells_keeps _ _ _ _ (kC _ _ (kD _ _ e))) loop)
theorem Blk.clos {pins:List (Addr×Obj)}{σ:St}{H:Hp}{s:Shared}(B:Blk X N' scope map tg elt ifs g tt te)(I:Inv X pins σ H s) :
 ∃ cl,closureFor scope X.env=pure cl/\(∀ x c,cl.lookup x=some c->X.env.cells.lookup x=some c)/\∀ x,(x,NameKind.free)∈scope.names->(cl.lookup x).isSome=true :=
 MG fun x hx=>I.ok.has x (by
  have q:=List.all_eq_true.mp B.free _ hx
  simpa using q)
def Q5d (wi:TI)(map:List (Option Nat))(g:TG)(tt:TT)(te:TE):TE:=fun σ H Q=>wi σ H fun J H1=>∃ W:Nat->Nat->List V->Hp->Prop,(∃ m,W 0 m [] H1) /\
 LN J g tt te (capt σ map) (fun acc H'=>∀ D,H' D=none->Q (.ref D) (upd H' D (.lst acc))) W
theorem OX (B:Blk X N' scope map tg elt ifs g tt te)(hi:PI X tg iter wi)(hs:∀ x,foldedSetIterable iter X.env x=pure x:=by intro _;rfl):PE X (.ListComp elt [⟨tg,iter,ifs,0⟩] scope pos) (Q5d wi map g tt te):=by
 intro pins s σ H Q I h
 obtain ⟨cl,hcl,hsub,hhas⟩:=B.clos I
 rw [eval_ListComp]
 refine wpAny_comprehension_free (use:=none) rfl hs hcl B.kind B.loc (thn (hi pins s σ H _ I h) fun v s1 h1=>thn h1 fun itv s2 h2=>?_)
 obtain ⟨it,fp,tn,J,H2,e,I2,T,st2,f2,W,⟨m0,w0⟩,turn⟩:=h2
 subst e
 refine XQ (RR:=fun acc C=>compPost (model X.prog X.w) X.A X.xe none (EP X pins σ Q) acc C) I2 B.m hsub hhas (R:=fun X=>X.calm=true) (fun _ _ _ _ _=>B.calm) T.gen st2 f2 w0 turn (fun D C acc H' s' m I' hD nsm fC c1 c2 c3 c4 fin=>?_) fun D C e s' z=>z
 refine ⟨m,nsm,fun h' sb=>⟨.ref D,_,?_,rfl,fin D hD⟩⟩
 exact I'.turned (t':=s'.toks) (fun b o hb e=>(sb.2 b hb).trans e) fC c1 (.inr c2) c3 c4
def J0n (i:Nat)(wi:TI)(map:List (Option Nat))(g:TG)(tt:TT)(te:TE):TS:=fun D σ H=>wi σ H fun J H1=>∃ W:Nat->Nat->List V->Hp->Prop,(∃ m,W 0 m [] H1) /\
 LN J g tt te (capt σ map) (fun acc H'=>∀ d,H' d=none->D.nx (σ.set i (some (.ref d))) (upd H' d (.lst acc))) W
theorem UV {i:Nat}{y:Str}{py spos:Pos}(hN:X.N.Nodup)(hiN:X.N[i]?=some y)(hy:Loc X.env.scope y)(B:Blk X N' scope map tg elt ifs g tt te)(hi:PI X tg iter wi)
 (hsw:swapsWith (.ListComp elt [⟨tg,iter,ifs,0⟩] scope pos) (some (.Name y py)) spos.line X.env=pure true:=by rfl) (hfn:X.fn y=true\/X.env.scope.names.lookup y=some .local:=by first|exact .inl rfl|exact .inr rfl)
 (hs:∀ x,foldedSetIterable iter X.env x=pure x:=by intro _;rfl):PS X (.Assign [.Name y py] (.ListComp elt [⟨tg,iter,ifs,0⟩] scope pos) spos) (J0n i wi map g tt te):=by
 intro pins s σ H D I h
 obtain ⟨cl,hcl,hsub,hhas⟩:=B.clos I
 rw [exec_Assign_Name_used _ _ _ _ hsw]
 refine wpAny_bind (wpAny_standAt (wpAny_bind ?_))
 show wpAny _ _ (do let _ <- comprehension (.ListComp elt [⟨tg,iter,ifs,0⟩] scope pos) scope X.env _ (newList []) false (eval iter X.env) (some (assign (.Name y py) X.env))) _ _ _
 refine wpAny_bind (thn (wpAny_comprehension_free (use:=some (assign (.Name y py) X.env)) (Q:=fun _ s'=>SP X pins D .next s') rfl hs hcl B.kind B.loc (thn (hi pins s σ H _ I h) fun v s1 h1=>thn h1 fun itv s2 h2=>?_)) fun _ s' hq=>wpAny_pure (wpAny_pure hq))
 obtain ⟨it,fp,tn,J,H2,e,I2,T,st2,f2,W,⟨m0,w0⟩,turn⟩:=h2
 subst e
 refine XQ (RR:=fun acc C=>compPost (model X.prog X.w) X.A X.xe (some (assign (.Name y py) X.env)) (fun _ s'=>SP X pins D .next s') acc C) I2 B.m hsub hhas (R:=fun X=>X.calm=true) (fun _ _ _ _ _=>B.calm) T.gen st2 f2 w0 turn (fun d C acc H' s' m I' hD nsm fC c1 c2 c3 c4 fin=>?_) fun D C e s' z=>z
 refine wpAny_assign_Name (MO I' hN hiN hy (v:=.ref d) rfl (fun s'' I'' ⟨a,sb,ha⟩=>?_) hfn)
 have hCa:C≠a:=by
  rcases ha with z|z
  · rw [z];exact c1
  · exact (c3 y a z).symm
 refine ⟨m,nsm.sameBut sb hCa,fun h' sb'=>⟨_,_,?_,fin d hD⟩⟩
 exact I''.turned (t':=s''.toks) (fun b o hb e=>(sb'.2 b hb).trans e) fC c1 (.inr c2) c3 c4
end
theorem gkeep_name {j:Nat}{map:List (Option Nat)}(h:map[j]?=some none):FG (TK j) map:=fun v σ H Q q=>by
 refine ⟨⟨by simp,fun j' i hm=>?_⟩,q⟩
 have:j≠j':=fun z=>by rw [z,hm] at h;cases h
 rw [List.getElem?_set_ne this]
def Bd (n:Nat)(i:Int):Prop:=i.natAbs<2 ^ n
theorem Bd.mono {m n:Nat}{i:Int}(h:Bd m i)(k:m<=n):Bd n i:=Nat.lt_of_lt_of_le h (Nat.pow_le_pow_right (by decide) k)
theorem Bd.mul {m n:Nat}{i j:Int}(h:Bd m i)(k:Bd n j):Bd (m+n) (i*j):=by
 unfold Bd at *
 rw [Int.natAbs_mul,Nat.pow_add]
 exact Nat.mul_lt_mul'' h k
theorem Bd.add {m n:Nat}{i j:Int}(h:Bd m i)(k:Bd n j):Bd (max m n+1) (i+j):=by
 have h':Bd (max m n) i:=h.mono (Nat.le_max_left _ _)
 have k':Bd (max m n) j:=k.mono (Nat.le_max_right _ _)
 unfold Bd at *
 rw [Nat.pow_succ]
 have:=Int.natAbs_add_le i j
 omega
theorem Bd.neg {m:Nat}{i:Int}(h:Bd m i):Bd m (-i):=by
 unfold Bd at *
 rw [Int.natAbs_neg]
 exact h
theorem Bd.of {n:Nat}{i:Int}(h1 : -(2 ^ n:Nat)<i)(h2:i<(2 ^ n:Nat)):Bd n i:=by
 unfold Bd
 omega
theorem QJ {n:Nat}{i:Int}(h:Bd n i):Builtin.Int.intBits i<=n:=by
 unfold Builtin.Int.intBits
 split
 · exact Nat.zero_le _
 · rename_i hz
   have h0:i.natAbs≠0:=fun z=>hz (by have:i=0:=Int.natAbs_eq_zero.mp z;simp [this])
   exact (Nat.log2_lt h0).mpr h
def CMulB (i j:Int):Prop:=(∃ m n,Bd m i/\Bd n j/\m+n<=100000000)\/Bd 64 j
def Q7i (i j:Int):Prop:=0<j/\∃ n,Bd n j/\n<=9000
section
variable {X:Cx}
theorem Y7:OpR X (binaryOp .Mult) (rI CMulB fun i j=>.int (i*j)):=opI fun i j _ _ _ _ _ hc q=>mul_int q (by
 rcases hc with ⟨m,n,h1,h2,h3⟩|h1
 case inr=>exact .of_right (QJ h1)
 have e1:=QJ h1
 have e2:=QJ h2
 unfold IntMulOk
 have e3:Builtin.Int.intTooBig (Builtin.Int.intBits i+Builtin.Int.intBits j)=false:=by
  unfold Builtin.Int.intTooBig
  refine decide_eq_false ?_
  have:bitsLine=134217728:=by unfold bitsLine;decide
  rw [this]
  omega
 rw [e3]
 simp)
theorem SC:OpR X (binaryOp .FloorDiv) (rI Q7i fun i j=>.int (i / j)):=opI fun i j _ _ _ _ _ hc q=>by
 obtain ⟨h1,n,h2,h3⟩:=hc
 refine floordiv_int (by omega) (by rw [Int.fdiv_eq_ediv_of_nonneg i (by omega)];exact q) (.inl (PyProof.noPylong_of_log2 ?_))
 have h0:j.natAbs≠0:=by omega
 exact (Nat.log2_lt h0).mpr (h2.mono h3)
theorem J2i:OpR X (binaryOp .FloorDiv) (rI (fun _ j=>j≠0/\∃ n,Bd n j/\n<=9000) fun i j=>.int (i.fdiv j)):=opI fun i j _ _ _ _ _ hc q=>by
 obtain ⟨h1,n,h2,h3⟩:=hc
 refine floordiv_int h1 q (.inl (PyProof.noPylong_of_log2 ?_))
 have h0:j.natAbs≠0:=by omega
 exact (Nat.log2_lt h0).mpr (h2.mono h3)
end
theorem Same.upd {H:Hp}{p:Addr}{o:HO}(h:H p=none):Same H (upd H p o):=fun b u e=>by rw [Q3 (Q4 e h)];exact e
def Keep (p:Addr)(H H':Hp):Prop:=∀ b o,b≠p->H b=some o->H' b=some o
theorem Keep.trans {p:Addr}{H H1 H2:Hp}(a:Keep p H H1)(b:Keep p H1 H2):Keep p H H2:=fun c o n e=>b c o n (a c o n e)
theorem Keep.upd {p:Addr}{H:Hp}{o:HO}:Keep p H (upd H p o):=fun b u n e=>by rw [Q3 n];exact e
theorem Same.keep {p:Addr}{H H':Hp}(h:Same H H'):Keep p H H':=fun b o _ e=>h b o e
theorem Keep.same {p:Addr}{H0 H H':Hp}(a:Same H0 H)(n:H0 p=none)(k:Keep p H H'):Same H0 H':=fun b o e=>k b o (Q4 e n) (a b o e)
structure Callee (P:Program)(w:World)(K:Fg)(mg:Str->Option Value)(base:Heap)(CX:CXT)(x:Str)(k:Nat)(ps:List Str)(sp:Sp):Prop where
 ex:∃ f fd,FnOk P w K mg base CX k f fd ps sp/\mg x=some (.ref f)/\PySem.W.keepIn K (.ref f)=true/\Binds K fd ps []
section
variable {X:Cx}{k:Nat}{ps:List Str}{sp:Sp}{x:Str}{p pos:Pos}{e:Expr}{es:List Expr}{t:TA}
theorem GJ (G:Callee X.prog X.w X.K X.mg X.base CX0 x k ps sp)(hr:Room k X.A)(hg:Gl X x)(ha:PA X (e::es) t)(hdb:(x==("__debug__" : Str))=false:=by decide) (he:starEach (e::es) X.env=(false,eval e X.env)::starEach es X.env:=by rfl) (hpl:(backTo pos (starEach es X.env)).any (·.1)=false:=by rfl) :
 PE X (.Call (.Name x p) (e::es) [] pos) (MM sp [] E0 t):=by
 obtain ⟨f,fd,F,hm,hk,hb⟩:=G.ex
 exact WO F hr hg hm hk hb .nil J9k ha hdb he hpl
theorem J6v (G:Callee X.prog X.w X.K X.mg X.base CX0 x k ps sp)(hr:Room k X.A)(hg:Gl X x)(hdb:(x==("__debug__" : Str))=false:=by decide):PE X (.Call (.Name x p) [] [] pos) (MM sp [] E0 J5y):=by
 obtain ⟨f,fd,F,hm,hk,hb⟩:=G.ex
 exact J2a F hr hg hm hk hb .nil J9k hdb
theorem UF:BG X (.builtin "isinstance") (fun xs H Q=>∃ y c t b,xs=[y,.ty c]/\TyOf X.K H y t/\PySem.W.kitOne X.K t (.type c)=some b/\Q (.bl b) H):=by
 intro pins s σ H xs us Q I r h
 obtain ⟨y,c,t,b,rfl,ty,e,q⟩:=h
 obtain ⟨u,w',rfl,r1,r2⟩:=WA r
 cases (show w'=Value.type c from r2)
 exact ZJ I r1 ty e fun tk=>⟨.bl b,H,I.tok _,rfl,q⟩
end
theorem Callee.mk' {CX:CXT}{x qual:Str}{st:Stmt}{f:Addr} {k:Nat}{ps:List Str}{sp:Sp}(F:Fun K x qual st f fd)(G:FnOk P w K mg base CX k f fd ps sp)(hm:mg x=some (.ref f))(hb:Binds K fd ps []) :
 Callee P w K mg base CX x k ps sp:=⟨f,fd,G,hm,F.kp,hb⟩
theorem J3u {c:Bool}{A B:Prop}(h1:c=true->A)(h2:c=false->B):if c=true then A else B:=by
 cases c with
 | true=>exact Q7z (h1 rfl)
 | false=>exact Q8a (h2 rfl)
theorem J5b:bootBuiltins "abs" = some (.builtin "abs"):=by decide +kernel
theorem GP:bootBuiltins "len" = some (.builtin "len"):=by decide +kernel
theorem FY:bootBuiltins "isinstance" = some (.builtin "isinstance"):=by decide +kernel
theorem J5a:bootBuiltins "max" = some (.builtin "max"):=by decide +kernel
theorem Q4f:bootBuiltins "sum" = some (.builtin "sum"):=by decide +kernel
theorem IB:bootBuiltins "sorted" = some (.builtin "sorted"):=by decide +kernel
theorem Q4g:bootBuiltins "int" = some (.type "int"):=by decide +kernel
theorem J9a:bootBuiltins "bool" = some (.type "bool"):=by decide +kernel
theorem BU:bootBuiltins "tuple" = some (.type "tuple"):=by decide +kernel
theorem XO:bootBuiltins "list" = some (.type "list"):=by decide +kernel
theorem Q4e:bootBuiltins "zip" = some (.type "zip"):=by decide +kernel
theorem Same.get {H H':Hp}{a:Addr}{o:HO}(S:Same H H')(h:H a=some o):H' a=some o:=S a o h
theorem Keep.get {p:Addr}{H H':Hp}{a:Addr}{o:HO}(S:Keep p H H')(n:a≠p)(h:H a=some o):H' a=some o:=S a o n h
theorem rd_mul {i j:Int}{m n:Nat}{Q:Prop}(h1:Bd m i)(h2:Bd n j)(h3:m+n<=100000000)(q:Q):CMulB i j/\Q:=⟨.inl ⟨m,n,h1,h2,h3⟩,q⟩
theorem Bd.num (i:Int)(h:i.natAbs<18446744073709551616):Bd 64 i:=h
theorem Y1:1000<=sizeLine:=by decide
theorem Q0h {a b:Int}(h:decide (V.int a=V.int b)=true):a=b:=by injection of_decide_eq_true h
theorem J7g {a b:Int}(h:(!decide (V.int a=V.int b))=true):a≠b:=fun z=>by rw [z] at h;simp at h
theorem J7h {a b:Int}(h:(!decide (V.int a=V.int b))=false):a=b:=by
 have q:decide (V.int a=V.int b)=true:=by cases e:decide (V.int a=V.int b) with|true=>rfl|false=>rw [e] at h;cases h
 exact Q0h q
theorem J9s {p:Prop}[Decidable p](h:decide p=true):p:=of_decide_eq_true h
def Bag (H:Hp)(p:Addr):Prop:=∃ f m:Int,H p=some (.lst [.int f,.int m])/\0<=f/\0<=m/\m<2147483647
theorem Bag.mk' {H:Hp}{p:Addr}{f m:Int}(h0:0<=f)(h1:0<=m)(h2:m<2147483647):Bag (upd H p (.lst [.int f,.int m])) p:=⟨f,m,Q5,h0,h1,h2⟩
theorem Bag.same {H H':Hp}{p:Addr}(b:Bag H p)(S:Same H H'):Bag H' p:=by
 obtain ⟨f,m,e,q⟩:=b
 exact ⟨f,m,S _ _ e,q⟩
theorem Bag.ne {H:Hp}{p a:Addr}{xs:List V}(b:Bag H p)(h:H a=some (.tup xs)):a≠p:=by
 obtain ⟨f,m,e,_⟩:=b
 exact WS h e (by intro z;cases z)
def J5o (p:Addr)(many:Int)(H:Hp)(Q:VK):Prop:=∀ (r:Int) H',0<=r->r<many->Bag H' p->Keep p H H'->Q (.int r) H'
theorem CMulB.right {i j:Int}(h:Bd 64 j):CMulB i j:=.inr h
theorem Keep.tup {p:Addr}{H H':Hp}{a:Addr}{xs:List V}(S:Keep p H H')(b:Bag H p)(h:H a=some (.tup xs)):H' a=some (.tup xs):=S a _ (b.ne h) h
theorem Y2 (l:List Str)(h:l.Nodup):l.Nodup:=h
section
variable {X:Cx}{l:Expr}
theorem J7u (K:Fg)(h:X.K=K):IxR X (J6k K):=by subst h;exact Q2h
theorem CZ (K:Fg)(h:X.K=K):IxR X (J6l K):=by subst h;exact J7v
theorem AV {es:List Expr}{k:Nat}{t:TGs}{n:Nat}{pos:Pos}(K:Fg)(h:X.K=K)(hc:X.calm=true)(hs:PGs X es t)(hn:(assignEach es X.env).length=n:=by rfl)(hst:(assignEach es X.env).findIdx? (·.1)=none:=by rfl):PG X (.Tuple es k pos) (Q2q K n t):=by subst h;exact Q1j hc hs hn hst
theorem Z6 (K:Fg)(h:X.K=K):BG X (.builtin "len") (fun xs H Q=>∃ p ys,xs=[.ref p]/\(SqL K H p ys\/SqT K H p ys)/\Q (.int ys.length) H):=by subst h;exact QH
theorem Y3 (K:Fg)(h:X.K=K):BG X (.type "tuple") (fun xs H Q=>∃ p ys,xs=[.ref p]/\((SqL K H p ys/\∀ l,H l=none->Q (.ref l) (upd H l (.tup ys)))\/(SqT K H p ys/\Q (.ref p) H))):=by subst h;exact MH
theorem FX (K:Fg)(h:X.K=K):BG X (.type "list") (fun xs H Q=>∃ p ys,xs=[.ref p]/\(SqL K H p ys\/SqT K H p ys)/\∀ l,H l=none->Q (.ref l) (upd H l (.lst ys))):=by subst h;exact QG
theorem YO {a:Expr}{ta:TE}(K:Fg)(h:X.K=K)(ha:PE X a ta)(he:∀ whole,isTrue a X.env whole=(do let v <- whole;standAt a.pos;holding [v] (truthy v))):PT X a (fun σ H Q=>ta σ H fun x H'=>∃ k,Q4l K x H' k/\Q k H'):=by subst h;exact J1q ha he
end
theorem LA:∀ {ns:List Int} {us:List Value},Vals (ns.map V.int) us->∃ xs:List (Int×Tok),us=xs.map (fun p=>Value.int p.1 p.2)/\xs.map (·.1)=ns
 | [],us,r=>by
   cases r
   exact ⟨[],rfl,rfl⟩
 | n::ns,us,r=>by
   cases r with
   | cons r1 r2 =>
     obtain ⟨t,rfl⟩:=r1
     obtain ⟨xs,e1,e2⟩:=LA r2
     exact ⟨(n,t)::xs,by rw [e1];rfl,by rw [<- e2];rfl⟩
theorem HX (xs:List (Int×Tok)):intItems xs.toArray=(xs.map fun p=>Value.int p.1 p.2).toArray:=by simp [intItems]
section
variable {X:Cx}
theorem ZZ (K:Fg)(hK:X.K=K)(hc:X.calm=true):BG X (.builtin "sum") (fun xs H Q=>∃ (p:Addr) (ns:List Int),xs=[.ref p]/\SqL K H p (ns.map V.int)/\Q (.int ns.sum) H):=by
 subst hK
 intro pins s σ H xs us Q I r h
 obtain ⟨p,ns,rfl,hq,q⟩:=h
 obtain ⟨u,rfl,rx⟩:=JL r
 cases rx
 obtain ⟨its,rv,pl,hz⟩:=I.list hq
 obtain ⟨ps,e1,e2⟩:=LA rv
 subst e1
 have hl:=pl.isList
 rw [<- HX] at hl
 refine sum_intListG (xs:=ps.toArray) (I.ok.hd hc) hl fun h' tk t' k=>?_
 refine ⟨.int ns.sum,H,I.kept k,⟨t',?_⟩,q⟩
 rw [preSum_eq,List.take_of_length_le (by simp)]
 show Value.int ((ps.map (·.1)).sum) t'=_
 rw [e2]
end
section
variable {prog:Program}{w:World}{A:Around}{E:Value->Shared->Prop}{s:Shared}
theorem VD {u t:Addr}{j:Nat}{its}{v:Value}{Q:Value->Shared->Prop}(a1:s.heap.IsTupleIter u t j)(a2:s.heap.IsTuple t its)(a3:its[j]?=some v)
 (q:∀ h',h'.IsTupleIter u t (j+1)->Heap.SameBut u s.heap h'->Q v { s with heap:=h' }):wpAny (model prog w) A (Builtin.SmallTypes.nextOf (.ref u)) Q E s:=by
 obtain ⟨oi,b1,b2,b3⟩:=id a1
 obtain ⟨ot,c1,_,nt,c2⟩:=a2
 unfold Builtin.SmallTypes.nextOf
 refine wpAny_bind (wpAny_callSpecial?_slot (name:=Str.ofString "__next__") a1.typeIs F.slot_tuple_iterator_next (wpAny_call_entry F.slot_tuple_iterator_next a1.typeIs F.entry_tuple_iterator_next ?_ (F.args_tuple_iterator_next_1 _)))
 show wpAny _ _ (field (.ref u) 0 >>= _) _ _ s
 refine wpAny_bind (wpAny_field b1 b3 (x:=.ref t) rfl ?_)
 show wpAny _ _ (if (Value.ref t==Value.none)=true then _ else _) _ _ s;rw [if_neg (show ¬ ((Value.ref t==Value.none)=true) from Bool.false_ne_true)]
 show wpAny _ _ (field (.ref u) 1 >>= _) _ _ s
 refine wpAny_bind (wpAny_field b1 b3 (x:=.int j 0) rfl ?_)
 show wpAny _ _ (seqItems? (.ref t) >>= _) _ _ s;refine wpAny_bind (wpAny_seqItems c1 c2 ?_)
 simp only [Int.toNat_natCast,a3]
 refine wpAny_bind (wpAny_setField b1 b3 (by simp) (wpAny_pure ⟨v,rfl,wpAny_pure (q _ ⟨_,Heap.get?_update_self _ b1 (Obj.isFreed_of_fields (Obj.data_mapFields b3 _)),(Obj.cls_mapFields ..).trans b2,by rw [Obj.data_mapFields b3];simp [rawInt]⟩ (Heap.SameBut.update ..))⟩))
theorem YV {u t:Addr}{j:Nat}{its}{Q:Value->Shared->Prop}(a0:A.handled=none)(a1:s.heap.IsTupleIter u t j)(a2:s.heap.IsTuple t its)(a3:its[j]?=none)
 (q:∀ h' e,Heap.ExtBut u s.heap h'->(∃ o,h'.get? e=some o/\o.cls=.type "StopIteration")->E (.ref e) { s with heap:=h' }):wpAny (model prog w) A (Builtin.SmallTypes.nextOf (.ref u)) Q E s:=by
 obtain ⟨oi,b1,b2,b3⟩:=id a1
 obtain ⟨ot,c1,_,nt,c2⟩:=a2
 unfold Builtin.SmallTypes.nextOf
 refine wpAny_bind (wpAny_callSpecial?_slot (name:=Str.ofString "__next__") a1.typeIs F.slot_tuple_iterator_next (wpAny_call_entry F.slot_tuple_iterator_next a1.typeIs F.entry_tuple_iterator_next ?_ (F.args_tuple_iterator_next_1 _)))
 show wpAny _ _ (field (.ref u) 0 >>= _) _ _ s
 refine wpAny_bind (wpAny_field b1 b3 (x:=.ref t) rfl ?_)
 show wpAny _ _ (if (Value.ref t==Value.none)=true then _ else _) _ _ s;rw [if_neg (show ¬ ((Value.ref t==Value.none)=true) from Bool.false_ne_true)]
 show wpAny _ _ (field (.ref u) 1 >>= _) _ _ s
 refine wpAny_bind (wpAny_field b1 b3 (x:=.int j 0) rfl ?_)
 show wpAny _ _ (seqItems? (.ref t) >>= _) _ _ s;refine wpAny_bind (wpAny_seqItems c1 c2 ?_)
 simp only [Int.toNat_natCast,a3]
 refine wpAny_bind (wpAny_rule (wpAny_bind (wpAny_setField b1 b3 (by simp) ?_)))
 show wpAny _ _ (newExc (.type "StopIteration") [] >>= _) _ _ _;refine wpAny_bind ?_;simp only [newExc,newTuple]
 refine wpAny_bind (wpAny_newObj_type ?_ (by size_fits));refine wpAny_bind (m:=firstArgMember _ _) (wpAny_of_eq (a:=Value.none) (by first|rfl|(simp only [firstArgMember];rfl)) ?_)
 refine wpAny_newObj_type ?_ (by size_fits);simp only [raiseNew];refine wpAny_bind (wpAny_handled ?_)
 first|rw [show A.in1.handled=none from a0]|rw [a0]
 refine wpAny_bind (wpAny_pure (wpAny_throw (q _ _ (((Heap.SameBut.update ..).extBut.push _).push _) ⟨_,Heap.get?_push_size _ rfl,rfl⟩)))
def ItAt (b:Bool)(h:Heap)(u l:Addr)(j:Nat):Prop:=match b with|false=>h.IsListIter u l j|true=>h.IsTupleIter u l j
def SeqAt (b:Bool)(h:Heap)(l:Addr)(xs:Array Value):Prop:=match b with|false=>h.IsList l xs|true=>h.IsTuple l xs
theorem ItAt.at {b:Bool}{h h':Heap}{u l:Addr}{j:Nat}(x:ItAt b h u l j)(k:∀ o,h.get? u=some o->h'.get? u=some o):ItAt b h' u l j:=by
 cases b with
 | false=>exact Heap.IsListIter.at x k
 | true=>exact Heap.IsTupleIter.at x k
theorem SeqAt.at {b:Bool}{h h':Heap}{l:Addr}{xs:Array Value}(x:SeqAt b h l xs)(k:∀ o,h.get? l=some o->h'.get? l=some o):SeqAt b h' l xs:=by
 cases b with
 | false=>obtain ⟨o,e,r⟩:=x;exact ⟨o,k o e,r⟩
 | true=>obtain ⟨o,e,r⟩:=x;exact ⟨o,k o e,r⟩
theorem ItAt.obj {b:Bool}{h:Heap}{u l:Addr}{j:Nat}(x:ItAt b h u l j):∃ o,h.get? u=some o/\∀ v,o.data≠.cell v:=by
 cases b with
 | false=>obtain ⟨o,e,c,d⟩:=x;exact ⟨o,e,fun v z=>by rw [d] at z;cases z⟩
 | true=>obtain ⟨o,e,c,d⟩:=x;exact ⟨o,e,fun v z=>by rw [d] at z;cases z⟩
theorem RD {b:Bool}{u l:Addr}{j:Nat}{xs:Array Value}{v:Value}{Q:Value->Shared->Prop}(a1:ItAt b s.heap u l j)(a2:SeqAt b s.heap l xs)(a3:xs[j]?=some v)
 (q:∀ h',ItAt b h' u l (j+1)->Heap.SameBut u s.heap h'->Q v { s with heap:=h' }):wpAny (model prog w) A (Builtin.SmallTypes.nextOf (.ref u)) Q E s:=by
 cases b with
 | false=>exact wpAny_nextOf_list_item a1 a2 a3 q
 | true=>exact VD a1 a2 a3 q
theorem J6c {b:Bool}{u l:Addr}{j:Nat}{xs:Array Value}{Q:Value->Shared->Prop}(a0:A.handled=none)(a1:ItAt b s.heap u l j)(a2:SeqAt b s.heap l xs)(a3:xs[j]?=none)
 (q:∀ h' e,Heap.ExtBut u s.heap h'->(∃ o,h'.get? e=some o/\o.cls=.type "StopIteration")->E (.ref e) { s with heap:=h' }):wpAny (model prog w) A (Builtin.SmallTypes.nextOf (.ref u)) Q E s:=by
 cases b with
 | false=>exact wpAny_nextOf_list_end a0 a1 a2 a3 q
 | true=>exact YV a0 a1 a2 a3 q
abbrev BQ (h:Heap)(T:Addr)(vs:Array Value):Prop:=h.get? T=some { cls:=.type "tuple",data:=.seq vs }
theorem ML {T:Addr}{vs:Array Value}{v:Value}{k:Nat}{Q:Unit->Shared->Prop}(hv:vs.size<=1000)(hT:BQ s.heap T vs)
 (q:∀ h',BQ h' T (vs.setIfInBounds k v)->Heap.SameBut T s.heap h'->Q () { s with heap:=h' }):wpAny (model prog w) A (updateSeq T (·.setIfInBounds k v)) Q E s:=by
 have z1:vs.size<=sizeLine:=Nat.le_trans hv Y1
 refine wpAny_updateSeq hT rfl (q _ ?_ (Heap.SameBut.update ..)) (hz:=z1) (_hz':=by simp;omega)
 show Heap.get? _ T=_
 rw [Heap.get?_update_self _ hT rfl];simp [Obj.mapSeq]
end
section
variable {X:Cx}{pins:List (Addr×Obj)}{σ:St}{H:Hp}{s:Shared}{h':Heap}
theorem Inv.zipped {fp:List Addr}{T:Addr}{o:HO}{t':Nat}(I:Inv X pins σ H s)(hf:∀ b∈fp,DV X pins H b)(k:∀ b o,b∉fp->s.heap.get? b=some o->h'.get? b=some o)(hT:s.heap.objs.size<=T)
 (new:ObjOk X.prog X.w (upd H T o) h' T o):Inv X pins σ (upd H T o) { s with heap:=h',toks:=t' }:=by
 have hn:H T=none:=I.hok.fresh hT
 have ne:∀ b u,s.heap.get? b=some u->b≠T:=fun b u e z=>absurd (Heap.lt_size e) (by rw [z];exact Nat.not_lt.mpr hT)
 have nfp:∀ b u,H b=some u->b∉fp:=fun b u e hb=>by rw [(hf b hb).1] at e;cases e
 refine I.step (g':=s.gens) (d':=s.drawn) (ch:=fp) (fun b hb=>?_) (fun b o _ _ hc e _=>k b o hc e) (fun b o _ _ hc e _=>⟨o.slots,k b o hc e⟩) (fun b u _ e n=>by rw [Q3 (ne b u e)];exact n)
  (fun b o hc e=>⟨o,k b o hc e⟩) (fun b xs e=>by rw [Q3 (Q4 e hn)];exact e) (fun b o u e=>by rw [Q3 (Q4 e hn)];exact e) (fun b ps e=>⟨#[],by rw [Q3 (Q4 e hn),e];simp⟩) (fun m hm=>?_) (fun b u e=>?_) I.bare
 · obtain ⟨_,f1,_,f3,f4,f5⟩:=hf b hb
   exact ⟨f3,f1,f4,f5⟩
 · obtain ⟨o,es,ep,ho,r⟩:=hm
   exact ⟨o,es,ep,k _ o (fun hb=>(hf _ hb).2.1 rfl) ho,r⟩
 · by_cases hb:b=T
   · subst hb
     rw [Q5] at e
     cases e
     exact new
   · rw [Q3 hb] at e
     refine (I.hok b u e).stay (fun c v hc q=>k c v ?_ q) (fun c q=>by rw [Q3 (Q4 q hn)];exact q) fun c xs q=>by rw [Q3 (Q4 q hn)];exact q
     rcases hc with z|z
     · rw [z];exact nfp b u e
     · exact nfp c _ z
theorem Inv.turnedL {fp:List Addr}{t':Nat}(I:Inv X pins σ H s)(hf:∀ b∈fp,DV X pins H b)(k:∀ b o,b∉fp->s.heap.get? b=some o->h'.get? b=some o):Inv X pins σ H { s with heap:=h',toks:=t' }:=by
 have nfp:∀ b u,H b=some u->b∉fp:=fun b u e hb=>by rw [(hf b hb).1] at e;cases e
 refine I.step (g':=s.gens) (d':=s.drawn) (ch:=fp) (fun b hb=>?_) (fun b o _ _ hc e _=>k b o hc e) (fun b o _ _ hc e _=>⟨o.slots,k b o hc e⟩) (fun b u _ e n=>n)
  (fun b o hc e=>⟨o,k b o hc e⟩) (fun b xs e=>e) (fun b o u e=>e) (fun b ps e=>⟨#[],by rw [e];simp⟩) (fun m hm=>?_) (fun b u e=>?_) I.bare
 · obtain ⟨_,f1,_,f3,f4,f5⟩:=hf b hb
   exact ⟨f3,f1,f4,f5⟩
 · obtain ⟨o,es,ep,ho,r⟩:=hm
   exact ⟨o,es,ep,k _ o (fun hb=>(hf _ hb).2.1 rfl) ho,r⟩
 · refine (I.hok b u e).stay (fun c v hc q=>k c v ?_ q) (fun c q=>q) fun c xs q=>q
   rcases hc with z|z
   · rw [z];exact nfp b u e
   · exact nfp c _ z
def SqX (K:Fg)(b:Bool)(H:Hp)(a:Addr)(xs:List V):Prop:=match b with|false=>SqL K H a xs|true=>SqT K H a xs
theorem Inv.seqX {b:Bool}{a:Addr}{xs:List V}(I:Inv X pins σ H s)(h:SqX X.K b H a xs):∃ its:List Value,Vals xs its/\SeqAt b s.heap a its.toArray/\xs.length<=sizeLine:=by
 cases b with
 | false=>obtain ⟨its,r,p,z⟩:=I.list h;exact ⟨its,r,p.isList,z⟩
 | true=>obtain ⟨its,r,p,z⟩:=I.tuple h;exact ⟨its,r,p,z⟩
theorem Inv.seqX_inj {b:Bool}{a:Addr}{xs ys:List V}(I:Inv X pins σ H s)(h:SqX X.K b H a xs)(h':SqX X.K b H a ys):xs=ys:=by
 cases b with
 | false=>exact I.list_inj h h'
 | true=>exact I.tuple_inj h h'
theorem Inv.seqX_ne {b:Bool}{a:Addr}{xs:List V}{c:Addr}(I:Inv X pins σ H s)(h:SqX X.K b H a xs)(f:DV X pins H c):a≠c:=by
 intro e
 subst e
 have base:∀ {o:Obj},X.base.get? a=some o->False:=fun {o} q=>by
  rcases f.2.2.2.1 with z|z
  · exact I.ok.noex a o q z
  · exact absurd (Heap.lt_size (I.ok.bs a o q).1) (Nat.not_lt.mpr z)
 cases b with
 | false =>
   rcases h with (h|⟨o,h⟩)|⟨o,_,_,h,_⟩
   · rw [f.1] at h;cases h
   · rw [f.1] at h;cases h
   · exact base (I.ok.mod.kin _ _ h)
 | true =>
   rcases h with (h|⟨o,h⟩)|⟨o,_,_,h,_⟩
   · rw [f.1] at h;cases h
   · rw [f.1] at h;cases h
   · exact base (I.ok.mod.kin _ _ h)
end
section
variable {prog:Program}{w:World}{A:Around}{E:Value->Shared->Prop}{s:Shared}
structure ZAp2 (z TI TO i1 i2 l1 l2:Addr):Prop where
 z_TI:z≠TI
 z_TO:z≠TO
 z_i1:z≠i1
 z_i2:z≠i2
 TI_z:TI≠z
 TI_TO:TI≠TO
 TI_i1:TI≠i1
 TI_i2:TI≠i2
 TO_z:TO≠z
 TO_TI:TO≠TI
 TO_i1:TO≠i1
 TO_i2:TO≠i2
 i1_z:i1≠z
 i1_TI:i1≠TI
 i1_TO:i1≠TO
 i1_i2:i1≠i2
 i2_z:i2≠z
 i2_TI:i2≠TI
 i2_TO:i2≠TO
 i2_i1:i2≠i1
 l1_z:l1≠z
 l1_TI:l1≠TI
 l1_TO:l1≠TO
 l1_i1:l1≠i1
 l1_i2:l1≠i2
 l2_z:l2≠z
 l2_TI:l2≠TI
 l2_TO:l2≠TO
 l2_i1:l2≠i1
 l2_i2:l2≠i2
theorem YA {b1 b2:Bool}{z TI TO i1 i2 l1 l2:Addr}{k:Nat}{xs1 xs2:Array Value}{x1 x2 a1 a2:Value}{Q:Value->Shared->Prop}(D:ZAp2 z TI TO i1 i2 l1 l2)(hz:IsZip s.heap z TI TO .none)(hI:BQ s.heap TI #[.ref i1,.ref i2])(hO:BQ s.heap TO #[a1,a2])(d1:ItAt b1 s.heap i1 l1 k)(g1:SeqAt b1 s.heap l1 xs1)(d2:ItAt b2 s.heap i2 l2 k)(g2:SeqAt b2 s.heap l2 xs2)
 (e1:xs1[k]?=some x1) (e2:xs2[k]?=some x2)
 (q:∀ h',IsZip h' z TI TO (rawInt s.heap.objs.size)->BQ h' TO #[x1,x2]->ItAt b1 h' i1 l1 (k+1)->ItAt b2 h' i2 l2 (k+1)->BQ h' s.heap.objs.size #[x1,x2]->(∀ c o,c≠z->c≠TO->c≠i1->c≠i2->s.heap.get? c=some o->h'.get? c=some o)->Q (.ref s.heap.objs.size) { s with heap:=h' }) :
 wpAny (model prog w) A (Builtin.«zip.__next__» ⟨[.ref z],[]⟩) (fun fin s'=>∃ v,fin=.done (.ret v)/\Q v s') E s:=by
 show wpAny _ _ (field (.ref z) 2 >>= _) _ _ _;refine wpAny_bind (wpAny_field hz rfl (x:=.bool false) rfl ?_)
 show wpAny _ _ (field (.ref z) 3 >>= _) _ _ _;refine wpAny_bind (wpAny_field hz rfl (x:=.ref TI) rfl ?_)
 refine wpAny_bind (wpAny_seqItems hI rfl ?_)
 show wpAny _ _ (Builtin.SmallTypes.ownedTupleIsFree (.ref z) >>= _) _ _ _;refine wpAny_bind ?_;unfold Builtin.SmallTypes.ownedTupleIsFree
 refine wpAny_bind (wpAny_field hz rfl (x:=.none) rfl (wpAny_pure ?_));simp only [if_true];refine wpAny_bind (wpAny_rule ?_)
 refine wpAny_bind (wpAny_field hz rfl (x:=.ref TO) rfl ?_);refine wpAny_bind (wpAny_setField_rec hz (by simp) fun p0 z0 m0=>?_)
 replace z0:IsZip p0 z TI TO .ellipsis:=z0
 have y0:BQ p0 TO #[a1,a2]:=m0.extBut _ _ D.TO_z hO
 have w0:∀ c o,c≠z->c≠TO->c≠i1->c≠i2->s.heap.get? c=some o->p0.get? c=some o:=fun c o c1 _ _ _ e=>m0.extBut _ _ c1 e
 have r0:p0.objs.size=s.heap.objs.size:=m0.1
 have d1_0:ItAt b1 p0 i1 l1 k:=d1.at fun o e=>m0.extBut _ _ D.i1_z e
 have g1_0:SeqAt b1 p0 l1 xs1:=g1.at fun o e=>m0.extBut _ _ D.l1_z e
 have d2_0:ItAt b2 p0 i2 l2 k:=d2.at fun o e=>m0.extBut _ _ D.i2_z e
 have g2_0:SeqAt b2 p0 l2 xs2:=g2.at fun o e=>m0.extBut _ _ D.l2_z e
 refine wpAny_bind ?_;simp only [List.zipIdx_cons,List.zipIdx_nil,List.forIn_cons,List.forIn_nil]
 refine wpAny_bind (wpAny_bind (wpAny_onRaise ?_));show wpAny _ _ (Builtin.SmallTypes.nextOf (.ref i1) >>= _) _ _ _
 refine wpAny_bind (RD d1_0 g1_0 e1 fun u1 t1 n1=>wpAny_pure ?_)
 have v1:BQ u1 TO #[a1,a2]:=n1.extBut _ _ D.TO_i1 y0
 refine wpAny_bind (wpAny_seqItems v1 rfl ?_);refine wpAny_bind (ML (Nat.le_of_ble_eq_true rfl) v1 fun p1 y1 m1=>?_)
 replace y1:BQ p1 TO #[x1,a2]:=y1
 have z1:IsZip p1 z TI TO .ellipsis:=m1.extBut _ _ D.z_TO (n1.extBut _ _ D.z_i1 z0)
 have w1:∀ c o,c≠z->c≠TO->c≠i1->c≠i2->s.heap.get? c=some o->p1.get? c=some o:=fun c o c1 c2 c3 c4 e=>m1.extBut _ _ c2 (n1.extBut _ _ c3 (w0 c o c1 c2 c3 c4 e))
 have r1:p1.objs.size=s.heap.objs.size:=by rw [m1.1,n1.1];exact r0
 have d1_1:ItAt b1 p1 i1 l1 (k+1):=t1.at fun o e=>m1.extBut _ _ D.i1_TO e
 have d2_1:ItAt b2 p1 i2 l2 k:=(d2_0.at fun o e=>n1.extBut _ _ D.i2_i1 e).at fun o e=>m1.extBut _ _ D.i2_TO e
 have g2_1:SeqAt b2 p1 l2 xs2:=(g2_0.at fun o e=>n1.extBut _ _ D.l2_i1 e).at fun o e=>m1.extBut _ _ D.l2_TO e
 refine wpAny_bind (wpAny_letGo (wpAny_pure ?_))
 refine wpAny_bind (wpAny_bind (wpAny_onRaise ?_));show wpAny _ _ (Builtin.SmallTypes.nextOf (.ref i2) >>= _) _ _ _
 refine wpAny_bind (RD d2_1 g2_1 e2 fun u2 t2 n2=>wpAny_pure ?_)
 have v2:BQ u2 TO #[x1,a2]:=n2.extBut _ _ D.TO_i2 y1
 refine wpAny_bind (wpAny_seqItems v2 rfl ?_);refine wpAny_bind (ML (Nat.le_of_ble_eq_true rfl) v2 fun p2 y2 m2=>?_)
 replace y2:BQ p2 TO #[x1,x2]:=y2
 have z2:IsZip p2 z TI TO .ellipsis:=m2.extBut _ _ D.z_TO (n2.extBut _ _ D.z_i2 z1)
 have w2:∀ c o,c≠z->c≠TO->c≠i1->c≠i2->s.heap.get? c=some o->p2.get? c=some o:=fun c o c1 c2 c3 c4 e=>m2.extBut _ _ c2 (n2.extBut _ _ c4 (w1 c o c1 c2 c3 c4 e))
 have r2:p2.objs.size=s.heap.objs.size:=by rw [m2.1,n2.1];exact r1
 have d1_2:ItAt b1 p2 i1 l1 (k+1):=(d1_1.at fun o e=>n2.extBut _ _ D.i1_i2 e).at fun o e=>m2.extBut _ _ D.i1_TO e
 have d2_2:ItAt b2 p2 i2 l2 (k+1):=t2.at fun o e=>m2.extBut _ _ D.i2_TO e
 refine wpAny_bind (wpAny_letGo (wpAny_pure (wpAny_pure ?_)))
 refine wpAny_bind (wpAny_seqItems y2 rfl ?_);refine wpAny_bind (wpAny_newTuple ?_)
 have zl:z<p2.objs.size:=Heap.lt_size z2
 show wpAny _ _ (Builtin.SmallTypes.ownedTupleHandOut (.ref z) (.ref p2.objs.size) >>= _) _ _ _;refine wpAny_bind ?_;unfold Builtin.SmallTypes.ownedTupleHandOut
 have za:IsZip (p2.push { cls:=.type "tuple",data:=.seq #[x1,x2] }) z TI TO .ellipsis:=Heap.get?_push_of_some _ z2
 refine wpAny_bind (wpAny_setField_rec za (by simp) fun pa zb ma=>?_)
 replace zb:IsZip pa z TI TO (rawInt p2.objs.size):=zb
 refine wpAny_setField_rec zb (by simp) fun pb zc mb=>?_
 replace zc:IsZip pb z TI TO (rawInt p2.objs.size):=zc
 have up:∀ c o,c≠z->p2.get? c=some o->pb.get? c=some o:=fun c o c1 e=>mb.extBut _ _ c1 (ma.extBut _ _ c1 (Heap.get?_push_of_some _ e))
 have tt:BQ pb p2.objs.size #[x1,x2]:=mb.extBut _ _ (Nat.ne_of_gt zl) (ma.extBut _ _ (Nat.ne_of_gt zl) (Heap.get?_push_size _ rfl))
 rw [r2] at zc tt
 refine wpAny_pure ⟨_,rfl,?_⟩
 show Q (.ref p2.objs.size) _
 rw [r2]
 exact q pb zc (up _ _ D.TO_z y2) (d1_2.at fun o e=>up _ o D.i1_z e) (d2_2.at fun o e=>up _ o D.i2_z e) tt fun c o c1 c2 c3 c4 e=>up c o c1 (w2 c o c1 c2 c3 c4 e)
theorem J0e {b1 b2:Bool}{z TI TO i1 i2 l1 l2:Addr}{k:Nat}{xs1 xs2:Array Value}{a1 a2:Value}{Q:Fin->Shared->Prop}(hh:A.handled=none)(D:ZAp2 z TI TO i1 i2 l1 l2)(hz:IsZip s.heap z TI TO .none)(hI:BQ s.heap TI #[.ref i1,.ref i2])(hO:BQ s.heap TO #[a1,a2])(d1:ItAt b1 s.heap i1 l1 k)(g1:SeqAt b1 s.heap l1 xs1)(d2:ItAt b2 s.heap i2 l2 k)(g2:SeqAt b2 s.heap l2 xs2)
 (e1:xs1[k]?=none) (q:∀ h' e,(∀ c o,c≠z->c≠TO->c≠i1->c≠i2->s.heap.get? c=some o->h'.get? c=some o)->(∃ o,h'.get? e=some o/\o.cls=.type "StopIteration")->E (.ref e) { s with heap:=h' }) :
 wpAny (model prog w) A (Builtin.«zip.__next__» ⟨[.ref z],[]⟩) Q E s:=by
 show wpAny _ _ (field (.ref z) 2 >>= _) _ _ _;refine wpAny_bind (wpAny_field hz rfl (x:=.bool false) rfl ?_)
 show wpAny _ _ (field (.ref z) 3 >>= _) _ _ _;refine wpAny_bind (wpAny_field hz rfl (x:=.ref TI) rfl ?_)
 refine wpAny_bind (wpAny_seqItems hI rfl ?_)
 show wpAny _ _ (Builtin.SmallTypes.ownedTupleIsFree (.ref z) >>= _) _ _ _;refine wpAny_bind ?_;unfold Builtin.SmallTypes.ownedTupleIsFree
 refine wpAny_bind (wpAny_field hz rfl (x:=.none) rfl (wpAny_pure ?_));simp only [if_true];refine wpAny_bind (wpAny_rule ?_)
 refine wpAny_bind (wpAny_field hz rfl (x:=.ref TO) rfl ?_);refine wpAny_bind (wpAny_setField_rec hz (by simp) fun p0 z0 m0=>?_)
 replace z0:IsZip p0 z TI TO .ellipsis:=z0
 have y0:BQ p0 TO #[a1,a2]:=m0.extBut _ _ D.TO_z hO
 have w0:∀ c o,c≠z->c≠TO->c≠i1->c≠i2->s.heap.get? c=some o->p0.get? c=some o:=fun c o c1 _ _ _ e=>m0.extBut _ _ c1 e
 have r0:p0.objs.size=s.heap.objs.size:=m0.1
 have d1_0:ItAt b1 p0 i1 l1 k:=d1.at fun o e=>m0.extBut _ _ D.i1_z e
 have g1_0:SeqAt b1 p0 l1 xs1:=g1.at fun o e=>m0.extBut _ _ D.l1_z e
 have d2_0:ItAt b2 p0 i2 l2 k:=d2.at fun o e=>m0.extBut _ _ D.i2_z e
 have g2_0:SeqAt b2 p0 l2 xs2:=g2.at fun o e=>m0.extBut _ _ D.l2_z e
 refine wpAny_bind ?_;simp only [List.zipIdx_cons,List.zipIdx_nil,List.forIn_cons,List.forIn_nil]
 refine wpAny_bind (wpAny_bind (wpAny_onRaise ?_));show wpAny _ _ (Builtin.SmallTypes.nextOf (.ref i1) >>= _) _ _ _
 refine wpAny_bind (J6c hh d1_0 g1_0 e1 fun u1 e n1 he=>?_)
 obtain ⟨oe,f1,f2⟩:=he
 have z1:IsZip u1 z TI TO .ellipsis:=n1 _ _ D.z_i1 z0
 have ez:e≠z:=fun x=>by subst x;rw [z1] at f1;cases f1;simp at f2
 refine wpAny_setField_rec z1 (by simp) fun p1 _ m1=>q p1 e (fun c o c1 c2 c3 c4 x=>m1.extBut _ _ c1 (n1 _ _ c3 (w0 c o c1 c2 c3 c4 x))) ⟨oe,m1.extBut _ _ ez f1,f2⟩
end
section
variable {prog:Program}{w:World}{A:Around}{E:Value->Shared->Prop}{s:Shared}
def BC (b:Bool)(l:Addr):Obj:=match b with
 | false=>{ cls:=.type "list_iterator",data:=.fields #[.ref l,.int 0 0] }
 | true=>{ cls:=.type "tuple_iterator",data:=.fields #[.ref l,.int 0 0] }
theorem TF {b:Bool}{h:Heap}{u l:Addr}(e:h.get? u=some (BC b l)):ItAt b h u l 0:=by
 cases b with
 | false=>exact ⟨_,e,rfl,rfl⟩
 | true=>exact ⟨_,e,rfl,rfl⟩
theorem KY (b:Bool)(l:Addr):(BC b l).isFreed=false:=by cases b<;>rfl
theorem RC {b:Bool}{l:Addr}{xs:Array Value}{Q:Value->Shared->Prop}(a:SeqAt b s.heap l xs)(q:Q (.ref s.heap.objs.size) { s with heap:=s.heap.push (BC b l) }):wpAny (model prog w) A (pyIter (.ref l)) Q E s:=by
 cases b with
 | false=>exact wpAny_pyIter_list a q
 | true=>exact wpAny_pyIter_tuple a q
end
section
variable {prog:Program}{w:World}{A:Around}{E:Value->Shared->Prop}{s:Shared}
abbrev zH2 (b1 b2:Bool)(l1 l2:Addr)(s:Shared):Heap:=(((((s.heap.push (BC b1 l1)).push (BC b2 l2)).push { cls:=.type "tuple",data:=.seq #[.ref s.heap.objs.size,.ref (s.heap.objs.size+1)] }).push { cls:=.type "tuple",data:=.seq #[.none,.none] }).push { cls:=.type "zip",data:=.fields #[.none,.bool false,.bool false,.ref (s.heap.objs.size+2),.ref (s.heap.objs.size+3)] })
theorem VE (b1 b2:Bool)(l1 l2:Addr)(xs1 xs2:Array Value) :
 Meets (Builtin.«zip.__new__» ⟨[.type "zip",.ref l1,.ref l2],[]⟩) (fun _ R s=>SeqAt b1 s.heap l1 xs1/\SeqAt b2 s.heap l2 xs2/\R (.ok (.ret (.ref (s.heap.objs.size+4)))) { s with heap:=zH2 b1 b2 l1 l2 s }) :=
 .of_wp fun prog w A R s h=>by
  obtain ⟨hp,g,d,tk,os⟩:=s;obtain ⟨k1,k2,h⟩:=h
  have hs:=sub_zip
  have K1:SeqAt b1 (Shared.heap ⟨hp,g,d,tk,os⟩) l1 xs1:=k1.at fun o e=>e
  have K2:SeqAt b2 (Shared.heap ⟨(hp.push (BC b1 l1)),g,d,tk,os⟩) l2 xs2:=k2.at fun o e=>Heap.get?_push_of_some _ (e)
  wp_walk using RC K1,RC K2
  simp only [Heap.size_push] at *
  exact ⟨_,rfl,h⟩
theorem ZY {b1 b2:Bool}{l1 l2:Addr}{xs1 xs2:Array Value}{Q:Value->Shared->Prop}(k1:SeqAt b1 s.heap l1 xs1)(k2:SeqAt b2 s.heap l2 xs2)
 (q:∀ h',IsZip h' (s.heap.objs.size+4) (s.heap.objs.size+2) (s.heap.objs.size+3) .none->BQ h' (s.heap.objs.size+2) #[.ref s.heap.objs.size,.ref (s.heap.objs.size+1)]->BQ h' (s.heap.objs.size+3) #[.none,.none]->ItAt b1 h' (s.heap.objs.size) l1 0->ItAt b2 h' (s.heap.objs.size+1) l2 0->(∀ c o,s.heap.get? c=some o->h'.get? c=some o)->Q (.ref (s.heap.objs.size+4)) { s with heap:=h' }) :
 wpAny (model prog w) A (call (.type "zip") [.ref l1,.ref l2]) Q E s:=by
 refine callType_new F.called_zip (by decide) (F.typeCall_zip_2 _ _) (F.newCall_zip_2 _ _) (fun obj=>F.args_object_init_3 obj _ _) F.entry_zip_new (VE b1 b2 l1 l2 xs1 xs2) ⟨k1,k2,?_⟩
 have z1:(s.heap.push (BC b1 l1)).objs.size=s.heap.objs.size+1:=by exact Heap.size_push ..
 have z2:((s.heap.push (BC b1 l1)).push (BC b2 l2)).objs.size=s.heap.objs.size+2:=by rw [Heap.size_push,z1]
 have z3:(((s.heap.push (BC b1 l1)).push (BC b2 l2)).push { cls:=.type "tuple",data:=.seq #[.ref s.heap.objs.size,.ref (s.heap.objs.size+1)] }).objs.size=s.heap.objs.size+3:=by rw [Heap.size_push,z2]
 have z4:((((s.heap.push (BC b1 l1)).push (BC b2 l2)).push { cls:=.type "tuple",data:=.seq #[.ref s.heap.objs.size,.ref (s.heap.objs.size+1)] }).push { cls:=.type "tuple",data:=.seq #[.none,.none] }).objs.size=s.heap.objs.size+4:=by rw [Heap.size_push,z3]
 have g0:(zH2 b1 b2 l1 l2 s).get? s.heap.objs.size=some _:=Heap.get?_push_of_some _ (Heap.get?_push_of_some _ (Heap.get?_push_of_some _ (Heap.get?_push_of_some _ (Heap.get?_push_size _ (KY _ _)))))
 have g1:(zH2 b1 b2 l1 l2 s).get? (s.heap.push (BC b1 l1)).objs.size=some _:=Heap.get?_push_of_some _ (Heap.get?_push_of_some _ (Heap.get?_push_of_some _ (Heap.get?_push_size _ (KY _ _))))
 rw [z1] at g1
 have g2:(zH2 b1 b2 l1 l2 s).get? ((s.heap.push (BC b1 l1)).push (BC b2 l2)).objs.size=some _:=Heap.get?_push_of_some _ (Heap.get?_push_of_some _ (Heap.get?_push_size _ rfl))
 rw [z2] at g2
 have g3:(zH2 b1 b2 l1 l2 s).get? (((s.heap.push (BC b1 l1)).push (BC b2 l2)).push { cls:=.type "tuple",data:=.seq #[.ref s.heap.objs.size,.ref (s.heap.objs.size+1)] }).objs.size=some _:=Heap.get?_push_of_some _ (Heap.get?_push_size _ rfl)
 rw [z3] at g3
 have g4:(zH2 b1 b2 l1 l2 s).get? ((((s.heap.push (BC b1 l1)).push (BC b2 l2)).push { cls:=.type "tuple",data:=.seq #[.ref s.heap.objs.size,.ref (s.heap.objs.size+1)] }).push { cls:=.type "tuple",data:=.seq #[.none,.none] }).objs.size=some _:=Heap.get?_push_size _ rfl
 rw [z4] at g4
 exact ⟨⟨_,g4,rfl⟩,q _ g4 g2 g3 (TF g0) (TF g1) fun c o x=>Heap.get?_push_of_some _ (Heap.get?_push_of_some _ (Heap.get?_push_of_some _ (Heap.get?_push_of_some _ (Heap.get?_push_of_some _ x))))⟩
end
def Q4r (K:Fg)(b1 b2:Bool)(l1 l2:Addr):It :=
 ⟨fun i H=>∃ ys1 ys2 y1 y2,SqX K b1 H l1 ys1/\ys1[i]?=some y1/\SqX K b2 H l2 ys2/\ys2[i]?=some y2,
  fun i H v H'=>∃ t y1 y2,v=.ref t/\H t=none/\H'=upd H t (.tup [y1,y2])/\(∀ ys,SqX K b1 H l1 ys->ys[i]?=some y1)/\(∀ ys,SqX K b2 H l2 ys->ys[i]?=some y2),
  fun i H=>(∃ ys,SqX K b1 H l1 ys/\ys.length<=i)/\(∃ ys,SqX K b2 H l2 ys)⟩
structure ZFp2 (z TI TO i1 i2:Addr):Prop where
 z_TI:z≠TI
 z_TO:z≠TO
 z_i1:z≠i1
 z_i2:z≠i2
 TI_z:TI≠z
 TI_TO:TI≠TO
 TI_i1:TI≠i1
 TI_i2:TI≠i2
 TO_z:TO≠z
 TO_TI:TO≠TI
 TO_i1:TO≠i1
 TO_i2:TO≠i2
 i1_z:i1≠z
 i1_TI:i1≠TI
 i1_TO:i1≠TO
 i1_i2:i1≠i2
 i2_z:i2≠z
 i2_TI:i2≠TI
 i2_TO:i2≠TO
 i2_i1:i2≠i1
def Q8i (b1 b2:Bool)(z TI TO i1 i2 l1 l2:Addr)(i:Nat)(h:Heap):Prop:=IsZip h z TI TO .none/\BQ h TI #[.ref i1,.ref i2]/\(∃ a1 a2,BQ h TO #[a1,a2])/\ItAt b1 h i1 l1 i/\ItAt b2 h i2 l2 i
theorem YC {elts:List Expr}{c1}{tpos:Pos}{b1 b2:Bool}{z TI TO i1 i2 l1 l2:Addr}(Z:ZFp2 z TI TO i1 i2):Turn P w K (.Tuple elts c1 tpos) (Q4r K b1 b2 l1 l2) [z,TI,TO,i1,i2] z (Q8i b1 b2 z TI TO i1 i2 l1 l2) where
 mem:=by simp
 obj:=fun i h st b hb=>by
  obtain ⟨s1,s2,⟨a1,a2,s3⟩,d1,d2⟩:=st
  simp only [List.mem_cons,List.not_mem_nil,or_false] at hb
  rcases hb with rfl|rfl|rfl|rfl|rfl
  · exact ⟨_,s1,fun v q=>by cases q⟩
  · exact ⟨_,s2,fun v q=>by cases q⟩
  · exact ⟨_,s3,fun v q=>by cases q⟩
  · exact d1.obj
  · exact d2.obj
 keep:=fun i h h' st k=>by
  obtain ⟨s1,s2,⟨a1,a2,s3⟩,d1,d2⟩:=st
  exact ⟨k z (by simp) _ s1,k TI (by simp) _ s2,⟨a1,a2,k TO (by simp) _ s3⟩,d1.at fun o e=>k i1 (by simp) o e,d2.at fun o e=>k i2 (by simp) o e⟩
 item:=by
  intro X hP hw hK hc i pins s σ H E I hf st hg
  subst hP hw hK
  obtain ⟨ys1,ys2,y1,y2,h1,q1,h2,q2⟩:=hg
  obtain ⟨s1,s2,⟨a1,a2,s3⟩,d1,d2⟩:=st
  obtain ⟨v1,r1,p1,_⟩:=I.seqX h1
  obtain ⟨u1,m1,t1⟩:=r1.get q1
  obtain ⟨v2,r2,p2,_⟩:=I.seqX h2
  obtain ⟨u2,m2,t2⟩:=r2.get q2
  have D:ZAp2 z TI TO i1 i2 l1 l2:={ z_TI:=Z.z_TI,z_TO:=Z.z_TO,z_i1:=Z.z_i1,z_i2:=Z.z_i2,TI_z:=Z.TI_z,TI_TO:=Z.TI_TO,TI_i1:=Z.TI_i1,TI_i2:=Z.TI_i2,TO_z:=Z.TO_z,TO_TI:=Z.TO_TI,TO_i1:=Z.TO_i1,TO_i2:=Z.TO_i2,i1_z:=Z.i1_z,i1_TI:=Z.i1_TI,i1_TO:=Z.i1_TO,i1_i2:=Z.i1_i2,i2_z:=Z.i2_z,i2_TI:=Z.i2_TI,i2_TO:=Z.i2_TO,i2_i1:=Z.i2_i1,l1_z:=I.seqX_ne h1 (hf z (by simp)),l1_TI:=I.seqX_ne h1 (hf TI (by simp)),l1_TO:=I.seqX_ne h1 (hf TO (by simp)),l1_i1:=I.seqX_ne h1 (hf i1 (by simp)),l1_i2:=I.seqX_ne h1 (hf i2 (by simp)),l2_z:=I.seqX_ne h2 (hf z (by simp)),l2_TI:=I.seqX_ne h2 (hf TI (by simp)),l2_TO:=I.seqX_ne h2 (hf TO (by simp)),l2_i1:=I.seqX_ne h2 (hf i1 (by simp)),l2_i2:=I.seqX_ne h2 (hf i2 (by simp)) }
  have hT:s.TypeIs (.ref z) "zip":=⟨_,s1,rfl⟩
  have szn:∀ b∈[z,TI,TO,i1,i2],b≠s.heap.objs.size:=fun b hb e=>by
   simp only [List.mem_cons,List.not_mem_nil,or_false] at hb
   rcases hb with rfl|rfl|rfl|rfl|rfl
   · exact Nat.lt_irrefl _ (e▸Heap.lt_size s1)
   · exact Nat.lt_irrefl _ (e▸Heap.lt_size s2)
   · exact Nat.lt_irrefl _ (e▸Heap.lt_size s3)
   · obtain ⟨_,w1,_⟩:=d1.obj;exact Nat.lt_irrefl _ (e▸Heap.lt_size w1)
   · obtain ⟨_,w1,_⟩:=d2.obj;exact Nat.lt_irrefl _ (e▸Heap.lt_size w1)
  unfold pyNext
  refine wpAny_bind (wpAny_attempt (wpAny_callSpecial?_slot (name:=Str.ofString "__next__") hT F.slot_zip_next (wpAny_call_entry F.slot_zip_next hT F.entry_zip_next (YA D s1 s2 s3 d1 p1 d2 p2 (x1:=u1) (by simpa using m1) (x2:=u2) (by simpa using m2) fun h' e1 e2 f1 f2 e3 kp=>wpAny_pure ?_) (F.args_zip_next_1 _))))
  refine ⟨_,rfl,wpAny_letOwnedTupleGo_zip (s:={ s with heap:=h' }) e1 fun hq e4 sb=>?_⟩
  have up:∀ b o,b≠z->h'.get? b=some o->hq.get? b=some o:=fun b o hb e=>sb.extBut _ _ hb e
  have I2:Inv X pins σ (upd H s.heap.objs.size (.tup [y1,y2])) { s with heap:=hq }:=I.zipped (t':=s.toks) (fp:=[z,TI,TO,i1,i2]) hf (fun b o hb e=>up b o (fun x=>hb (by simp [x])) (kp b o (fun x=>hb (by simp [x])) (fun x=>hb (by simp [x])) (fun x=>hb (by simp [x])) (fun x=>hb (by simp [x])) e)) (Nat.le_refl _)
   ⟨Nat.le_trans (Nat.le_of_ble_eq_true rfl) Y1,[u1,u2],.cons t1 (.cons t2 (.nil)),⟨_,up _ _ (Ne.symm (szn z (by simp))) e3,rfl,_,rfl⟩⟩
  refine ⟨.ref s.heap.objs.size,_,I2,rfl,⟨_,y1,y2,rfl,I.hok.fresh (Nat.le_refl _),rfl,fun ys hy=>by rw [I.seqX_inj hy h1];exact q1,fun ys hy=>by rw [I.seqX_inj hy h2];exact q2⟩,⟨e4,up _ _ D.TI_z (kp _ _ D.TI_z D.TI_TO D.TI_i1 D.TI_i2 s2),⟨_,_,up _ _ D.TO_z e2⟩,f1.at fun o e=>up _ o D.i1_z e,f2.at fun o e=>up _ o D.i2_z e⟩,fun b hb=>?_⟩
  rw [Q3 (szn b hb)]
  exact (hf b hb).1
 done:=by
  intro X hP hw hK hc i pins s σ H E I hf st hg
  subst hP hw hK
  obtain ⟨⟨ys1,h1,q1⟩,⟨ys2,h2⟩⟩:=hg
  obtain ⟨s1,s2,⟨a1,a2,s3⟩,d1,d2⟩:=st
  obtain ⟨v1,r1,p1,_⟩:=I.seqX h1
  obtain ⟨v2,r2,p2,_⟩:=I.seqX h2
  have D:ZAp2 z TI TO i1 i2 l1 l2:={ z_TI:=Z.z_TI,z_TO:=Z.z_TO,z_i1:=Z.z_i1,z_i2:=Z.z_i2,TI_z:=Z.TI_z,TI_TO:=Z.TI_TO,TI_i1:=Z.TI_i1,TI_i2:=Z.TI_i2,TO_z:=Z.TO_z,TO_TI:=Z.TO_TI,TO_i1:=Z.TO_i1,TO_i2:=Z.TO_i2,i1_z:=Z.i1_z,i1_TI:=Z.i1_TI,i1_TO:=Z.i1_TO,i1_i2:=Z.i1_i2,i2_z:=Z.i2_z,i2_TI:=Z.i2_TI,i2_TO:=Z.i2_TO,i2_i1:=Z.i2_i1,l1_z:=I.seqX_ne h1 (hf z (by simp)),l1_TI:=I.seqX_ne h1 (hf TI (by simp)),l1_TO:=I.seqX_ne h1 (hf TO (by simp)),l1_i1:=I.seqX_ne h1 (hf i1 (by simp)),l1_i2:=I.seqX_ne h1 (hf i2 (by simp)),l2_z:=I.seqX_ne h2 (hf z (by simp)),l2_TI:=I.seqX_ne h2 (hf TI (by simp)),l2_TO:=I.seqX_ne h2 (hf TO (by simp)),l2_i1:=I.seqX_ne h2 (hf i1 (by simp)),l2_i2:=I.seqX_ne h2 (hf i2 (by simp)) }
  have hT:s.TypeIs (.ref z) "zip":=⟨_,s1,rfl⟩
  have hl:=r1.length
  unfold pyNext
  refine wpAny_bind (wpAny_attempt (wpAny_callSpecial?_slot (name:=Str.ofString "__next__") hT F.slot_zip_next (wpAny_call_entry F.slot_zip_next hT F.entry_zip_next (J0e (I.ok.hd hc) D s1 s2 s3 d1 p1 d2 p2 (by simp;omega) fun h' e kp he=>?_) (F.args_zip_next_1 _))))
  obtain ⟨oe,f1,f2⟩:=he
  refine wpAny_bind (wpAny_isInstance (T:="StopIteration") (b:=true) ⟨oe,f1,f2⟩ isSubtype_stop (wpAny_pure ⟨rfl,?_⟩))
  exact I.turnedL (t':=s.toks) (fp:=[z,TI,TO,i1,i2]) hf fun b o hb e=>kp b o (fun x=>hb (by simp [x])) (fun x=>hb (by simp [x])) (fun x=>hb (by simp [x])) (fun x=>hb (by simp [x])) e
 self:=fun _ _ _ _ _ st h=>wpAny_pyIter_zip st.1 h
def J3z (K:Fg)(b1 b2:Bool)(ta:TA):TI:=fun σ H R=>ta σ H fun vs H1=>∃ l1 l2,vs=[.ref l1,.ref l2]/\(∃ ys,SqX K b1 H1 l1 ys)/\(∃ ys,SqX K b2 H1 l2 ys)/\R (Q4r K b1 b2 l1 l2) H1
theorem J6s {X:Cx}{elts:List Expr}{c1}{tpos:Pos}(K:Fg)(hK:X.K=K)(b1 b2:Bool){e1 e2:Expr}{ta:TA}{p pos:Pos}(hg:Gl X "zip") (hm:X.mg "zip" = none) (ha:PA X [e1,e2] ta)
 (hs:starEach [e1,e2] X.env=[(false,eval e1 X.env),(false,eval e2 X.env)]:=by rfl) (hs2:starEach [e2] X.env=[(false,eval e2 X.env)]:=by rfl) :
 PI X (.Tuple elts c1 tpos) (.Call (.Name "zip" p) [e1,e2] [] pos) (J3z K b1 b2 ta):=by
 subst hK
 intro pins s σ H R I h
 refine Call_ (KR I hg hm Q4e (PyProof.Rows.callWith_type1 (thn (ha pos pins s σ H _ I h) fun us s1 ⟨vs,H1,I1,r1,q1⟩=>?_) (by rw [hs,hs2]) (by rw [hs2];rfl)))
 obtain ⟨l1,l2,e,⟨ys1,h1⟩,⟨ys2,h2⟩,q⟩:=q1
 subst e
 obtain ⟨u1,u2,rfl,t1,t2⟩:=WA r1
 cases t1
 cases t2
 obtain ⟨v1,r1,p1,_⟩:=I1.seqX h1
 obtain ⟨v2,r2,p2,_⟩:=I1.seqX h2
 refine ZY p1 p2 fun h' f1 f2 f3 g1 g2 kp=>?_
 refine wpAny_pyIter_zip (s:={ s1 with heap:=h' }) f1 ?_
 refine ⟨s1.heap.objs.size+4,[s1.heap.objs.size+4,s1.heap.objs.size+2,s1.heap.objs.size+3,s1.heap.objs.size,s1.heap.objs.size+1],_,_,H1,rfl,I1.kept (t':=s1.toks) kp,YC (b1:=b1) (TI:=s1.heap.objs.size+2) (TO:=s1.heap.objs.size+3) (i1:=s1.heap.objs.size) (i2:=s1.heap.objs.size+1) (l1:=l1) (l2:=l2) ⟨by show (_:Nat)≠_;omega,by show (_:Nat)≠_;omega,by show (_:Nat)≠_;omega,by show (_:Nat)≠_;omega,by show (_:Nat)≠_;omega,by show (_:Nat)≠_;omega,by show (_:Nat)≠_;omega,by show (_:Nat)≠_;omega,by show (_:Nat)≠_;omega,by show (_:Nat)≠_;omega,by show (_:Nat)≠_;omega,by show (_:Nat)≠_;omega,by show (_:Nat)≠_;omega,by show (_:Nat)≠_;omega,by show (_:Nat)≠_;omega,by show (_:Nat)≠_;omega,by show (_:Nat)≠_;omega,by show (_:Nat)≠_;omega,by show (_:Nat)≠_;omega,by show (_:Nat)≠_;omega⟩,⟨f1,f2,⟨_,_,f3⟩,g1,g2⟩,fun b hb=>?_,q⟩
 have hge:s1.heap.objs.size<=b:=by
  simp only [List.mem_cons,List.not_mem_nil,or_false] at hb
  rcases hb with rfl|rfl|rfl|rfl|rfl<;>first|exact Nat.le_refl _|exact Nat.le_add_right _ _
 exact I1.fpOk hge (I1.hok.fresh hge)
theorem YE {X:Cx}(K:Fg)(h:X.K=K):SlR X (J1n K):=by subst h;exact J6e
section
variable {X:Cx}{x:Str}{C:Addr}{bm bmN:List Value}{newId Bn inN B nid initId:String}{e0:Expr}{rest:List Expr}{t:TA}{np cpos pos:Pos}
theorem J1s (O:OwnCls x C bm newId X.mg X.base)(Fn:ExcBaseFacts Bn newId inN bmN)(hBn:bm.contains (.type Bn)=true)(FB:ExcBaseFacts B nid initId bm)(hc:X.calm=true)(hg:Gl X x)(E:XK)
 (hx:∀ (pins:List (Addr×Obj)) (σ:St) (H:Hp) (s:Shared) (h':Heap) (e:Addr) (us:List Value),Inv X pins σ H s->Heap.MadeExcOf s.heap h' e (.ref C) us->E (.ref C) none H->X.xe (.ref e) { s with heap:=h' })
 (ha:PA X (e0::rest) t) (hz:∀ σ H Q,t σ H Q->t σ H fun vs H1=>vs.length<=sizeLine/\Q vs H1)
 (he:starEach (e0::rest) X.env=(false,eval e0 X.env)::starEach rest X.env:=by rfl) (hpl:(backTo cpos (starEach rest X.env)).any (·.1)=false:=by rfl) (hd:(x==("__debug__" : Str))=false:=by decide) :
 PS X (.Raise (some (.Call (.Name x np) (e0::rest) [] cpos)) none pos) (fun _ σ H=>t σ H fun _ H1=>E (.ref C) none H1):=by
 intro pins s σ H D I q
 obtain ⟨tl,N,nm,qn,bs,hdct,sn,sub,ab,col,dd,k0,k1,k2,k3,k5,mN,hC,hN,hni,T⟩:=O.obj
 refine wpAny_Raise_call_subU (C:=C) (nm:=nm) (q:=qn) (N:=N) (bs:=bs) (bm:=tl) (hdct:=hdct) (sn:=sn) (sub:=sub) (ab:=ab) (col:=col) (dd:=dd) (k0:=k0) (k1:=k1) (k2:=k2) (k3:=k3) (k5:=k5)
  Fn hBn FB (mN:=mN) (T.hasType FB.hasBase) (I.ok.hd hc) (by rw [he];show (false||(backTo cpos (starEach rest X.env)).any (·.1))=false;rw [hpl];rfl) hni (JC I hg O.bound ⟨rfl,?_⟩ hd)
 have h1:=ha cpos pins s σ H _ I (hz _ _ _ q)
 rw [he] at h1 ⊢
 refine Calls.evalArgs_plain (wpAny_mono h1 (fun us s2 ⟨vs,H1,I1,r,z,w⟩=>⟨rfl,by rw [<- r.length];exact z,I1.bk _ _ hC,hN.keeps I1.bk,T.keeps I1.bk,fun h' e hm=>hx pins σ H1 s2 h' e us I1 hm w⟩) fun _ _ y=>y)
end
section
variable {M:Model}{A:Around}{E:Value->Shared->Prop}{s:Shared}
structure Gone (fs:List Addr)(x:Addr)(ox:Obj)(old:List Addr)(h h':Heap)(T:Addr):Prop where
 keep:∀ b o,b∉fs->b≠x->b∉old->h.get? b=some o->h'.get? b=some o
 slot:∀ b o,b∈fs->h.get? b=some o->∃ sl,h'.get? b=some { o with slots:=sl }
 new:h.objs.size<=T
 exc:h'.get? x=some (ox.mapFields (·.setIfInBounds 1 (.ref T)))
 tr:∃ oT ts,h'.get? T=some oT/\oT.data=.fields ts/\ts[3]?=some .none
theorem VN {env:Env}{outer:List Env}{L x:Addr}{ox:Obj}{vs:Array Value}{hd:Value}{nx:Bool}{Q:Unit->Shared->Prop}(f1:A.frames=some (env::outer))(f2:s.heap.FunFrames base (env::outer))(f3:env.frame=some L)
 (x1:s.heap.get? x=some ox) (x2:ox.data=.fields vs) (x3:1<vs.size) (q:∀ h' T,Gone ((env::outer).filterMap (·.frame)) x ox [] s.heap h' T->Q () { s with heap:=h' }) :
 wpAny M A (do let a <- frameOf env;let pl <- entryPlaceOf L nx;let b <- EntryCells.newEntry hd a .none (rawInt L) .none pl;setField (.ref x) 1 b) (fun _ s'=>wpAny M A (setFlight (.ref x) none) Q E s') E s:=by
 have xf:x∉(env::outer).filterMap (·.frame):=fun hm=>by
  obtain ⟨_,o,e1,e2⟩:=f2.mem hm
  rw [x1] at e1
  cases e1
  exact e2 vs x2
 refine wpAny_bind (wpAny_frameOf_fun f1 f2 f3 fun g1 m1=>wpAny_bind (wpAny_entryPlaceOf fun pl hpl=>?_))
 unfold EntryCells.newEntry newFields
 refine wpAny_bind (wpAny_newObj_type ?_ (hpl.sizeOk5 _ _ _ _ _))
 generalize hob:({ cls:=.type "traceback",dict:=none,data:=.fields ([hd,.ref L,.none,rawInt L,.none]++(if pl.isEmpty then List.replicate 6 Value.none else pl)).toArray }:Obj)=ob
 have dob:ob.data=.fields ([hd,.ref L,.none,rawInt L,.none]++(if pl.isEmpty then List.replicate 6 Value.none else pl)).toArray:=by rw [<- hob]
 have lob:ob.isFreed=false:=Obj.isFreed_of_fields dob
 have xg1:g1.get? x=some ox:=(m1.2.1 x xf).trans x1
 have xg2:=Heap.get?_push_of_some (h:=g1) ob xg1
 refine wpAny_setField xg2 x2 x3 ?_
 have nTx:g1.objs.size≠x:=Nat.ne_of_gt (Heap.lt_size xg1)
 have dx:=Obj.data_mapFields x2 (·.setIfInBounds 1 (Value.ref g1.objs.size))
 have xg3:=Heap.get?_update_self (Obj.mapFields (·.setIfInBounds 1 (Value.ref g1.objs.size))) xg2 (Obj.isFreed_of_fields dx)
 have tg3:=(Heap.get?_update_other (g1.push ob) (Obj.mapFields (·.setIfInBounds 1 (Value.ref g1.objs.size))) (Ne.symm nTx)).trans (Heap.get?_push_size g1 lob)
 unfold setFlight
 refine wpAny_bind (wpAny_field xg3 dx (x:=.ref g1.objs.size) (by simp [x3]) ?_)
 rw [if_pos (show (Value.ref g1.objs.size != Value.none)=true from by simp)]
 refine wpAny_setField tg3 dob (by simp only [List.size_toArray,List.length_append,List.length_cons,List.length_nil]<;>omega) (q _ g1.objs.size ⟨?_,?_,?_,?_,?_⟩)
 · intro b o nf nx' _ e
   have e1:g1.get? b=some o:=(m1.2.1 b nf).trans e
   rw [Heap.get?_update_other _ _ (Nat.ne_of_gt (Heap.lt_size e1)),Heap.get?_update_other _ _ (Ne.symm nx')]
   exact Heap.get?_push_of_some _ e1
 · intro b o hb e
   obtain ⟨sl,e1⟩:=m1.2.2 b o e
   refine ⟨sl,?_⟩
   have nbx:b≠x:=fun z=>xf (z▸hb)
   rw [Heap.get?_update_other _ _ (Nat.ne_of_gt (Heap.lt_size e1)),Heap.get?_update_other _ _ (Ne.symm nbx)]
   exact Heap.get?_push_of_some _ e1
 · rw [m1.1]
   exact Nat.le_refl _
 · rw [Heap.get?_update_other _ _ nTx]
   exact xg3
 · refine ⟨_,_,Heap.get?_update_self _ tg3 (Obj.isFreed_of_fields (Obj.data_mapFields dob _)),Obj.data_mapFields dob _,?_⟩
   first|(simp;done)|(rcases hpl with rfl|⟨_,_,_,_,_,_,_,rfl⟩<;>simp)
theorem SO {env:Env}{outer:List Env}{L x:Addr}{ox:Obj}{vs:Array Value}{Q:Unit->Shared->Prop}(f1:A.frames=some (env::outer))(f2:s.heap.FunFrames base (env::outer))(f3:env.frame=some L)
 (x1:s.heap.get? x=some ox) (x2:ox.data=.fields vs) (x3:vs[1]?=some .none) (q:∀ h' T,Gone ((env::outer).filterMap (·.frame)) x ox [] s.heap h' T->Q () { s with heap:=h' }):wpAny M A (leaving env (.ref x)) Q E s:=by
 unfold leaving noteFrame;simp only [f3]
 refine wpAny_bind (wpAny_bind (wpAny_field x1 x2 x3 ?_));rw [if_neg (by decide)]
 exact VN f1 f2 f3 x1 x2 (Array.getElem?_eq_some_iff.mp x3).1 q
end
theorem ObjOk.ex {H:Hp}{h:Heap}{a:Addr}{o:HO}(x:ObjOk P w H h a o):∃ ob,h.get? a=some ob:=by
 cases o with
 | lst xs=>obtain ⟨_,_,_,_,e⟩:=x;exact ⟨_,e⟩
 | tup xs=>obtain ⟨_,_,_,ob,e,_⟩:=x;exact ⟨_,e⟩
 | dK kvs=>obtain ⟨_,_,_,_,o,_,_,e,_⟩:=x;exact ⟨_,e⟩
 | dT kvs=>obtain ⟨_,_,_,_,o,_,_,e,_⟩:=x;exact ⟨_,e⟩
 | set S n=>obtain ⟨o,_,_,_,e,_⟩:=x;exact ⟨_,e⟩
 | ins C dx fs=>obtain ⟨_,_,_,e,_⟩:=x;exact ⟨_,e⟩
 | own y=>exact x
 | xd fs=>obtain ⟨_,⟨_,_,_,e,_⟩,_⟩:=x;exact ⟨_,e⟩
 | rng lo hi=>obtain ⟨_,_,_,e⟩:=x;exact ⟨_,e⟩
 | frz ob u=>obtain ⟨e,_⟩:=x;exact ⟨_,e⟩
 | tbl ps=>exact ⟨_,(show h.get? a=some _ from x)⟩
 | met f y=>exact ⟨_,(show h.get? a=some _ from x)⟩
 | ext φ=>obtain ⟨_,e,_⟩:=x;exact e
theorem ZQ (o:Obj)(f:Array Value->Array Value):(o.mapFields f).dict=o.dict:=by unfold Obj.mapFields;split<;>rfl
def Exd (H:Hp)(base g h:Heap)(x C:Addr):Prop:=H x=none/\base.get? x=none/\g.get? x=none/\∃ ox vs T oT ts,h.get? x=some ox/\ox.cls=.ref C/\ox.dict=none/\ox.data=.fields vs/\vs[1]?=some (.ref T)/\vs[2]?=some .none /\
 T≠x/\H T=none/\base.get? T=none/\g.get? T=none/\h.get? T=some oT/\oT.data=.fields ts/\ts[3]?=some .none
def CX1 (P:Program)(w:World)(base:Heap):CXT:=fun outer H s E e s'=>∃ (x C:Addr) (H':Hp),e=.ref x/\s'.os=s.os/\AllBare s'.gens/\Un (frs outer) [] H H' s.heap s'.heap/\HOk P w H' s'.heap/\Exd H' base s.heap s'.heap x C/\E (.ref C) none H'
theorem J0f {P:Program}{w:World}{K:Fg}{mg:Str->Option Value}{base:Heap}{N:List Str}{qual:Str}{scope:Scope}{f:Addr}{cd:Value}{A:Around}{outer:List Env}{s:Shared}{H:Hp}{E:XK}{C:Addr}
 (pins:List (Addr×Obj)) (σ:St) (H1:Hp) (s1:Shared) (h':Heap) (e:Addr) (us:List Value) (I:Inv (AJ (CX1 P w base) P w K mg base N qual scope f cd A outer s H E) pins σ H1 s1) (hm:Heap.MadeExcOf s1.heap h' e (.ref C) us) (q:E (.ref C) none H1) :
 (AJ (CX1 P w base) P w K mg base N qual scope f cd A outer s H E).xe (.ref e) { s1 with heap:=h' }:=by
 obtain ⟨t,e1,e2,e3⟩:=hm.there
 have nH:∀ b,s1.heap.get? b=none->H1 b=none:=fun b hb=>by
  cases z:H1 b with
  | none=>rfl
  | some o =>
    obtain ⟨ob,eo⟩:∃ ob,s1.heap.get? b=some ob:=(I.hok b o z).ex
    rw [hb] at eo
    cases eo
 have hst:s1.heap.FunFrames base (envOfC qual scope s.heap.objs.size f cd::outer):=I.stack
 have hfree:∀ b∈frs (envOfC qual scope s.heap.objs.size f cd::outer),H1 b=none:=I.stkFree
 show wpAny (model P w) (A.deeper (envOfC qual scope s.heap.objs.size f cd)) (leaving (envOfC qual scope s.heap.objs.size f cd) (.ref e)) _ _ { s1 with heap:=h' }
 refine SO (s:={ s1 with heap:=h' }) (base:=base) I.ok.frames (hst.of_keeps fun b o eb _=>⟨o,hm.keeps b o eb,rfl⟩) rfl e1 rfl rfl fun h2 T g=>?_
 have lt1:∀ b o,s1.heap.get? b=some o->b<h'.objs.size:=fun b o eb=>Heap.lt_size (hm.keeps b o eb)
 have neE:∀ b o,s1.heap.get? b=some o->b≠e:=fun b o eb z=>by rw [z,hm.new] at eb;cases eb
 have kp:∀ b o,b∉frs (envOfC qual scope s.heap.objs.size f cd::outer)->s1.heap.get? b=some o->h2.get? b=some o:=fun b o nf eb=>g.keep b o nf (neE b o eb) (by simp) (hm.keeps b o eb)
 have sl:∀ b o,b∈frs (envOfC qual scope s.heap.objs.size f cd::outer)->s1.heap.get? b=some o->∃ z,h2.get? b=some { o with slots:=z }:=fun b o hb eb=>g.slot b o hb (hm.keeps b o eb)
 have nTo:∀ b o,s1.heap.get? b=some o->b≠T:=fun b o eb z=>by
  have h1:=lt1 b o eb
  rw [z] at h1
  exact absurd (Nat.lt_of_lt_of_le h1 g.new) (Nat.lt_irrefl _)
 have baseK:∀ b o,base.get? b=some o->s1.heap.get? b=some o:=I.bk
 have nf:∀ b o,s.heap.get? b=some o->b∉frs outer->b∉frs (envOfC qual scope s.heap.objs.size f cd::outer):=fun b o eb nb hb=>by
  rcases List.mem_cons.mp (show b∈s.heap.objs.size::frs outer from hb) with z|z
  · exact absurd (Heap.lt_size eb) (by rw [z];exact Nat.lt_irrefl _)
  · exact nb z
 have tH:H1 T=none:=by
  cases z:H1 T with
  | none=>rfl
  | some o =>
    obtain ⟨ob,eo⟩:=(I.hok T o z).ex
    exact absurd rfl (nTo T ob eo)
 have U:Un (frs outer) [] H H1 s.heap s1.heap:=I.base
 refine ⟨e,C,H1,rfl,I.os,I.bare,⟨fun b o eb n hb hx=>kp b o (nf b o eb hb) (U.keep b o eb n hb hx),fun b o eb n hb hx=>?_,U.free,fun b o eb hx=>?_,U.tups,U.frzs,U.tbls⟩,fun b o eb=>?_,⟨nH e hm.new,?_,?_,?_⟩,q⟩
 · obtain ⟨z,e4⟩:=U.slot b o eb n hb hx
   obtain ⟨z',e5⟩:=sl b _ (List.mem_cons_of_mem _ hb) e4
   exact ⟨z',e5⟩
 · obtain ⟨o',e4⟩:=U.there b o eb hx
   by_cases hb:b∈frs (envOfC qual scope s.heap.objs.size f cd::outer)
   · obtain ⟨z,e5⟩:=sl b o' hb e4
     exact ⟨_,e5⟩
   · exact ⟨o',kp b o' hb e4⟩
 · refine (I.hok b o eb).stay (fun c v hc ev=>kp c v (fun hb=>?_) ev) (fun _ z=>z) fun _ _ z=>z
   have:=hfree c hb
   rcases hc with z|z
   · rw [z,eb] at this
     cases this
   · rw [z] at this
     cases this
 · cases z:base.get? e with
   | none=>rfl
   | some o=>exact absurd rfl (neE e o (baseK e o z))
 · cases z:s.heap.get? e with
   | none=>rfl
   | some o =>
     obtain ⟨o',e4⟩:=U.there e o z (by simp)
     exact absurd rfl (neE e o' e4)
 · obtain ⟨oT,ts,g1,g2,g3⟩:=g.tr
   refine ⟨_,_,T,oT,ts,g.exc,rfl,rfl,rfl,rfl,rfl,?_,tH,?_,?_,g1,g2,g3⟩
   · intro z
     have:=Heap.lt_size e1
     rw [<- z] at this
     exact absurd (Nat.lt_of_lt_of_le this g.new) (Nat.lt_irrefl _)
   · cases z:base.get? T with
     | none=>rfl
     | some o=>exact absurd rfl (nTo T o (baseK T o z))
   · cases z:s.heap.get? T with
     | none=>rfl
     | some o =>
       obtain ⟨o',e4⟩:=U.there T o z (by simp)
       exact absurd rfl (nTo T o' e4)
theorem Inv.raised {X:Cx}{pins:List (Addr×Obj)}{σ:St}{H H2:Hp}{s s':Shared}(I:Inv X pins σ H s)(os:s'.os=s.os)(bare:AllBare s'.gens)(un:Un (frs X.stack) [] H H2 s.heap s'.heap)(hok:HOk X.prog X.w H2 s'.heap):Inv X pins σ H2 s':=by
 obtain ⟨hh,g,d,t,os'⟩:=s'
 obtain rfl:os'=s.os:=os
 exact I.call (h':=hh) (g':=g) (d':=d) (t':=t) (ch:=[]) un hok bare (fun b z=>absurd z (by simp))
theorem Fun.okX {P:Program}{w:World} {mg:Str->Option Value}{base:Heap}{CX:CXT}{x qual:Str}{st:Stmt}{f:Addr} {N ps:List Str}{k:Nat}{sp:Sp}(F:Fun K x qual st f fd)(S:FnScope N ps (J4 st))(len:∀ vs H Q E,sp vs H Q E->vs.length=ps.length)
 (hbody:∀ (cdv:Value) (A:Around) (outer:List Env) (s:Shared) (H:Hp) (vs:List V) (Q:VK) (E:XK),Room k (A.deeper (envOfC qual (J4 st) s.heap.objs.size f cdv))->sp vs H Q E ->
  ∃ t,PSs (AJ CX P w K mg base N qual (J4 st) f cdv A outer s H E) (AO st) t/\t { nx:=fun _ H'=>Q .non H',rt:=Q } (DF N vs) H):FnOk P w K mg base CX (k+1) f fd ps sp:=by
 obtain ⟨oc,od,kV,doc,pm,an,cdv,ct,osl,rfl,lk,hcd⟩:=F.ex
 exact J9q lk hcd S len fun A outer s H vs Q E hr hsp=>hbody cdv A outer s H vs Q E hr hsp
theorem OW {X:Cx}{CX:CXT}{k:Nat}{ps:List Str}{sp:Sp}{E:XK}{x:Str}{p pos:Pos}{e:Expr}{es:List Expr}{t:TA}(hp:DD CX X E)(G:Callee X.prog X.w X.K X.mg X.base CX x k ps sp)(hr:Room k X.A)(hg:Gl X x)(ha:PA X (e::es) t)
 (hdb:(x==("__debug__" : Str))=false:=by decide) (he:starEach (e::es) X.env=(false,eval e X.env)::starEach es X.env:=by rfl) (hpl:(backTo pos (starEach es X.env)).any (·.1)=false:=by rfl):PE X (.Call (.Name x p) (e::es) [] pos) (MM sp [] E t):=by
 obtain ⟨f,fd,F,hm,hk,hb⟩:=G.ex
 exact WO F hr hg hm hk hb .nil hp ha hdb he hpl
def ExcO (x C:Addr):HO:=.ext fun h=>∃ (ox:Obj) (vs:Array Value),h.get? x=some ox/\ox.cls=.ref C/\ox.dict=none/\ox.data=.fields vs/\vs[2]?=some .none
theorem ExcO.ok {H:Hp}{h:Heap}{x C:Addr}{ox:Obj}{vs:Array Value}(e:h.get? x=some ox)(c:ox.cls=.ref C)(d:ox.dict=none)(f:ox.data=.fields vs)(v:vs[2]?=some .none):ObjOk P w H h x (ExcO x C) :=
 ⟨⟨ox,vs,e,c,d,f,v⟩,⟨ox,e⟩,fun h1 h2 ⟨ox',vs',e',c',d',f',v'⟩ k=>⟨ox',vs',k _ e',c',d',f',v'⟩⟩
structure RoomM (k:Nat)(A:Around):Prop where
 dp:A.depth+3*k+5<recursionLimit
 un:A.units+16*k+200<cLine
theorem RoomM.mono {j k:Nat}{A:Around}(r:RoomM k A)(h:j<=k):RoomM j A:=⟨by have:=r.dp;omega,by have:=r.un;omega⟩
theorem RoomM.depth {k:Nat}{A:Around}(r:RoomM k A):A.depth<recursionLimit:=by have:=r.dp;omega
theorem RoomM.units {k:Nat}{A:Around}(r:RoomM k A):A.units+64<cLine:=by have:=r.un;omega
structure XCls (K:Fg)(D:Addr):Prop where
 get:PySem.W.findIn K (.ref D) "__getattribute__" = some (some (.builtin "BaseException.__getattribute__"))
 hook:PySem.W.findIn K (.ref D) "__getattr__" = some none
 fnd:PySem.W.findObj K D none "__class__" = some (.bind (.builtin "getset_descriptor.__get__") (.builtin "object.__class__"))
 mro:PySem.W.mroIn K D (.type "object")=some true
 cls:(PySem.W.clsIn K D).isSome=true
 exc:PySem.W.subIn K (.ref D) (.type "BaseException")=some true
section
variable {X:Cx}
theorem J1w {x:Str}{C:Addr}{pos:Pos}(hg:Gl X x)(hm:X.mg x=some (.ref C))(hd:(x==("__debug__" : Str))=false:=by decide):PE X (.Name x pos) (tC (.ref C)):=J6w hg hm rfl hd
end
structure XBase (K:Fg)(B:Addr):Prop where
 cls:(PySem.W.clsIn K B).isSome=true
 typ:PySem.W.typeIn K (.ref B)=some (.type "type")
 exc:PySem.W.subIn K (.ref B) (.type "BaseException")=some true
abbrev bmV:List Value:=[.type "ValueError",.type "Exception",.type "BaseException",.type "object"]
theorem J9l {x:Str}{C:Addr}{bmB:List Value}{newId:String}(X:K.In base)(G:base.Ns mainGlobals mg)(e:PySem.W.nsIn K mainGlobals x=some (some (.ref C)))(q:PySem.W.excIn K C bmB newId=true):OwnCls x C bmB newId mg base:=by
 refine ⟨PySem.W.mg_of X G e,?_⟩
 unfold PySem.W.excIn at q
 split at q
 · rename_i dd cd sl ho
   split at q
   · rename_i C' bm k0 k1 k2 k3 n k5 hm hs
     simp only [Bool.and_eq_true,beq_iff_eq,Bool.not_eq_true'] at q;obtain ⟨⟨⟨⟨⟨rfl,rfl⟩,hdel⟩,ht⟩,hok⟩,hni⟩:=q
     obtain ⟨nm,bs,mro,ns,qn,hd,sn,sub,ab,col,del⟩:=cd
     dsimp only at hm hdel hok hni;subst hm hdel
     have hsl:sl=#[k0,k1,k2,k3,some (.builtin n),k5]:=by
      obtain ⟨l⟩:=sl
      simp only at hs;rw [hs]
     subst hsl
     refine ⟨bm,ns,nm,qn,bs,hd,sn,sub,ab,col,dd,k0,k1,k2,k3,k5,_,X _ _ ho,.of_isNs (PySem.W.isNs_of_in X hok),PySem.W.nsMap_none_of_in X hok hni,PySem.W.tail_of_in X ht⟩
   · cases q
 · cases q
theorem HQ {X:Cx}:DD (CX1 P w base) X E0:=fun _ _ _ _ _ _ _ h=>by
 obtain ⟨_,_,_,_,_,_,_,_,_,q⟩:=h
 exact q.elim
theorem FN {P:Program}{w:World}{K:Fg} {N:List Str}{qual:Str}{scope:Scope}{f:Addr}{cd:Value}{A:Around}{outer:List Env}{s:Shared}{H:Hp}{E:XK}{x m:Str}{C:Addr}{j}{mp np cpos pos:Pos}(O:OwnCls x C bmV "ValueError.__new__" mg base)
 (hg:Gl (AJ (CX1 P w base) P w K mg base N qual scope f cd A outer s H E) x) (hd:(x==("__debug__" : Str))=false:=by decide) :
 PS (AJ (CX1 P w base) P w K mg base N qual scope f cd A outer s H E) (.Raise (some (.Call (.Name x np) [.Constant (.str m) j mp] [] cpos)) none pos) (fun _ _ H1=>E (.ref C) none H1) :=
 J1s (X:=AJ (CX1 P w base) P w K mg base N qual scope f cd A outer s H E) O PySem.F.excBase_ValueError (by decide) PySem.F.excBase_ValueError rfl hg E (fun pins σ H1 s1 h' e us I hm q=>J0f pins σ H1 s1 h' e us I hm q) (Z7 Q1k BY) (fun σ H Q q=>⟨Nat.le_trans (Nat.le_of_ble_eq_true rfl) Y1,q⟩) rfl rfl hd
theorem XD {h h' base:Heap}:∀ {l:List Env},(∀ b∈l.filterMap (·.frame),∀ o,h.get? b=some o->∃ o',h'.get? b=some o'/\o'.data=o.data)->h.FunFrames base l->h'.FunFrames base l
 | [],_,_=>trivial
 | env::rest,k,hl=>by
   obtain ⟨kd,⟨L,ob,eL,nb,eo,nd⟩,more⟩:=hl
   obtain ⟨o',e',d'⟩:=k L (by simp [List.filterMap_cons,eL]) ob eo
   exact ⟨kd,⟨L,o',eL,nb,e',fun vs=>d'▸nd vs⟩,XD (fun b hb=>k b (by
    rw [List.filterMap_cons,eL];exact List.mem_cons_of_mem _ hb)) more⟩
structure Trc (h:Heap)(x T:Addr)(c:Value):Prop where
 ex:∃ ox vs,h.get? x=some ox/\ox.cls=c/\ox.dict=none/\ox.data=.fields vs/\vs[1]?=some (.ref T)/\vs[2]?=some .none
 tr:∃ oT ts v,h.get? T=some oT/\oT.data=.fields ts/\ts[3]?=some v
 ne:T≠x
structure Kpt (fs:List Addr)(x T0:Addr)(h h':Heap)(T:Addr):Prop where
 keep:∀ b o,b∉fs->b≠x->b≠T0->h.get? b=some o->h'.get? b=some o
 slot:∀ b o,b∈fs->h.get? b=some o->∃ sl,h'.get? b=some { o with slots:=sl }
 new:T=T0\/h.objs.size<=T
 sz:h.objs.size<=h'.objs.size
section
variable {M:Model}{A:Around}{E:Value->Shared->Prop}{s:Shared}
theorem LD {x T:Addr}{c:Value}{fr:Option Addr}{Q:Unit->Shared->Prop}(t:Trc s.heap x T c)
 (q:∀ h',h'.objs.size=s.heap.objs.size->(∀ b,b≠T->h'.get? b=s.heap.get? b)->Trc h' x T c->(∃ oT ts,h'.get? T=some oT/\oT.data=.fields ts/\ts[3]?=some (fr.elim .none fun f=>rawInt f))->Q () { s with heap:=h' }):wpAny M A (setFlight (.ref x) fr) Q E s:=by
 obtain ⟨⟨ox,vs,x1,xc,xn,x2,x3,x4⟩,⟨oT,ts,v,t1,t2,t3⟩,tx⟩:=t
 unfold setFlight
 refine wpAny_bind (wpAny_field x1 x2 x3 ?_)
 rw [if_pos (show (Value.ref T != Value.none)=true from by simp)]
 have h3:3<ts.size:=(Array.getElem?_eq_some_iff.mp t3).1
 refine wpAny_setField t1 t2 h3 ?_
 generalize hv:(fr.elim Value.none fun f=>rawInt f)=v'
 have oth:∀ b,b≠T->(s.heap.update T (Obj.mapFields (·.setIfInBounds 3 v'))).get? b=s.heap.get? b:=fun b hb=>Heap.get?_update_other _ _ (Ne.symm hb)
 have td:=Obj.data_mapFields t2 (·.setIfInBounds 3 v')
 have tg:=Heap.get?_update_self (Obj.mapFields (·.setIfInBounds 3 v')) t1 (Obj.isFreed_of_fields td)
 have t4:(ts.setIfInBounds 3 v')[3]?=some v':=by simp [h3]
 exact q _ (Heap.size_update ..) oth ⟨⟨ox,vs,(oth x (Ne.symm tx)).trans x1,xc,xn,x2,x3,x4⟩,⟨_,_,_,tg,td,t4⟩,tx⟩ ⟨_,_,tg,td,by rw [hv];exact t4⟩
theorem SI {env:Env}{outer:List Env}{L x T0:Addr}{c:Value}{Q:Unit->Shared->Prop}(f1:A.frames=some (env::outer))(f2:s.heap.FunFrames base (env::outer))(f3:env.frame=some L)(t:Trc s.heap x T0 c)
 (q:∀ h' T,Kpt ((env::outer).filterMap (·.frame)) x T0 s.heap h' T->Trc h' x T c->Q () { s with heap:=h' }):wpAny M A (noteFrame (.ref x) env) Q E s:=by
 have tt:=t
 obtain ⟨⟨ox,vs,x1,xc,xn,x2,x3,x4⟩,⟨oT,ts,v,t1,t2,t3⟩,tx⟩:=t
 unfold noteFrame;simp only [f3]
 refine wpAny_bind (wpAny_field x1 x2 x3 ?_);rw [if_pos (show (Value.ref T0 != Value.none)=true from by simp)]
 refine wpAny_bind (wpAny_field t1 t2 t3 ?_)
 by_cases hv:(v==rawInt L)=true
 · rw [if_pos hv]
   exact wpAny_pure (q s.heap T0 ⟨fun _ _ _ _ _ e=>e,fun b o _ e=>⟨o.slots,e⟩,.inl rfl,Nat.le_refl _⟩ tt)
 · rw [if_neg hv]
   refine wpAny_bind (wpAny_setField t1 t2 (Array.getElem?_eq_some_iff.mp t3).1 ?_)
   have oth:∀ b,b≠T0->(s.heap.update T0 (Obj.mapFields (·.setIfInBounds 3 Value.none))).get? b=s.heap.get? b:=fun b hb=>Heap.get?_update_other _ _ (Ne.symm hb)
   have nrec:∀ b o,s.heap.get? b=some o->(∀ vs,o.data≠.fields vs)->b≠T0:=fun b o e n z=>by
    rw [z,t1] at e
    cases e
    exact n ts t2
   have f2':=f2.of_keeps fun b o e n=>⟨o,(oth b (nrec b o e n)).trans e,rfl⟩
   have fT:∀ b∈(env::outer).filterMap (·.frame),b≠T0:=fun b hb=>by
    obtain ⟨_,o,e1,e2⟩:=f2.mem hb
    exact nrec b o e1 e2
   have xf:x∉(env::outer).filterMap (·.frame):=fun hm=>by
    obtain ⟨_,o,e1,e2⟩:=f2.mem hm
    rw [x1] at e1
    cases e1
    exact e2 vs x2
   generalize hg0:s.heap.update T0 (Obj.mapFields (·.setIfInBounds 3 Value.none))=g0 at *
   have sz0:g0.objs.size=s.heap.objs.size:=by rw [<- hg0];exact Heap.size_update ..
   have x0:g0.get? x=some ox:=(oth x (Ne.symm tx)).trans x1
   refine wpAny_bind (wpAny_frameOf_fun (s:={ s with heap:=g0 }) f1 f2' f3 fun g1 m1=>wpAny_bind (wpAny_entryPlaceOf fun pl hpl=>?_))
   unfold EntryCells.newEntry newFields
   refine wpAny_bind (wpAny_newObj_type ?_ (hpl.sizeOk5 _ _ _ _ _))
   generalize hob:({ cls:=.type "traceback",dict:=none,data:=.fields ([.ref T0,.ref L,.none,rawInt L,.none]++(if pl.isEmpty then List.replicate 6 Value.none else pl)).toArray }:Obj)=ob
   have dob:ob.data=.fields ([.ref T0,.ref L,.none,rawInt L,.none]++(if pl.isEmpty then List.replicate 6 Value.none else pl)).toArray:=by rw [<- hob]
   have lob:ob.isFreed=false:=Obj.isFreed_of_fields dob
   have xg1:g1.get? x=some ox:=(m1.2.1 x xf).trans x0
   have xg2:=Heap.get?_push_of_some (h:=g1) ob xg1
   have h1:1<vs.size:=(Array.getElem?_eq_some_iff.mp x3).1
   refine wpAny_setField xg2 x2 h1 ?_
   have nTx:g1.objs.size≠x:=Nat.ne_of_gt (Heap.lt_size xg1)
   have dx:=Obj.data_mapFields x2 (·.setIfInBounds 1 (Value.ref g1.objs.size))
   have xg3:=Heap.get?_update_self (Obj.mapFields (·.setIfInBounds 1 (Value.ref g1.objs.size))) xg2 (Obj.isFreed_of_fields dx)
   have tg3:=(Heap.get?_update_other (g1.push ob) (Obj.mapFields (·.setIfInBounds 1 (Value.ref g1.objs.size))) (Ne.symm nTx)).trans (Heap.get?_push_size g1 lob)
   refine q _ g1.objs.size ⟨?_,?_,?_,?_⟩ ⟨⟨_,_,xg3,(Obj.cls_mapFields ..).trans xc,(ZQ ..).trans xn,dx,by simp [h1],?_⟩,⟨ob,_,rawInt L,tg3,dob,?_⟩,nTx⟩
   · intro b o nf nx nt e
     have e0:g0.get? b=some o:=(oth b nt).trans e
     have e1:g1.get? b=some o:=(m1.2.1 b nf).trans e0
     rw [Heap.get?_update_other _ _ (Ne.symm nx)]
     exact Heap.get?_push_of_some _ e1
   · intro b o hb e
     have e0:g0.get? b=some o:=(oth b (fT b hb)).trans e
     obtain ⟨sl,e1⟩:=m1.2.2 b o e0
     have nbx:b≠x:=fun z=>xf (z▸hb)
     refine ⟨sl,?_⟩
     rw [Heap.get?_update_other _ _ (Ne.symm nbx)]
     exact Heap.get?_push_of_some _ e1
   · right
     rw [m1.1,sz0]
     exact Nat.le_refl _
   · rw [Heap.size_update,Heap.size_push,m1.1,sz0]
     exact Nat.le_succ _
   · rw [Array.getElem?_setIfInBounds_ne (by decide)]
     exact x4
   · first|(simp;done)|(rcases hpl with rfl|⟨_,_,_,_,_,_,_,rfl⟩<;>simp)
end
section
variable {P:Program}{w:World}{K:Fg}{mg:Str->Option Value}{base:Heap}{N:List Str}{qual:Str}{scope:Scope}{f:Addr}{cd:Value}{A:Around}{outer:List Env}{s:Shared}{H:Hp}{E:XK}
theorem Q0f {pins:List (Addr×Obj)}{σ:St}{H2:Hp}{s':Shared}{h2:Heap}{x C:Addr}{bad:List Addr}(I2:Inv (AJ (CX1 P w base) P w K mg base N qual scope f cd A outer s H E) pins σ H2 s')
 (hbad:∀ c∈bad,H2 c=none/\s.heap.get? c=none) (keep:∀ b o,b∉frs (envOfC qual scope s.heap.objs.size f cd::outer)->b∉bad->s'.heap.get? b=some o->h2.get? b=some o)
 (slot:∀ b o,b∈frs (envOfC qual scope s.heap.objs.size f cd::outer)->s'.heap.get? b=some o->∃ sl,h2.get? b=some { o with slots:=sl }) (ex:Exd H2 base s.heap h2 x C) (q:E (.ref C) none H2) :
 CX1 P w base outer H s E (.ref x) { s' with heap:=h2 }:=by
 have hst:s'.heap.FunFrames base (envOfC qual scope s.heap.objs.size f cd::outer):=I2.stack
 have hfree:∀ b∈frs (envOfC qual scope s.heap.objs.size f cd::outer),H2 b=none:=I2.stkFree
 have U:Un (frs outer) [] H H2 s.heap s'.heap:=I2.base
 have hok2:HOk P w H2 s'.heap:=I2.hok
 have ne1:∀ b o,s.heap.get? b=some o->b∉bad:=fun b o eb z=>by
  have:=(hbad b z).2
  rw [eb] at this;cases this
 have nf:∀ b o,s.heap.get? b=some o->b∉frs outer->b∉frs (envOfC qual scope s.heap.objs.size f cd::outer):=fun b o eb nb hb=>by
  rcases List.mem_cons.mp (show b∈s.heap.objs.size::frs outer from hb) with z|z
  · exact absurd (Heap.lt_size eb) (by rw [z];exact Nat.lt_irrefl _)
  · exact nb z
 refine ⟨x,C,H2,rfl,I2.os,I2.bare,⟨fun b o eb n hb hx=>keep b o (nf b o eb hb) (ne1 b o eb) (U.keep b o eb n hb hx),fun b o eb n hb hx=>?_,U.free,fun b o eb hx=>?_,U.tups,U.frzs,U.tbls⟩,fun b o eb=>?_,ex,q⟩
 · obtain ⟨z,e4⟩:=U.slot b o eb n hb hx
   obtain ⟨z',e5⟩:=slot b _ (List.mem_cons_of_mem _ hb) e4
   exact ⟨z',e5⟩
 · obtain ⟨o',e4⟩:=U.there b o eb hx
   by_cases hb:b∈frs (envOfC qual scope s.heap.objs.size f cd::outer)
   · obtain ⟨z,e5⟩:=slot b o' hb e4
     exact ⟨_,e5⟩
   · exact ⟨o',keep b o' hb (ne1 b o eb) e4⟩
 · refine (hok2 b o eb).stay (fun c v hc ev=>keep c v (fun hb=>?_) (fun z=>?_) ev) (fun _ z=>z) fun _ _ z=>z
   · have:=hfree c hb
     rcases hc with y|y
     · rw [y,eb] at this;cases this
     · rw [y] at this;cases this
   · have:=(hbad c z).1
     rcases hc with y|y
     · rw [y,eb] at this;cases this
     · rw [y] at this;cases this
theorem ZV {N':List Str}{sc:Scope}{cells:List (Str×Addr)}{C0:Addr}{fp:List Addr}{s2:Shared}{H0:Hp}(hI:LQ (AJ (CX1 P w base) P w K mg base N qual scope f cd A outer s H E) C0 fp s2 H0) :
 DD (CX1 P w base) (J9 (AJ (CX1 P w base) P w K mg base N qual scope f cd A outer s H E) N' sc cells C0 fp s2 H0) E:=by
 intro pins σ H1 s1 e s' I h
 obtain ⟨pins0,σ0,I0,hf,hC⟩:=hI
 obtain ⟨x,C,H2,rfl,os,bare,U2,hok2,⟨hx0,hb0,hg0,ox,vs,T0,oT,ts,x1,xc,xn,xd,v1,v2,tx,hT0,bT0,gT0,t1,t2,t3⟩,q⟩:=h
 have I2:Inv (J9 (AJ (CX1 P w base) P w K mg base N qual scope f cd A outer s H E) N' sc cells C0 fp s2 H0) pins σ H2 s':=I.raised os bare U2 hok2
 have I3:Inv (AJ (CX1 P w base) P w K mg base N qual scope f cd A outer s H E) pins0 σ0 H2 s':=I0.call' (ch:=fp) I2.os I2.base I2.hok I2.bare fun b hb=>by
  obtain ⟨f0,f1,f2,f3,f4,f5⟩:=hf b hb
  exact ⟨f3,f1,f4,f5⟩
 have hst:s'.heap.FunFrames base (envOfC qual scope s.heap.objs.size f cd::outer):=I3.stack
 have fr:∀ b∈frs (envOfC qual scope s.heap.objs.size f cd::outer),b≠C0:=fun b hb z=>by
  obtain ⟨_,o,e1,_⟩:=(show s2.heap.FunFrames base (envOfC qual scope s.heap.objs.size f cd::outer) from I0.stack).mem hb
  have:=Heap.lt_size e1
  rw [z] at this
  exact absurd (Nat.lt_of_lt_of_le this hC) (Nat.lt_irrefl _)
 obtain ⟨m,nsm,_⟩:=I2.loc
 have nsm:s'.heap.Ns C0 m:=nsm
 have fC:H2 C0=none:=I2.free
 have sC:s.heap.get? C0=none:=by
  cases z:s.heap.get? C0 with
  | none=>rfl
  | some o =>
    have h1:=Heap.lt_size z
    have h2:s.heap.objs.size<=s2.heap.objs.size:=I0.sz
    exact absurd (Nat.lt_of_lt_of_le h1 (Nat.le_trans h2 hC)) (Nat.lt_irrefl _)
 have sx:s.heap.get? x=none/\s.heap.get? T0=none:=by
  have I1:Inv (AJ (CX1 P w base) P w K mg base N qual scope f cd A outer s H E) pins0 σ0 H1 s1:=I0.call' (ch:=fp) I.os I.base I.hok I.bare fun b hb=>by
   obtain ⟨f0,f1,f2,f3,f4,f5⟩:=hf b hb
   exact ⟨f3,f1,f4,f5⟩
  have U1:Un (frs outer) [] H H1 s.heap s1.heap:=I1.base
  constructor
  · cases z:s.heap.get? x with
    | none=>rfl
    | some o =>
      obtain ⟨o',e4⟩:=U1.there x o z (by simp)
      rw [hg0] at e4;cases e4
  · cases z:s.heap.get? T0 with
    | none=>rfl
    | some o =>
      obtain ⟨o',e4⟩:=U1.there T0 o z (by simp)
      rw [gT0] at e4;cases e4
 have Cx:C0≠x:=fun z=>by
  obtain ⟨o,es,ep,ho,hd,_⟩:=nsm
  rw [z,x1] at ho;cases ho
  rw [xd] at hd;cases hd
 have CT:C0≠T0:=fun z=>by
  obtain ⟨o,es,ep,ho,hd,_⟩:=nsm
  rw [z,t1] at ho;cases ho
  rw [t2] at hd;cases hd
 have tr0:Trc s'.heap x T0 (.ref C):=⟨⟨ox,vs,x1,xc,xn,xd,v1,v2⟩,⟨oT,ts,_,t1,t2,t3⟩,tx⟩
 show wpAny (model P w) (A.deeper (envOfC qual scope s.heap.objs.size f cd)) (noteFrame (.ref x) (envOfC qual scope s.heap.objs.size f cd)) (fun _ s''=>J0d _ C0 (.ref x) s'') _ s'
 have fresh:∀ a,s'.heap.objs.size<=a->H2 a=none/\base.get? a=none/\s.heap.get? a=none:=fun a ha=>by
  refine ⟨I3.hok.fresh ha,?_,?_⟩
  · cases z:base.get? a with
    | none=>rfl
    | some o=>exact absurd (Nat.lt_of_lt_of_le (Heap.lt_size (I3.bk a o z)) ha) (Nat.lt_irrefl _)
  · cases z:s.heap.get? a with
    | none=>rfl
    | some o =>
      obtain ⟨o',e4⟩:=(show Un (frs outer) [] H H2 s.heap s'.heap from I3.base).there a o z (by simp)
      exact absurd (Nat.lt_of_lt_of_le (Heap.lt_size e4) ha) (Nat.lt_irrefl _)
 have fT0:∀ b∈frs (envOfC qual scope s.heap.objs.size f cd::outer),b≠T0:=fun b hb z=>by
  obtain ⟨_,o,e1,e2⟩:=hst.mem hb
  rw [z,t1] at e1;cases e1
  exact e2 ts t2
 have C0lt:C0<s'.heap.objs.size:=nsm.lt
 refine SI (base:=base) I3.ok.frames hst rfl tr0 fun h1 T k1 tr1=>?_
 have TC:T≠C0:=by
  rcases k1.new with z|z
  · rw [z];exact Ne.symm CT
  · exact Nat.ne_of_gt (Nat.lt_of_lt_of_le C0lt z)
 have oldT:∀ b o,s'.heap.get? b=some o->b≠T0->b≠T:=fun b o e n=>by
  rcases k1.new with z|z
  · rw [z];exact n
  · exact Nat.ne_of_lt (Nat.lt_of_lt_of_le (Heap.lt_size e) z)
 refine ⟨m,?_,fun h' sb cenv hl=>?_⟩
 · obtain ⟨o,es,ep,ho,r⟩:=nsm
   exact ⟨o,es,ep,k1.keep C0 o (fun hb=>fr C0 hb rfl) Cx CT ho,r⟩
 have sb2:∀ b,b≠C0->h'.get? b=h1.get? b:=sb.2
 have tr2:Trc h' x T (.ref C):=by
  obtain ⟨⟨ox',vs',a1,a2⟩,⟨oT',ts',v',b1,b2⟩,ne⟩:=tr1
  exact ⟨⟨ox',vs',(sb2 x (Ne.symm Cx)).trans a1,a2⟩,⟨oT',ts',v',(sb2 T TC).trans b1,b2⟩,ne⟩
 unfold PySem.passOn
 obtain ⟨oy,ys,y1,y2,y3,y4,y5,y6⟩:=tr2.ex
 refine wpAny_bind (wpAny_field (s:={ s' with heap:=h' }) y1 y4 y5 ?_)
 rw [if_neg (by simp)]
 refine wpAny_bind (LD (s:={ s' with heap:=h' }) tr2 fun h3 sz3 oth3 tr3 _=>?_)
 refine wpAny_throw ?_
 show wpAny (model P w) (A.deeper (envOfC qual scope s.heap.objs.size f cd)) (leaving (envOfC qual scope s.heap.objs.size f cd) (.ref x)) _ _ { s' with heap:=h3 }
 have k3:∀ b o,b∉frs (envOfC qual scope s.heap.objs.size f cd::outer)->b≠x->b≠T0->b≠C0->s'.heap.get? b=some o->h3.get? b=some o:=fun b o n1 n2 n3 n4 e=>by
  rw [oth3 b (oldT b o e n3)]
  exact (sb2 b n4).trans (k1.keep b o n1 n2 n3 e)
 have s3:∀ b o,b∈frs (envOfC qual scope s.heap.objs.size f cd::outer)->s'.heap.get? b=some o->∃ sl,h3.get? b=some { o with slots:=sl }:=fun b o hb e=>by
  obtain ⟨sl,e1⟩:=k1.slot b o hb e
  refine ⟨sl,?_⟩
  rw [oth3 b (oldT b o e (fT0 b hb))]
  exact (sb2 b (fr b hb)).trans e1
 have st3:h3.FunFrames base (envOfC qual scope s.heap.objs.size f cd::outer):=XD (fun b hb o e=>by
  obtain ⟨sl,e1⟩:=s3 b o hb e
  exact ⟨_,e1,rfl⟩) hst
 have le3:s'.heap.objs.size<=h3.objs.size:=by
  rw [sz3]
  have:h'.objs.size=h1.objs.size:=sb.1
  show s'.heap.objs.size<=h'.objs.size
  rw [this];exact k1.sz
 unfold leaving
 refine wpAny_bind (SI (s:={ s' with heap:=h3 }) (base:=base) I3.ok.frames st3 rfl tr3 fun h4 T4 k4 tr4=>?_)
 refine LD (s:={ s' with heap:=h4 }) tr4 fun h5 sz5 oth5 tr5 fl=>?_
 have old4:∀ b o,s'.heap.get? b=some o->b≠T0->b≠T4:=fun b o e n=>by
  rcases k4.new with z|z
  · rw [z];exact oldT b o e n
  · exact Nat.ne_of_lt (Nat.lt_of_lt_of_le (Nat.lt_of_lt_of_le (Heap.lt_size e) le3) z)
 have new4:H2 T4=none/\base.get? T4=none/\s.heap.get? T4=none:=by
  rcases k4.new with z|z
  · rw [z]
    rcases k1.new with y|y
    · rw [y];exact ⟨hT0,bT0,sx.2⟩
    · exact fresh T y
  · exact fresh T4 (Nat.le_trans le3 z)
 refine Q0f (s':=s') (h2:=h5) (bad:=[x,T0,C0]) I3 (fun c hc=>?_) (fun b o n1 n2 e=>?_) (fun b o hb e=>?_) ⟨hx0,hb0,sx.1,?_⟩ q
 · simp only [List.mem_cons,List.not_mem_nil,or_false] at hc
   rcases hc with rfl|rfl|rfl
   · exact ⟨hx0,sx.1⟩
   · exact ⟨hT0,sx.2⟩
   · exact ⟨fC,sC⟩
 · simp only [List.mem_cons,List.not_mem_nil,or_false,not_or] at n2
   obtain ⟨a1,a2,a3⟩:=n2
   rw [oth5 b (old4 b o e a2)]
   exact k4.keep b o n1 a1 (oldT b o e a2) (k3 b o n1 a1 a2 a3 e)
 · obtain ⟨sl,e1⟩:=s3 b o hb e
   obtain ⟨sl',e2⟩:=k4.slot b _ hb e1
   refine ⟨sl',?_⟩
   rw [oth5 b (old4 b o e (fT0 b hb))]
   exact e2
 · obtain ⟨oz,zs,z1,z2,z3,z4,z5,z6⟩:=tr5.ex
   obtain ⟨oT',ts',u1,u2,u3⟩:=fl
   exact ⟨oz,zs,T4,oT',ts',z1,z2,z3,z4,z5,z6,tr5.ne,new4.1,new4.2.1,new4.2.2,u1,u2,u3⟩
end
abbrev Q1z (led:Bool):Obj:={ cls:=.type "set",dict:=none,data:=.set #[] 0 (.fresh 0 0 led) }
abbrev met (ns:List Int)(k:Nat):List Int:=firstMet (fun i=>ns.getD i 0) k
def Asc (xs:Array Nat):Prop:=xs.toList.Pairwise (· < ·)
theorem Asc.lt {xs:Array Nat}(h:Asc xs){i j:Nat}(hij:i<j)(hj:j<xs.size):xs[i]'(by omega)<xs[j]:=by
 have:=List.pairwise_iff_getElem.mp h i j (by simp;omega) (by simpa using hj) hij
 simpa using this
theorem GR {xs:Array Nat}(h:Asc xs)(j:Nat):SetTable.below xs j<=xs.size/\(∀ i (hi:i<xs.size),i<SetTable.below xs j->xs[i]<j)/\∀ i (hi:i<xs.size),SetTable.below xs j<=i->j<=xs[i]:=by
 have go:∀ fuel lo hi,lo<=hi->hi<=xs.size->hi - lo<=fuel->(∀ i (q:i<xs.size),i<lo->xs[i]<j)->(∀ i (q:i<xs.size),hi<=i->j<=xs[i]) ->
  SetTable.below.go xs j fuel lo hi<=xs.size/\(∀ i (q:i<xs.size),i<SetTable.below.go xs j fuel lo hi->xs[i]<j)/\∀ i (q:i<xs.size),SetTable.below.go xs j fuel lo hi<=i->j<=xs[i]:=by
  intro fuel
  induction fuel with
  | zero =>
    intro lo hi h1 h2 h3 h4 h5
    have:lo=hi:=by omega
    subst this
    exact ⟨h2,h4,h5⟩
  | succ fuel ih =>
    intro lo hi h1 h2 h3 h4 h5
    unfold SetTable.below.go
    by_cases hl:lo<hi
    · rw [if_pos hl]
      have hm:(lo+hi) / 2<xs.size:=by omega
      have hg:xs.getD ((lo+hi) / 2) j=xs[(lo+hi) / 2]:=by simp [Array.getD,hm]
      dsimp only
      rw [hg]
      by_cases hx:xs[(lo+hi) / 2]<j
      · rw [if_pos hx]
        refine ih _ _ (by omega) h2 (by omega) (fun i q hi'=>?_) h5
        by_cases e:i=(lo+hi) / 2
        · subst e;exact hx
        · exact Nat.lt_trans (h.lt (show i<(lo+hi) / 2 by omega) hm) hx
      · rw [if_neg hx]
        refine ih _ _ (by omega) (by omega) (by omega) h4 fun i q hi'=>?_
        by_cases e:i=(lo+hi) / 2
        · subst e;omega
        · have:=h.lt (show (lo+hi) / 2<i by omega) q
          omega
    · rw [if_neg hl]
      have:lo=hi:=by omega
      subst this
      exact ⟨h2,h4,h5⟩
 unfold SetTable.below
 exact go xs.size 0 xs.size (Nat.zero_le _) (Nat.le_refl _) (by omega) (fun i _ z=>absurd z (Nat.not_lt_zero i)) fun i q z=>absurd q (by omega)
theorem VU {xs:Array Nat}(h:Asc xs){i:Nat}(hi:i<xs.size):SetTable.below xs (xs[i]+1)=i+1:=by
 obtain ⟨b1,b2,b3⟩:=GR h (xs[i]+1)
 generalize SetTable.below xs (xs[i]+1)=k at *
 rcases Nat.lt_trichotomy k (i+1) with z|z|z
 · have:=b3 i hi (by omega);omega
 · exact z
 · have a:=b2 (i+1) (by omega) (by omega)
   have b:=h.lt (show i<i+1 by omega) (show i+1<xs.size by omega)
   omega
theorem VT {xs:Array Nat}(h:Asc xs):SetTable.below xs 0=0:=by
 obtain ⟨b1,b2,b3⟩:=GR h 0
 generalize SetTable.below xs 0=k at *
 rcases Nat.eq_zero_or_pos k with z|z
 · exact z
 · have:=b2 0 (by omega) z;omega
theorem J9d {t:SetTable}{j:Nat}(h:Asc t.place)(hn:t.place[SetTable.below t.place j]?≠some j):Asc (t.put j).1.place:=by
 obtain ⟨b1,b2,b3⟩:=GR h j
 show Asc (SetTable.insertAt t.place (SetTable.below t.place j) j)
 generalize t.place=xs at *
 generalize SetTable.below xs j=k at *
 unfold Asc
 rw [SetTable.toList_insertAt]
 have e1:∀ x∈xs.toList.take k,x<j:=fun x hx=>by
  obtain ⟨i,hi,rfl⟩:=List.mem_iff_getElem.mp hx
  rw [List.length_take] at hi
  have hs:i<xs.size:=by have:xs.toList.length=xs.size:=Array.length_toList;omega
  have:=b2 i hs (by omega)
  simpa using this
 have e2:∀ x∈xs.toList.drop k,j<x:=fun x hx=>by
  obtain ⟨i,hi,rfl⟩:=List.mem_iff_getElem.mp hx
  rw [List.length_drop] at hi
  have hs:k+i<xs.size:=by have:xs.toList.length=xs.size:=Array.length_toList;omega
  have a:=b3 (k+i) hs (by omega)
  have b:xs[k+i]≠j:=by
   intro z
   by_cases i0:i=0
   · subst i0
     refine hn ?_
     have hk:k<xs.size:=by omega
     rw [Array.getElem?_eq_getElem hk]
     simpa using z
   · have hk:k<xs.size:=by omega
     have c:=h.lt (show k<k+i by omega) hs
     have d:=b3 k hk (Nat.le_refl _)
     omega
  simp only [List.getElem_drop,Array.getElem_toList]
  omega
 have hp:xs.toList.Pairwise (· < ·):=h
 rw [<- List.take_append_drop k xs.toList] at hp
 obtain ⟨p1,p2,p3⟩:=List.pairwise_append.mp hp
 refine List.pairwise_append.mpr ⟨p1,List.pairwise_cons.mpr ⟨e2,p2⟩,fun a ha b hb=>?_⟩
 rcases List.mem_cons.mp hb with z|z
 · rw [z];exact e1 a ha
 · exact Nat.lt_trans (e1 a ha) (e2 b z)
theorem IH (g:Nat->Option Nat):∀ l:List Nat,((l.filterMap fun j=>(g j).map (j,·)).map (·.1))=l.filter fun j=>(g j).isSome
 | []=>rfl
 | a::l=>by
   have:=IH g l
   rw [List.filterMap_cons,List.filter_cons]
   cases g a with
   | none=>simpa using this
   | some b=>simpa using this
structure Tb (w:World)(t:SetTable):Prop where
 dum:t.dummies=#[]
 led:w.params.followText "set-order" = false->t.led=true
 asc:t.plain=true->Asc t.place
theorem Tb.standIn {t:SetTable}(h:Tb w t)(n:Nat):Tb w (t.standIn n):=⟨rfl,h.led,fun z=>by cases z⟩
theorem Tb.fresh (w:World):Tb w (.fresh 0 0 (!w.params.followText "set-order")):=⟨rfl,fun z=>by simp [SetTable.fresh,z],fun _=>by simp [SetTable.fresh,Asc]⟩
theorem YM {t t':SetTable}{hs:Array Int}{n:Nat}{o:Array Nat}(h:Tb w t)(e:t.relaid hs n=some (t',o)):Tb w t':=by
 unfold SetTable.relaid SetTable.laid at e
 cases q:SetTable.layClean (SetTable.sizeAbove n - 1) hs with
 | none=>rw [q] at e;cases e
 | some owner =>
   rw [q] at e
   simp only [Option.bind_eq_bind,Option.bind_some] at e
   cases e
   refine ⟨rfl,h.led,fun _=>?_⟩
   unfold Asc
   simp only [List.toList_toArray]
   rw [IH]
   exact List.Pairwise.filter _ List.pairwise_lt_range
theorem RV {t:SetTable}{es:Array (Int×Value)}{n:Nat}(h:Tb w t):Tb w (relayAll t es n).2.1:=by
 unfold relayAll
 cases q:t.relaid (es.map (·.1)) n with
 | none=>exact h.standIn _
 | some r =>
   obtain ⟨t',o⟩:=r
   dsimp only
   split
   · exact YM h q
   · exact h.standIn _
theorem RZ {t:SetTable}{hashAt:Nat->Int}{h:Int}(hd:t.dummies=#[]):∀ (fuel:Nat) (p:SetTable.Probe) (j:Nat) (d:Option Nat),p.dummy=none->SetTable.probe.go t hashAt h fuel p=some (.empty j d)->d=none/\t.slot j=.empty
 | 0,p,j,d,_,e=>by cases e
 | fuel+1,p,j,d,hp,e=>by
   unfold SetTable.probe.go at e
   cases q:t.slot p.j with
   | empty =>
     rw [q] at e
     simp only [Option.some.injEq,SetTable.Met.empty.injEq] at e
     obtain ⟨rfl,rfl⟩:=e
     exact ⟨hp,q⟩
   | dummy =>
     exfalso
     unfold SetTable.slot at q
     dsimp only at q
     split at q
     · cases q
     · rw [hd] at q
       simp [SetTable.has] at q
   | live i =>
     rw [q] at e
     dsimp only at e
     split at e
     · cases e
     · refine RZ hd fuel _ j d ?_ e
       unfold SetTable.advance
       split
       · exact hp
       · exact hp
theorem ZA {t:SetTable}{es:Array (Int×Value)}{h:Int}{x:Value}(H:Tb w t):Tb w (layNew t es h x).2.1:=by
 unfold layNew
 cases q:t.freeSlot h with
 | none=>exact H.standIn _
 | some r =>
   obtain ⟨slot,wd⟩:=r
   dsimp only
   have hs:t.place[SetTable.below t.place slot]?≠some slot:=by
    unfold SetTable.freeSlot SetTable.probe at q
    split at q
    · rename_i j d e
      obtain ⟨rfl,z⟩:=RZ H.dum _ _ _ _ rfl e
      simp only [Option.getD_none,Option.isSome_none,Option.some.injEq,Prod.mk.injEq] at q
      rw [<- q.1]
      intro k
      unfold SetTable.slot at z
      dsimp only at z
      rw [k] at z
      simp at z
    · cases q
   have tp:Tb w (t.put slot).1:=by
    refine ⟨?_,H.led,fun z=>J9d (H.asc z) hs⟩
    show (if SetTable.has t.dummies slot then _ else t.dummies)=_
    rw [H.dum]
    simp [SetTable.has]
   unfold SetTable.orStandIn
   split
   · exact tp
   · exact tp.standIn _
def iv:Value->Int
 | .int n _=>n
 | _=>0
theorem J3s {k:Int}{v:Value}(h:Value.isInt k v=true):iv v=k/\∃ t,v=.int k t:=by
 obtain ⟨t,rfl⟩:=Value.isInt_shape h
 exact ⟨rfl,t,rfl⟩
abbrev nums (es:Array (Int×Value)):List Int:=es.toList.map fun e=>iv e.2
structure ISo (prog:Program)(w:World)(ns:List Int)(o:Obj)(es:Array (Int×Value))(ep:Nat)(t:SetTable):Prop where
 ex:o.ExactSet
 da:o.data=.set es ep t
 el:ElemsOf (intKind prog w) es.toList
 nd:(nums es).Nodup
 me:∀ z,z∈nums es↔z∈ns
 sz:es.size<=ns.length
 ft:t.fits es.size=true
 tb:Tb w t
def ISet (prog:Program)(w:World)(ns:List Int)(a:Addr)(h:Heap):Prop:=∃ o es ep t,h.get? a=some o/\ISo prog w ns o es ep t
section
variable {prog:Program}{w:World}{A:Around}{E:Value->Shared->Prop}{s:Shared}{ns:List Int}{a:Addr}
theorem ISet.typeIs (h:ISet prog w ns a s.heap):s.TypeIs (.ref a) "set":=by
 obtain ⟨o,es,ep,t,g,I⟩:=h
 exact ⟨o,g,I.ex.1⟩
theorem WL {h:Heap}{o:Obj}{es es':Array (Int×Value)}{ep:Nat}{t t':SetTable}(g:h.get? a=some o)(d:o.data=.set es ep t):(h.update a (Obj.putSet es' t')).get? a=some { o with data:=.set es' (ep+1) t' }:=by
 have q:=Heap.get?_update_self (Obj.putSet es' t') g (by rw [putSet_of es' t' d];rfl)
 rwa [putSet_of es' t' d] at q
theorem J3x {n:Int}{k:Tok}{Q:Value->Shared->Prop}(hS:ISet prog w ns a s.heap)(hl:ns.length<=2000)
 (fin:∀ h',Heap.SameBut a s.heap h'->ISet prog w (ns++[n]) a h'->Q .none { s with heap:=h',toks:=s.toks+1 }):wpAny (model prog w) A (call (.builtin "set.add") [.ref a,.int n k]) Q E s:=by
 refine wpAny_call_entry F.slot_set_add hS.typeIs F.entry_set_add ?_ (F.args_set_add_2 _ _)
 obtain ⟨o,es,ep,t,g,I⟩:=hS
 have key:(intKind prog w).is n (.int n k)=true:=by simp [intKind,Value.isInt]
 have sc:(Value.int n k).scannable=true:=rfl
 have sb:es.size<scanBound:=by have:=I.sz;show es.size<4096;omega
 unfold Builtin.«set.add» Builtin.Frozenset.oneOther
 simp only [List.isEmpty_nil,bind_assoc]
 unfold Builtin.Frozenset.addrOf setAdd
 refine wpAny_bind (wpAny_pure (wpAny_bind (wpAny_pure (wpAny_bind (wpAny_holding (wpAny_bind ((intKind prog w).pyHash key ?_)))))))
 generalize hs1:({ s with toks:=s.toks+1 }:Shared)=s1
 have g1:s1.heap.get? a=some o:=by rw [<- hs1];exact g
 have fin':∀ h',Heap.SameBut a s1.heap h'->ISet prog w (ns++[n]) a h'->wpAny (model prog w) A.in1 (ret Value.none) (fun r s2=>∃ v,r=.done (.ret v)/\Q v s2) E { s1 with heap:=h' }:=fun h' x y=>by
  subst hs1
  exact wpAny_pure ⟨_,rfl,fin h' x y⟩
 unfold setAddHashed setAddHashedIn
 refine wpAny_holding (wpAny_bind (wpAny_setState_of g1 I.da I.ft ?_))
 dsimp only
 rw [byScan_of sc sb I.el,if_pos rfl]
 unfold setAddByScan
 refine wpAny_bind (wpAny_bind (wpAny_rule (wpAny_bind (wpAny_setScan_of key g1 I.da I.ft I.el ?_))))
 cases hr:List.findIdx? (fun e=>(intKind prog w).is n e.2) es.toList with
 | some j =>
   obtain ⟨hj,hp,_⟩:=List.findIdx?_eq_some_iff_getElem.mp hr
   have mem:n∈nums es:=List.mem_map.mpr ⟨_,List.getElem_mem hj,(J3s hp).1⟩
   dsimp only
   refine wpAny_pure (wpAny_pure ?_)
   have e1:s1={ s1 with heap:=s1.heap }:=by cases s1;rfl
   rw [e1]
   refine fin' s1.heap (Heap.SameBut.refl a s1.heap) ⟨o,es,ep,t,g1,I.ex,I.da,I.el,I.nd,fun z=>?_,by have:=I.sz;rw [List.length_append];omega,I.ft,I.tb⟩
   rw [I.me z,List.mem_append,List.mem_singleton]
   exact ⟨.inl,fun q=>q.elim id fun e=>by rw [e];exact (I.me n).mp mem⟩
 | none =>
   have nm:n∉nums es:=fun z=>by
    obtain ⟨e,he,q⟩:=List.mem_map.mp z
    obtain ⟨⟨m,hm,_⟩,_⟩:=I.el e he
    have hm:Value.isInt m e.2=true:=hm
    have:=(J3s hm).1
    rw [this] at q
    subst q
    have:=List.findIdx?_eq_none_iff.mp hr e he
    rw [show (intKind prog w).is m e.2=true from hm] at this
    cases this
   dsimp only
   have gw:∀ (b:Bool) {s₁:Shared} {Q':Unit->Shared->Prop},Q' () s₁->wpAny (model prog w) A.in1 (match b with|true=>rule "set.scan.the-table-gave-way" | false=>pure ()) Q' E s₁:=fun b s₁ Q' q=>by
    cases b
    · exact wpAny_pure q
    · exact wpAny_rule q
   have pm:=layNew_perm t es ((intKind prog w).hash n) (.int n k)
   have lf:=layNew_fits t es ((intKind prog w).hash n) (.int n k)
   have lt:=ZA (es:=es) (h:=(intKind prog w).hash n) (x:=.int n k) I.tb
   generalize layNew t es ((intKind prog w).hash n) (.int n k)=L at pm lf lt ⊢
   obtain ⟨es1,t1,wd,gv⟩:=L
   dsimp only at pm lf lt ⊢
   have J:∀ {es2:Array (Int×Value)} {ep2:Nat} {t2:SetTable},es2.toList.Perm es1.toList->t2.fits es2.size=true->Tb w t2->ISo prog w (ns++[n]) { o with data:=.set es2 ep2 t2 } es2 ep2 t2:=fun {es2 ep2 t2} p f b=>by
    have p2:es2.toList.Perm (es.toList++[((intKind prog w).hash n,.int n k)]):=by rw [<- Array.toList_push];exact p.trans pm
    have pn:(nums es2).Perm (nums es++[n]):=by
     have:=p2.map fun e=>iv e.2
     rwa [List.map_append] at this
    refine ⟨I.ex,rfl,(I.el.push key sc).perm p2,pn.nodup_iff.mpr ?_,fun z=>?_,?_,f,b⟩
    · rw [List.nodup_append]
      refine ⟨I.nd,by simp,fun x hx y hy e=>?_⟩
      rw [List.mem_singleton] at hy
      subst hy;subst e
      exact nm hx
    · rw [pn.mem_iff,List.mem_append,List.mem_append,I.me z]
    · have:=p2.length_eq
      rw [Array.length_toList,List.length_append,Array.length_toList] at this
      have h2:=I.sz
      rw [List.length_append]
      simp only [List.length_cons,List.length_nil] at this ⊢
      omega
   have z1:es1.size<=4000:=by
    have:=(J (ep2:=0) (List.Perm.refl _) lf lt).sz
    rw [List.length_append] at this
    simp only [List.length_cons,List.length_nil] at this
    omega
   refine wpAny_bind (gw _ ?_)
   have tail:wpAny (model prog w) A.in1 (do
    storeSet a es1 t1
    if (!wd&&t1.tooFull)=true then do
     (match (relayAll t1 es1 (SetTable.grown es1.size)).2.2 with|true=>rule "set.scan.the-table-gave-way" | false=>pure ())
     storeSet a (relayAll t1 es1 (SetTable.grown es1.size)).1 (relayAll t1 es1 (SetTable.grown es1.size)).2.1
     pure (some true)
    else pure (some true)) (fun r s'=>r=some true/\∃ h',s'={ s1 with heap:=h' }/\Heap.SameBut a s1.heap h'/\ISet prog w (ns++[n]) a h') E s1:=by
    refine wpAny_bind (wpAny_storeSet_of g1 I.da ?_ (by rw [sizeLine_eq];omega))
    have g2:=WL (es':=es1) (t':=t1) g1 I.da
    have sb2:=Heap.SameBut.update s1.heap a (Obj.putSet es1 t1)
    split
    · have rp:=relayAll_perm t1 es1 (SetTable.grown es1.size)
      have rf:=relayAll_fits t1 es1 (SetTable.grown es1.size)
      have rt:=RV (es:=es1) (n:=SetTable.grown es1.size) lt
      generalize relayAll t1 es1 (SetTable.grown es1.size)=R at rp rf rt ⊢
      obtain ⟨es2,t2,gv2⟩:=R
      dsimp only at rp rf rt ⊢
      have z2:es2.size=es1.size:=by rw [<- Array.length_toList,rp.length_eq,Array.length_toList]
      refine wpAny_bind (gw _ (wpAny_bind (wpAny_storeSet_of g2 rfl ?_ (by rw [sizeLine_eq];omega))))
      exact wpAny_pure ⟨rfl,_,rfl,sb2.trans (Heap.SameBut.update _ a _),_,_,_,_,WL g2 rfl,J rp rf rt⟩
    · exact wpAny_pure ⟨rfl,_,rfl,sb2,_,_,_,_,g2,J (List.Perm.refl _) lf lt⟩
   have tl2:wpAny (model prog w) A.in1 (do
    storeSet a es1 t1
    if (!wd&&t1.tooFull)=true then do
     (match (relayAll t1 es1 (SetTable.grown es1.size)).2.2 with|true=>rule "set.scan.the-table-gave-way" | false=>pure ())
     storeSet a (relayAll t1 es1 (SetTable.grown es1.size)).1 (relayAll t1 es1 (SetTable.grown es1.size)).2.1
     pure (some true)
    else pure (some true)) (fun r s'=>wpAny (model prog w) A.in1 (match r with|some added=>pure added|none=>setAddHashedIn a (.int n k) ((intKind prog w).hash n) 99999) (fun _ s2=>wpAny (model prog w) A.in1 (ret Value.none) (fun fin s3=>∃ v,fin=.done (.ret v)/\Q v s3) E s2) E s') E s1:=wpAny_mono tail (fun r s' ⟨e,h',e2,x,y⟩=>by subst e;subst e2;exact wpAny_pure (fin' h' x y)) fun _ _ z=>z
   split
   · refine wpAny_bind ?_
     rw [hashByValue_scannable 8 sc]
     refine wpAny_pure ?_
     exact tl2
   · refine wpAny_bind (wpAny_pure ?_)
     exact tl2
end
theorem DW:Slot "set_iterator" "__next__" "set_iterator.__next__" :=
 .of (owner:="set_iterator") (n:="__next__") (by rw [typeLookup_type,builtinLookup_eq_fast];kernel_rfl) (by decide +kernel) (by decide +kernel) (by decide +kernel) (by first|exact .inl (by decide +kernel)|exact .inr (by decide +kernel)) (by rw [isSubtype_type];kernel_rfl)
theorem RH:Slot "set_iterator" "__iter__" "set_iterator.__iter__" :=
 .of (owner:="set_iterator") (n:="__iter__") (by rw [typeLookup_type,builtinLookup_eq_fast];kernel_rfl) (by decide +kernel) (by decide +kernel) (by decide +kernel) (by first|exact .inl (by decide +kernel)|exact .inr (by decide +kernel)) (by rw [isSubtype_type];kernel_rfl)
theorem MP:entryFor table "set_iterator.__next__" = some Builtin.«set_iterator.__next__»:=entryFor_of_fast (by kernel_rfl)
theorem RI (a:Value):argsOk "set_iterator.__next__" ⟨[a],[]⟩:=by unfold argsOk;kernel_rfl
theorem YG:entryFor table "set.__iter__" = some Builtin.«frozenset.__iter__»:=entryFor_alias (id':="frozenset.__iter__") (by kernel_rfl) rfl (by decide +kernel) (by kernel_rfl)
theorem GO {α:Type}:∀ (l:List α) (i:Nat) (hi:i<l.length),(l[i]::l.eraseIdx i).Perm l
 | [],i,hi=>absurd hi (Nat.not_lt_zero i)
 | x::xs,0,hi=>List.Perm.refl _
 | x::xs,i+1,hi=>(List.Perm.swap ..).trans (List.Perm.cons _ (GO xs i (Nat.lt_of_succ_lt_succ hi)))
section
variable {prog:Program}{w:World}{A:Around}{E:Value->Shared->Prop}{s:Shared}
theorem OC {src:Source}{n:Nat}{Q:Nat->Shared->Prop}(hn:n≠0)(h:∀ i d,i<n->Q i { s with drawn:=d }):wpAny (model prog w) A (choose src n) Q E s:=fun Γ p _=>by
 show n≠0/\_
 exact ⟨hn,h _ _ (Nat.mod_lt _ (Nat.pos_of_ne_zero hn))⟩
theorem EN {α:Type}:∀ (n:Nat) (xs:List α) (s:Shared) {Q:List α->Shared->Prop},xs.length=n->(∀ l d,l.Perm xs->Q l { s with drawn:=d })->wpAny (model prog w) A (drawOrder n xs) Q E s
 | 0,xs,s,Q,hl,h=>by
   have:xs=[]:=List.length_eq_zero_iff.mp hl
   subst this
   exact wpAny_pure (h [] s.drawn (List.Perm.refl _))
 | n+1,[],s,Q,hl,h=>by cases hl
 | n+1,x::xs,s,Q,hl,h=>by
   refine wpAny_bind (OC (by simp) fun i d hi=>?_)
   have e:(x::xs)[i]?=some ((x::xs)[i]'hi):=List.getElem?_eq_getElem hi
   rw [e]
   dsimp only
   refine wpAny_bind (EN n _ _ (by rw [List.length_eraseIdx_of_lt hi];omega) fun l d' p=>wpAny_pure ?_)
   exact h _ d' (List.Perm.trans (List.Perm.cons _ p) (GO _ _ hi))
end
theorem MU {α:Type}(next:Nat->Nat):∀ (f k:Nat) (l:List α) (o:Array α),l.length<=f->(pickOrder.go next f k l o).toList.Perm (o.toList++l)
 | 0,k,l,o,h=>by
   have:l=[]:=List.length_eq_zero_iff.mp (by omega)
   subst this
   simp [pickOrder.go]
 | f+1,k,l,o,h=>by
   unfold pickOrder.go
   by_cases hl:l.length=0
   · have:l=[]:=List.length_eq_zero_iff.mp hl
     subst this
     simp
   · have hi:next k % l.length<l.length:=Nat.mod_lt _ (by omega)
     rw [List.getElem?_eq_getElem hi]
     dsimp only
     refine (MU next f (k+1) _ _ (by rw [List.length_eraseIdx_of_lt hi];omega)).trans ?_
     rw [Array.toList_push,List.append_assoc]
     exact List.Perm.append_left _ (GO _ _ hi)
abbrev byT (w:World):Bool:=w.params.followText "set-order"
abbrev J0w (first:Value)(i:Nat)(a:Addr)(n ep:Nat):Obj:={ cls:=.type "set_iterator",data:=.fields #[first,.int i 0,.ref a,.int n 0,.int ep 0] }
inductive Way (w:World)(a:Addr)(es:Array (Int×Value))(ep:Nat)(t:SetTable)(ord:List (Int×Value))(fx:List Addr)(h:Heap)(i:Nat)(first:Value):Prop
 | text (k:Nat) (b:byT w=true) (f:first=.int k 0) (o:ord=(pickOrder (w.params.setOrder a ep) es).toList)
 | place (k:Nat) (b:byT w=false) (d:(!t.plain&&decide (es.size>1))=false) (c:Asc t.place) (f:first=.int k 0) (e:SetTable.below t.place k=i) (o:ord=es.toList)
 | drawn (p:Addr) (ps:List Nat) (b:byT w=false) (d:(!t.plain&&decide (es.size>1))=true) (f:first=.ref p) (m:p∈fx) (q:h.get? p=some { cls:=.type "tuple",data:=.seq (ps.map fun x:Nat=>Value.int (x:Int) 0).toArray 0 }) (o:ps.map (fun x=>es[x]?)=ord.map some)
section
variable {prog:Program}{w:World}{A:Around}{E:Value->Shared->Prop}{s:Shared}{a it:Addr}{o:Obj}{es:Array (Int×Value)}{ep:Nat}{t:SetTable}{ns:List Int}{ord:List (Int×Value)}{fx:List Addr}{i:Nat}{first:Value}
theorem MI (b:byT w=true)(g:s.heap.get? a=some o)(d:o.data=.set es ep t)(f:t.fits es.size=true){Q:Array (Int×Value)->Shared->Prop}(h:Q (pickOrder (w.params.setOrder a ep) es) s):wpAny (model prog w) A (setWalk a) Q E s:=by
 unfold setWalk setsByText
 refine wpAny_bind (wpAny_setState_of g d f ?_)
 dsimp only
 refine wpAny_bind (wpAny_bind (wpAny_askSetting (wpAny_pure ?_)))
 rw [show (model prog w).w.params.followText "set-order" = true from b,if_pos rfl]
 exact wpAny_bind (wpAny_askSetting (wpAny_pure h))
theorem AK {f0 f1:Value}{k:Nat}{v:Value}{fs:Array Value}{Q:Unit->Shared->Prop}(gi:s.heap.get? it=some { cls:=.type "set_iterator",data:=.fields fs }) (hk:k<fs.size)
 (h:∀ h',Heap.SameBut it s.heap h'->h'.get? it=some { cls:=.type "set_iterator",data:=.fields (fs.setIfInBounds k v) }->Q () { s with heap:=h' }):wpAny (model prog w) A (setField (.ref it) k v) Q E s:=by
 refine wpAny_setField gi rfl hk (h _ (Heap.SameBut.update ..) ?_)
 have q:=Heap.get?_update_self (Obj.mapFields (·.setIfInBounds k v)) gi (Obj.isFreed_of_fields (Obj.data_mapFields rfl _))
 exact q
theorem J2u {e:Int×Value}{Q:Option Value->Shared->Prop}(g:s.heap.get? a=some o)(I:ISo prog w ns o es ep t)(gi:s.heap.get? it=some (J0w first i a es.size ep))(W:Way w a es ep t ord fx s.heap i first)(ne:it≠a)(hx:ord[i]?=some e)
 (hQ:∀ f' h',Heap.SameBut it s.heap h'->h'.get? it=some (J0w f' (i+1) a es.size ep)->Way w a es ep t ord fx h' (i+1) f'->Q (some e.2) { s with heap:=h' }):wpAny (model prog w) A (pyNext (.ref it)) Q E s:=by
 have ty:s.TypeIs (.ref it) "set_iterator":=⟨_,gi,rfl⟩
 unfold pyNext
 refine wpAny_bind (wpAny_attempt (wpAny_callSpecial?_slot (name:=Str.ofString "__next__") ty DW (wpAny_call_entry DW ty MP ?_ (RI _))))
 unfold Builtin.«set_iterator.__next__»
 refine wpAny_bind (wpAny_pure (wpAny_bind (wpAny_fieldsOf gi rfl ?_)))
 dsimp only
 refine wpAny_bind ?_
 unfold setEntries
 refine wpAny_bind (wpAny_setState_of g I.da I.ft (wpAny_pure ?_))
 rw [if_neg (show ¬ ((((es.size:Int)!=(es.size:Int)))=true) by simp)]
 cases W with
 | text k b f od =>
   subst f
   dsimp only
   refine wpAny_bind ?_
   have tn:(fun fin s'=>∃ v,fin=Fin.done (Flow.ret v)/\wpAny (model prog w) A (pure (some v)) Q E s')=(fun fin s'=>∃ v,fin=Fin.done (Flow.ret v)/\wpAny (model prog w) A (pure (some v)) Q E s'):=rfl
   unfold setNext setsByText
   refine wpAny_bind (wpAny_setState_of g I.da I.ft ?_)
   dsimp only
   refine wpAny_bind (wpAny_bind (wpAny_askSetting (wpAny_pure ?_)))
   rw [show (model prog w).w.params.followText "set-order" = true from b,if_pos rfl]
   rw [if_neg (show ¬ ((ep != (ep:Int).toNat)=true) by simp)]
   refine wpAny_bind (MI b g I.da I.ft ?_)
   rw [od,Array.getElem?_toList] at hx
   simp only [Int.toNat_natCast]
   rw [hx]
   refine wpAny_pure ?_
   dsimp only [Option.map]
   refine wpAny_bind (AK (f0:=.none) (f1:=.none) gi (by simp) fun h1 b1 g1=>?_)
   refine wpAny_bind (AK (f0:=.none) (f1:=.none) (s:={ s with heap:=h1 }) g1 (by simp) fun h2 b2 g2=>?_)
   refine wpAny_pure ⟨_,rfl,wpAny_pure (hQ (.int k 0) h2 (b1.trans b2) ?_ ?_)⟩
   · rw [g2];simp [rawInt]
   · exact .text k b rfl od
 | place k b d c f e2 od =>
   subst f
   dsimp only
   refine wpAny_bind ?_
   unfold setNext setsByText
   refine wpAny_bind (wpAny_setState_of g I.da I.ft ?_)
   dsimp only
   refine wpAny_bind (wpAny_bind (wpAny_askSetting (wpAny_pure ?_)))
   rw [show (model prog w).w.params.followText "set-order" = false from b,if_neg Bool.false_ne_true]
   have led:=I.tb.led b
   have hp:t.place.size=es.size:=by have:=I.ft;simp only [SetTable.fits,Bool.and_eq_true,beq_iff_eq] at this;exact this.1
   rw [od,Array.getElem?_toList] at hx
   have hi:i<es.size:=(Array.getElem?_eq_some_iff.mp hx).1
   split
   · rename_i z
     have z:(!t.plain&&decide (es.size>1))=true:=z
     rw [d] at z;cases z
   · refine wpAny_bind ?_
     show wpAny _ _ (if (!t.led&&!es.isEmpty)=true then unsupported "set:maker-not-led" else pure ()) _ _ _
     rw [if_neg (by rw [led];simp)]
     refine wpAny_pure (wpAny_pure ?_)
     simp only [Int.toNat_natCast]
     rw [e2,hx,Array.getElem?_eq_getElem (show i<t.place.size by omega)]
     dsimp only
     refine wpAny_bind (AK (f0:=.none) (f1:=.none) gi (by simp) fun h1 b1 g1=>?_)
     refine wpAny_bind (AK (f0:=.none) (f1:=.none) (s:={ s with heap:=h1 }) g1 (by simp) fun h2 b2 g2=>?_)
     refine wpAny_pure ⟨_,rfl,wpAny_pure (hQ (.int (t.place[i]'(by omega)+1:Nat) 0) h2 (b1.trans b2) ?_ ?_)⟩
     · rw [g2];simp [rawInt]
     · exact .place _ b d c rfl (VU c _) od
 | drawn p ps b d f m q od =>
   subst f
   have hl:ps.length=ord.length:=by have:=congrArg List.length od;simpa using this
   have hi:i<ps.length:=by rw [hl];exact (List.getElem?_eq_some_iff.mp hx).1
   have pe:ps[i]?=some (ps[i]'hi):=List.getElem?_eq_getElem hi
   have ee:es[ps[i]'hi]?=some e:=by
    have:=congrArg (fun l=>l[i]?) od
    simp only [List.getElem?_map,pe,hx,Option.map_some,Option.some.injEq] at this
    exact this
   dsimp only
   refine wpAny_bind ?_
   unfold seqItems?
   dsimp only
   refine wpAny_bind (wpAny_load q ?_)
   dsimp only
   refine wpAny_pure ?_
   dsimp only
   simp only [Int.toNat_natCast,List.getElem?_toArray,List.getElem?_map,pe,Option.map_some]
   refine wpAny_bind ?_
   unfold setNextDrawn
   refine wpAny_bind (wpAny_setState_of g I.da I.ft ?_)
   dsimp only
   rw [if_neg (show ¬ ((ep != ep)=true) by simp),ee]
   dsimp only
   refine wpAny_pure ?_
   refine wpAny_bind (AK (f0:=.none) (f1:=.none) gi (by simp) fun h1 b1 g1=>?_)
   have pn:p≠it:=fun z=>by subst z;rw [gi] at q;exact absurd (Value.type.inj (congrArg Obj.cls (Option.some.inj q))) (by decide)
   refine wpAny_pure ⟨_,rfl,wpAny_pure (hQ (.ref p) h1 b1 ?_ ?_)⟩
   · rw [g1];simp [rawInt]
   · exact .drawn p ps b d rfl m ((b1.2 p pn).trans q) od
theorem J8c {Q:Option Value->Shared->Prop}(hh:A.handled=none)(g:s.heap.get? a=some o)(I:ISo prog w ns o es ep t)(gi:s.heap.get? it=some (J0w first i a es.size ep))(W:Way w a es ep t ord fx s.heap i first)(ne:it≠a)(hi:i=es.size)(hl:ord.length=es.size)
 (hQ:∀ h',Heap.ExtBut it s.heap h'->Q none { s with heap:=h' }):wpAny (model prog w) A (pyNext (.ref it)) Q E s:=by
 have ty:s.TypeIs (.ref it) "set_iterator":=⟨_,gi,rfl⟩
 unfold pyNext
 refine wpAny_bind (wpAny_attempt (wpAny_callSpecial?_slot (name:=Str.ofString "__next__") ty DW (wpAny_call_entry DW ty MP ?_ (RI _))))
 unfold Builtin.«set_iterator.__next__»
 refine wpAny_bind (wpAny_pure (wpAny_bind (wpAny_fieldsOf gi rfl ?_)))
 dsimp only
 refine wpAny_bind ?_
 unfold setEntries
 refine wpAny_bind (wpAny_setState_of g I.da I.ft (wpAny_pure ?_))
 rw [if_neg (show ¬ ((((es.size:Int)!=(es.size:Int)))=true) by simp)]
 have stop:∀ (h1:Heap),Heap.SameBut it s.heap h1->wpAny (model prog w) A.in1 (newExc (.type "StopIteration") [] >>= raiseNew) (fun fin s'=>∃ v,fin=Fin.done (Flow.ret v)/\wpAny (model prog w) A (pure (some v)) Q E s') (fun e s'=>wpAny (model prog w) A (do if <- isInstance e (.type "StopIteration") then pure none else throw e) Q E s') { s with heap:=h1 }:=fun h1 b1=>by
  refine wpAny_bind ?_
  simp only [newExc,newTuple]
  refine wpAny_bind (wpAny_newObj_type ?_ (by size_fits))
  refine wpAny_bind (m:=firstArgMember _ _) (wpAny_of_eq (a:=Value.none) (by first|rfl|(simp only [firstArgMember];rfl)) (wpAny_newObj_type ?_ (by size_fits)))
  simp only [raiseNew]
  refine wpAny_bind (wpAny_handled ?_)
  rw [show A.in1.handled=none from hh]
  refine wpAny_bind (wpAny_pure (wpAny_throw ?_))
  refine wpAny_bind (wpAny_isInstance (T:="StopIteration") (b:=true) ⟨_,Heap.get?_push_size _ rfl,rfl⟩ isSubtype_stop (wpAny_pure (hQ _ ((b1.extBut.push _).push _))))
 cases W with
 | text k b f od =>
   subst f
   dsimp only
   refine wpAny_bind ?_
   unfold setNext setsByText
   refine wpAny_bind (wpAny_setState_of g I.da I.ft ?_)
   dsimp only
   refine wpAny_bind (wpAny_bind (wpAny_askSetting (wpAny_pure ?_)))
   rw [show (model prog w).w.params.followText "set-order" = true from b,if_pos rfl]
   rw [if_neg (show ¬ ((ep != (ep:Int).toNat)=true) by simp)]
   refine wpAny_bind (MI b g I.da I.ft ?_)
   have hx:(pickOrder (w.params.setOrder a ep) es)[i]?=none:=by
    rw [<- Array.getElem?_toList,<- od,List.getElem?_eq_none_iff];omega
   simp only [Int.toNat_natCast]
   rw [hx]
   refine wpAny_pure ?_
   dsimp only [Option.map]
   exact wpAny_bind (AK (f0:=.none) (f1:=.none) gi (by simp) fun h1 b1 g1=>stop h1 b1)
 | place k b d c f e2 od =>
   subst f
   dsimp only
   refine wpAny_bind ?_
   unfold setNext setsByText
   refine wpAny_bind (wpAny_setState_of g I.da I.ft ?_)
   dsimp only
   refine wpAny_bind (wpAny_bind (wpAny_askSetting (wpAny_pure ?_)))
   rw [show (model prog w).w.params.followText "set-order" = false from b,if_neg Bool.false_ne_true]
   have led:=I.tb.led b
   split
   · rename_i z
     have z:(!t.plain&&decide (es.size>1))=true:=z
     rw [d] at z;cases z
   · refine wpAny_bind ?_
     show wpAny _ _ (if (!t.led&&!es.isEmpty)=true then unsupported "set:maker-not-led" else pure ()) _ _ _
     rw [if_neg (by rw [led];simp)]
     refine wpAny_pure (wpAny_pure ?_)
     simp only [Int.toNat_natCast]
     rw [e2,Array.getElem?_eq_none (show es.size<=i by omega)]
     dsimp only
     exact wpAny_bind (AK (f0:=.none) (f1:=.none) gi (by simp) fun h1 b1 g1=>stop h1 b1)
 | drawn p ps b d f m q od =>
   subst f
   have hl2:ps.length=ord.length:=by have:=congrArg List.length od;simpa using this
   dsimp only
   refine wpAny_bind ?_
   unfold seqItems?
   dsimp only
   refine wpAny_bind (wpAny_load q ?_)
   dsimp only
   refine wpAny_pure ?_
   dsimp only
   have pe:ps[i]?=none:=by rw [List.getElem?_eq_none_iff];omega
   simp only [Int.toNat_natCast,List.getElem?_toArray,List.getElem?_map,pe,Option.map_none]
   refine wpAny_bind (AK (f0:=.none) (f1:=.none) gi (by simp) fun h1 b1 g1=>?_)
   exact wpAny_bind (AK (f0:=.none) (f1:=.none) (s:={ s with heap:=h1 }) g1 (by simp) fun h2 b2 g2=>stop h2 (b1.trans b2))
end
section
variable {prog:Program}{w:World}{A:Around}{E:Value->Shared->Prop}{s:Shared}{a it:Addr}{o:Obj}{es:Array (Int×Value)}{ep:Nat}{t:SetTable}{ns:List Int}{ord:List (Int×Value)}{first:Value}
theorem J3t {Q:Value->Shared->Prop}(g:s.heap.get? a=some o)(I:ISo prog w ns o es ep t)(hz:es.size<=2000)
 (hQ:∀ it h' d ord fx first,ord.Perm es.toList->h'.get? it=some (J0w first 0 a es.size ep)->Way w a es ep t ord fx h' 0 first->(∀ b o,s.heap.get? b=some o->h'.get? b=some o)->s.heap.objs.size<=it->(∀ p∈fx,s.heap.objs.size<=p/\p≠it)->Q (.ref it) { s with heap:=h',drawn:=d }):wpAny (model prog w) A (pyIter (.ref a)) Q E s:=by
 have hT:s.TypeIs (.ref a) "set":=⟨o,g,I.ex.1⟩
 refine wpAny_pyIter_slot hT PySem.F.slot_set_iter (wpAny_call_entry PySem.F.slot_set_iter hT YG ?_ (PySem.F.args_set_iter_1 _))
 unfold Builtin.«frozenset.__iter__»
 refine wpAny_bind ?_
 unfold Builtin.Frozenset.slot0
 refine wpAny_bind (wpAny_pure ?_)
 show wpAny _ _ (pure a) _ _ s
 refine wpAny_pure (wpAny_bind ?_)
 unfold Builtin.Frozenset.sizeOf setEntries
 refine wpAny_bind (wpAny_bind (wpAny_setState_of g I.da I.ft (wpAny_pure (wpAny_pure ?_))))
 refine wpAny_bind ?_
 unfold setDrawn setsByText
 refine wpAny_bind (wpAny_setState_of g I.da I.ft ?_)
 dsimp only
 refine wpAny_bind (wpAny_bind (wpAny_askSetting (wpAny_pure (wpAny_pure ?_))))
 have hp:t.place.size=es.size:=by have:=I.ft;simp only [SetTable.fits,Bool.and_eq_true,beq_iff_eq] at this;exact this.1
 have ends:∀ (s1:Shared) (first:Value) (fx:List Addr) (ord:List (Int×Value)),(∃ h1 d,s1={ s with heap:=h1,drawn:=d }/\(∀ b o,s.heap.get? b=some o->h1.get? b=some o)/\s.heap.objs.size<=h1.objs.size)->ord.Perm es.toList->(∀ h',(∀ b o,s1.heap.get? b=some o->h'.get? b=some o)->Way w a es ep t ord fx h' 0 first)->(∀ p∈fx,s.heap.objs.size<=p/\p<s1.heap.objs.size) ->
  wpAny (model prog w) A.in1 (do
   let __do_lift <- setEpoch a
   let __do_lift <- newFields "set_iterator" [first,rawInt 0,Value.ref a,rawInt es.size,rawInt __do_lift]
   ret __do_lift) (fun fin s'=>∃ v,fin=Fin.done (Flow.ret v)/\∃ T id,s'.TypeIs v T/\typeLookup (Value.type T) "__next__" = pure (some id)/\Q v s') E s1:=by
  rintro s1 first fx ord ⟨h1,d,rfl,k1,z1⟩ po W hf
  refine wpAny_bind (wpAny_setEpoch_of (k1 _ _ g) I.da I.ft ?_)
  refine wpAny_bind (wpAny_newObj_type (wpAny_pure ⟨_,rfl,"set_iterator",_,⟨_,Heap.get?_push_size _ rfl,rfl⟩,DW.lookup,?_⟩))
  refine hQ _ _ d ord fx first po ?_ (W _ fun b o e=>Heap.get?_push_of_some _ e) (fun b o e=>Heap.get?_push_of_some _ (k1 b o e)) z1 fun p m=>⟨(hf p m).1,Nat.ne_of_lt (hf p m).2⟩
  rw [Heap.get?_push_size _ rfl]
  simp [rawInt]
 cases b:byT w with
 | true =>
   rw [show (model prog w).w.params.followText "set-order" = true from b]
   simp only [Bool.not_true,Bool.false_and,Bool.false_eq_true,if_false]
   refine wpAny_bind (wpAny_pure ?_)
   refine ends s (rawInt 0) [] (pickOrder (w.params.setOrder a ep) es).toList ⟨s.heap,s.drawn,rfl,fun _ _ e=>e,Nat.le_refl _⟩ ?_ (fun h' _=>.text 0 b rfl rfl) fun p z=>by cases z
   have:=MU (w.params.setOrder a ep) es.size 0 es.toList #[] (by simp)
   simpa [pickOrder] using this
 | false =>
   rw [show (model prog w).w.params.followText "set-order" = false from b]
   simp only [Bool.not_false,Bool.true_and]
   split
   · rename_i z
     have z:(!t.plain&&decide (es.size>1))=true:=z
     refine wpAny_bind (EN es.size (List.range es.size) s List.length_range fun l d p=>?_)
     have lz:l.length<=2000:=by rw [p.length_eq,List.length_range];exact hz
     simp only [newTuple]
     refine wpAny_bind (wpAny_newObj_type ?_ (by show _<=_;simp only [List.size_toArray,List.length_map];rw [sizeLine_eq];omega))
     have mem:∀ x∈l,x<es.size:=fun x hx=>List.mem_range.mp (p.mem_iff.mp hx)
     have po:(l.filterMap fun x=>es[x]?).Perm es.toList:=by
      have:=p.filterMap fun x=>es[x]?
      rwa [filterMap_getElem?_range] at this
     have om:l.map (fun x=>es[x]?)=(l.filterMap fun x=>es[x]?).map some:=by
      clear po p lz
      induction l with
      | nil=>rfl
      | cons x l ih =>
        have hx:=mem x (List.mem_cons_self ..)
        rw [List.map_cons,List.filterMap_cons,Array.getElem?_eq_getElem hx,ih fun y hy=>mem y (List.mem_cons_of_mem _ hy)]
        rfl
     refine ends _ (.ref s.heap.objs.size) [s.heap.objs.size] (l.filterMap fun x=>es[x]?) ⟨_,d,rfl,fun b o e=>Heap.get?_push_of_some _ e,by show _<=(s.heap.push _).objs.size;rw [Heap.size_push];omega⟩ po (fun h' k=>  .drawn _ l b z rfl (by simp) (k _ _ (by rw [Heap.get?_push_size _ rfl];rfl)) om) fun q e=>by rw [List.mem_singleton.mp e];exact ⟨Nat.le_refl _,by show _<(s.heap.push _).objs.size;rw [Heap.size_push];omega⟩
   · rename_i z
     have z:(!t.plain&&decide (es.size>1))=false:=by
      cases q:(!t.plain&&decide (es.size>1)) with
      | false=>rfl
      | true=>exact absurd q z
     have asc:Asc t.place:=by
      cases q:t.plain with
      | true=>exact I.tb.asc q
      | false =>
        rw [q] at z
        simp only [Bool.not_false,Bool.true_and,decide_eq_false_iff_not] at z
        unfold Asc
        have:t.place.toList.length<=1:=by rw [Array.length_toList];omega
        match hq:t.place.toList,this with
        | [],_=>exact List.Pairwise.nil
        | [x],_=>simp
     refine wpAny_bind (wpAny_pure ?_)
     exact ends s (rawInt 0) [] es.toList ⟨s.heap,s.drawn,rfl,fun _ _ e=>e,Nat.le_refl _⟩ (List.Perm.refl _) (fun h' _=>.place 0 b z asc rfl (VT asc) rfl) fun p z=>by cases z
end
theorem JR:typeLookup (.type "set") "__len__" = pure (some (.builtin "set.__len__")):=by rw [typeLookup_type,builtinLookup_eq_fast];kernel_rfl
theorem YF:entryFor table "set_iterator.__iter__" = some Builtin.«dict_keyiterator.__iter__»:=entryFor_alias (id':="dict_keyiterator.__iter__") (by kernel_rfl) rfl (by decide +kernel) (by kernel_rfl)
theorem J0x (a:Value):argsOk "set_iterator.__iter__" ⟨[a],[]⟩:=by unfold argsOk;kernel_rfl
section
variable {prog:Program}{w:World}{A:Around}{E:Value->Shared->Prop}{s:Shared}{a it:Addr}{o:Obj}{es:Array (Int×Value)}{ep:Nat}{t:SetTable}{ns:List Int}{ord:List (Int×Value)}{fx:List Addr}{i:Nat}{first:Value}
def SSt (w:World)(a it:Addr)(o:Obj)(es:Array (Int×Value))(ep:Nat)(t:SetTable)(ord:List (Int×Value))(fx:List Addr)(i:Nat)(h:Heap):Prop:=h.get? a=some o/\∃ first,h.get? it=some (J0w first i a es.size ep)/\Way w a es ep t ord fx h i first
theorem Way.frame {h h':Heap}(W:Way w a es ep t ord fx h i first)(k:∀ b∈fx,∀ o,h.get? b=some o->h'.get? b=some o):Way w a es ep t ord fx h' i first:=by
 cases W with
 | text k b f o=>exact .text k b f o
 | place k b d c f e o=>exact .place k b d c f e o
 | drawn p ps b d f m q o=>exact .drawn p ps b d f m (k p m _ q) o
theorem YH (hh:A.handled=none)(I:ISo prog w ns o es ep t)(ne:it≠a)(nf:it∉fx)(po:ord.Perm es.toList):Walks prog w A it (it::a::fx) [it] es.size (fun i v=>∃ e,ord[i]?=some e/\v=e.2) (SSt w a it o es ep t ord fx) where
 sub:=fun b hb=>by rw [List.mem_singleton.mp hb];exact List.mem_cons_self ..
 frame:=fun i h h' ⟨g,f,gi,W⟩ k=>⟨k a (by simp) _ g,f,k it (by simp) _ gi,W.frame fun b hb=>k b (by simp [hb])⟩
 item:=fun i s Q E hi ⟨g,f,gi,W⟩ hQ=>by
  have hl:ord.length=es.size:=by rw [po.length_eq,Array.length_toList]
  obtain ⟨e,he⟩:∃ e,ord[i]?=some e:=⟨ord[i]'(by omega),List.getElem?_eq_getElem _⟩
  refine J2u g I gi W ne he fun f' h' b g' W'=>?_
  exact hQ e.2 h' s.toks ⟨e,he,rfl⟩ ⟨(b.2 a ne.symm).trans g,f',g',W'⟩ fun c oc nc q=>(b.2 c (fun z=>nc (by simp [z]))).trans q
 done:=fun s Q E ⟨g,f,gi,W⟩ hQ=>by
  have hl:ord.length=es.size:=by rw [po.length_eq,Array.length_toList]
  refine J8c hh g I gi W ne rfl hl fun h' b=>?_
  exact hQ h' s.toks fun c oc nc q=>b c oc (fun z=>nc (by simp [z])) q
 self:=fun i s Q E ⟨g,f,gi,W⟩ h=>by
  have ty:s.TypeIs (.ref it) "set_iterator":=⟨_,gi,rfl⟩
  refine wpAny_pyIter_slot ty RH (wpAny_call_entry RH ty YF ?_ (J0x _))
  show wpAny _ _ (ret (.ref it)) _ _ s
  exact wpAny_pure ⟨_,rfl,"set_iterator",_,ty,DW.lookup,h⟩
theorem TY {Q:List Value->Shared->Prop}(hh:A.handled=none)(g:s.heap.get? a=some o)(I:ISo prog w ns o es ep t)(hz:es.size<=2000)
 (hQ:∀ vs h' d tk,(∃ ord:List (Int×Value),ord.Perm es.toList/\vs=ord.map (·.2))->(∀ b o,s.heap.get? b=some o->h'.get? b=some o)->s.heap.objs.size<=h'.objs.size->Q vs { s with heap:=h',drawn:=d,toks:=tk }):wpAny (model prog w) A (collect (.ref a)) Q E s:=by
 unfold collect
 refine wpAny_bind (wpAny_runValue (codeAny_builtin F.entry_proto_collect ?_))
 rw [Around.under_plainId F.plain_proto_collect _]
 show wpAny _ A.in1 (newList [] >>= fun l=>again (.builtin "list.__iadd__" ⟨[l,.ref a],[]⟩)) _ _ s
 refine wpAny_bind (wpAny_newObj_type ?_)
 refine wpAny_pure ⟨plainId_quiet F.plain_list_iadd _,codeAny_builtin F.entry_list_iadd ?_⟩
 rw [Around.under_plainId F.plain_list_iadd _]
 show wpAny _ A.in1 (Builtin.List.listExtendWith (.ref s.heap.objs.size) (.ref a) (.ref s.heap.objs.size)) _ _ _
 generalize hH:s.heap.push { cls:=.type "list",data:=.seq ([]:List Value).toArray }=H
 have al:a<s.heap.objs.size:=Heap.lt_size g
 have gH:H.get? a=some o:=hH▸Heap.get?_push_of_some _ g
 have gS:H.get? s.heap.objs.size=some { cls:=.type "list",data:=.seq ([]:List Value).toArray }:=hH▸Heap.get?_push_size _ rfl
 have hHs:H.objs.size=s.heap.objs.size+1:=by rw [<- hH,Heap.size_push]
 have tH:Shared.TypeIs { s with heap:=H } (.ref a) "set":=⟨o,gH,I.ex.1⟩
 unfold Builtin.List.listExtendWith
 refine wpAny_bind (wpAny_typeOf tH ?_)
 have h1:Builtin.List.listSameRef (.ref s.heap.objs.size) (.ref a)=false:=by
  show (s.heap.objs.size==a)=false
  exact beq_eq_false_iff_ne.mpr (Nat.ne_of_gt al)
 have h2:(Value.type "set"==Value.type "list")=false:=by decide
 have h3:(Value.type "set"==Value.type "tuple")=false:=by decide
 simp only [h1,h2,h3,Bool.or_false,Bool.false_eq_true,if_false]
 refine wpAny_bind (J3t (s:={ s with heap:=H }) gH I hz fun it h' d ord fx first po gi W k zi zf=>?_)
 refine wpAny_bind (wpAny_holding ?_)
 unfold Builtin.List.listLengthHint
 have t2:Shared.TypeIs { s with heap:=h',drawn:=d } (.ref a) "set":=⟨o,k _ _ gH,I.ex.1⟩
 refine wpAny_bind (wpAny_specialOf t2 JR ?_)
 wp_delta
 refine wpAny_bind (wpAny_isInstance (T:="set") (b:=true) t2 (by rw [isSubtype_type];kernel_rfl) ?_)
 show wpAny _ A.in1 (typeOf (Value.ref a) >>= _) _ _ _
 refine wpAny_bind (wpAny_typeOf t2 ?_)
 refine wpAny_pure ?_
 rw [if_pos (by decide)]
 refine wpAny_bind (wpAny_rule (wpAny_bind ?_))
 unfold Builtin.List.listTouch
 have g0:h'.get? s.heap.objs.size=some (seqObj "list" #[] 0):=k _ _ gS
 refine wpAny_bind (listUpdate_at (s:={ s with heap:=h',drawn:=d }) g0 rfl ?_)
 obtain ⟨e1,g1⟩:∃ e1,(h'.update s.heap.objs.size (Obj.mapSeq (·.push Value.none))).get? s.heap.objs.size=some (seqObj "list" #[Value.none] e1):=⟨_,get?_update_seq g0 (·.push Value.none)⟩
 refine listUpdate_at (s:={ s with heap:=h'.update s.heap.objs.size (Obj.mapSeq (·.push Value.none)),drawn:=d }) g1 rfl ?_
 obtain ⟨e2,g2⟩:∃ e2,((h'.update s.heap.objs.size (Obj.mapSeq (·.push Value.none))).update s.heap.objs.size (Obj.mapSeq (·.pop))).get? s.heap.objs.size=some (seqObj "list" #[] e2):=⟨_,get?_update_seq g1 (·.pop)⟩
 have sb:=(Heap.SameBut.update h' s.heap.objs.size (Obj.mapSeq (·.push Value.none))).trans (Heap.SameBut.update (h'.update s.heap.objs.size (Obj.mapSeq (·.push Value.none))) s.heap.objs.size (Obj.mapSeq (·.pop)))
 generalize (h'.update s.heap.objs.size (Obj.mapSeq (·.push Value.none))).update s.heap.objs.size (Obj.mapSeq (·.pop))=h2 at *
 have zi:s.heap.objs.size<it:=by have:H.objs.size<=it:=zi;omega
 have nS:s.heap.objs.size∉it::a::fx:=fun m=>by
  rcases List.mem_cons.mp m with z|z
  · exact absurd z (Nat.ne_of_lt zi)
  · rcases List.mem_cons.mp z with z|z
    · exact absurd z (Nat.ne_of_gt al)
    · have:=(zf _ z).1
      have:H.objs.size<=s.heap.objs.size:=this
      omega
 have ks:∀ b,b≠s.heap.objs.size->∀ q,h'.get? b=some q->h2.get? b=some q:=fun b nb q e=>(sb.2 b nb).trans e
 have st:SSt w a it o es ep t ord fx 0 h2:=⟨ks a (Nat.ne_of_lt al) _ (k _ _ gH),first,ks it (Nat.ne_of_gt zi) _ gi,W.frame fun b hb q e=>ks b (fun z=>nS (by simp [<- z,hb])) q e⟩
 have Wk:=YH (A:=A.in1) (it:=it) (fx:=fx) (by simp [hh]) I (Nat.ne_of_gt (Nat.lt_trans al zi)) (fun m=>(zf _ m).2 rfl) po
 refine wpAny_pure ⟨plainId_quiet F.plain_extend_loop _,codeAny_extend_loopS (Wk.toS) (by rw [sizeLine_eq];omega) _ nS _ es.size 0 _ _ _ rfl (Nat.zero_le _) st g2 (ItemsOf.nil _) fun s' acc' c' hm hS' hacc=>?_⟩
 show wpAny _ A (load s.heap.objs.size >>= _) _ _ s'
 refine wpAny_bind (wpAny_load hS' ?_)
 obtain ⟨h3,g3,d3,tk3,os3⟩:=s'
 cases (show g3=s.gens from hm.gens)
 cases (show os3=s.os from hm.os)
 refine wpAny_pure (hQ acc'.toList h3 d3 tk3 ⟨ord,po,?_⟩ (fun b q e=>?_) (Nat.le_of_lt (Heap.lt_size hS')))
 · obtain ⟨z1,z2⟩:=hacc
   have hl:ord.length=es.size:=by rw [po.length_eq,Array.length_toList]
   apply List.ext_getElem?
   intro j
   rw [List.getElem?_map,Array.getElem?_toList]
   cases q:acc'[j]? with
   | none =>
     have:=Array.getElem?_eq_none_iff.mp q
     rw [List.getElem?_eq_none (by omega)]
     rfl
   | some v =>
     obtain ⟨e,e1,rfl⟩:=z2 j v q
     rw [e1]
     rfl
 · have bl:=Heap.lt_size e
   have kH:h'.get? b=some q:=k _ _ (hH▸Heap.get?_push_of_some _ e)
   refine hm.heap b q (fun m=>?_) (ks b (Nat.ne_of_lt bl) _ kH)
   rcases List.mem_cons.mp m with z|z
   · exact absurd z (Nat.ne_of_lt bl)
   · rw [List.mem_singleton.mp z] at bl
     exact absurd bl (Nat.not_lt.mpr (Nat.le_of_lt zi))
end
theorem WZ:∀ l:List (Int×Value),(∀ e∈l,∃ n t,e.2=Value.int n t)->IntsAre (l.map (·.2)) (l.map fun e=>iv e.2)
 | [],_=>.nil
 | e::l,h=>by
   obtain ⟨n,t,q⟩:=h e (List.mem_cons_self ..)
   have:=WZ l fun x hx=>h x (List.mem_cons_of_mem _ hx)
   rw [List.map_cons,List.map_cons,q]
   exact .cons n t this
section
variable {prog:Program}{w:World}{A:Around}{E:Value->Shared->Prop}{s:Shared}{a:Addr}{o:Obj}{es:Array (Int×Value)}{ep:Nat}{t:SetTable}{ns:List Int}
theorem UO {Q:Value->Shared->Prop}(hh:A.handled=none)(g:s.heap.get? a=some o)(I:ISo prog w ns o es ep t)(hz:es.size<64)
 (fin:∀ (out:Array Value) (ks:List Int) (L:Addr) (e:Nat) h' d tk,IntsAre out.toList ks->ks.Perm (nums es)->ks.Pairwise (·<=·)->h'.get? L=some (seqObj "list" out e)->s.heap.objs.size<=L->(∀ b o,s.heap.get? b=some o->h'.get? b=some o)->Q (.ref L) { s with heap:=h',drawn:=d,toks:=tk }):wpAny (model prog w) A (call (.builtin "sorted") [.ref a]) Q E s:=by
 refine Calls.call_function_entry kind_sorted plain_sorted entry_sorted (args_sorted1 _) ?_
 unfold Builtin.«sorted»
 refine wpAny_bind (m:=checkCount "sorted" 1 1 _) (wpAny_pure ?_)
 refine wpAny_bind (TY (by simp [hh]) g I (by omega) fun vs h' d tk hv k zs=>?_)
 obtain ⟨ord,po,rfl⟩:=hv
 have vi:=WZ ord fun e he=>by
  obtain ⟨⟨m,hm,_⟩,_⟩:=I.el e (po.mem_iff.mp he)
  obtain ⟨t,q⟩:=(J3s (show Value.isInt m e.2=true from hm)).2
  exact ⟨m,t,q⟩
 have hl:(ord.map (·.2)).length<64:=by rw [List.length_map,po.length_eq,Array.length_toList];exact hz
 refine wpAny_bind (wpAny_newList ?_)
 have hoL:(h'.push (seqObj "list" (ord.map (·.2)).toArray 0)).get? h'.objs.size=some (seqObj "list" (ord.map (·.2)).toArray 0):=Heap.get?_push_size _ rfl
 refine wpAny_bind (wpAny_holding (wpAny_call_entry (s:={ s with heap:=h'.push (seqObj "list" (ord.map (·.2)).toArray 0),drawn:=d,toks:=tk }) slot_list_sort ⟨_,hoL,rfl⟩ entry_list_sort (list_sort_tree hoL vi hl fun out ks a1 a2 a3=>⟨_,rfl,?_⟩) (args_list_sort _)))
 refine wpAny_pure ⟨_,rfl,?_⟩
 show Q (.ref h'.objs.size) { s with heap:=sortedHeap (h'.push (seqObj "list" (ord.map (·.2)).toArray 0)) h'.objs.size (ord.map (·.2)) out,drawn:=d,toks:=tk }
 unfold sortedHeap
 have zz:(h'.push (seqObj "list" (ord.map (·.2)).toArray 0)).objs.size=h'.objs.size+1:=size_push' ..
 obtain ⟨e1,q1⟩:∃ e1,((h'.push (seqObj "list" (ord.map (·.2)).toArray 0)).update h'.objs.size (Obj.mapSeq fun _=>#[])).get? h'.objs.size=some (seqObj "list" #[] e1):=⟨_,get?_update_seq hoL (fun _=>#[])⟩
 have zu:((h'.push (seqObj "list" (ord.map (·.2)).toArray 0)).update h'.objs.size (Obj.mapSeq fun _=>#[])).objs.size=h'.objs.size+1:=by rw [Heap.size_update];exact zz
 have q2:=Heap.get?_push_of_some (seqObj "list" #[] 0) (Heap.get?_push_of_some (seqObj "tuple" (ord.map (·.2)).toArray 0) q1)
 obtain ⟨e3,q3⟩:∃ e3,(((((h'.push (seqObj "list" (ord.map (·.2)).toArray 0)).update h'.objs.size (Obj.mapSeq fun _=>#[])).push (seqObj "tuple" (ord.map (·.2)).toArray 0)).push (seqObj "list" #[] 0)).update h'.objs.size (Obj.mapSeq fun _=>out)).get? h'.objs.size=some (seqObj "list" out e3):=⟨_,get?_update_seq q2 (fun _=>out)⟩
 refine fin out ks h'.objs.size e3 _ d tk a1 (a2.trans (po.map _)) a3 q3 zs fun b q e=>?_
 have bl:=Heap.lt_size e
 have nb:b≠h'.objs.size:=Nat.ne_of_lt (Nat.lt_of_lt_of_le bl zs)
 rw [Heap.get?_update_ne _ _ _ _ nb]
 refine Heap.get?_push_of_some _ (Heap.get?_push_of_some _ ?_)
 rw [Heap.get?_update_ne _ _ _ _ nb]
 exact Heap.get?_push_of_some _ (k b q e)
end
def kA (k:Keyed->Int)(xs:Array Keyed)(i:Nat):Int:=match xs[i]? with
 | some p=>k p
 | none=>0
def IE (k:Keyed->Int)(xs:Array Keyed)(lo n:Nat):Prop:=∀ i j,lo<=i->i<=j->j<lo+n->kA k xs i<=kA k xs j
def HH (k:Keyed->Int)(xs:Array Keyed)(lo n:Nat):Prop:=∀ i j,lo<=i->i<=j->j<lo+n->kA k xs j<=kA k xs i
theorem FA {k:Keyed->Int}{xs ys:Array Keyed}{i j:Nat}(h:xs[i]?=ys[j]?):kA k xs i=kA k ys j:=by unfold kA;rw [h]
theorem WX {k:Keyed->Int}{xs:Array Keyed}{i:Nat}(h:i<xs.size):kA k xs i=k xs[i]:=by unfold kA;rw [getElem?_pos xs i h]
theorem NE {k:Keyed->Int}{xs:Array Keyed}{src d:Nat}(hs:src<xs.size)(hd:d<=src)(i:Nat) :
 kA k (bubble xs src d) i=if i=src - d then kA k xs src else if src - d<i/\i<=src then kA k xs (i - 1) else kA k xs i:=by
 have e:=getElem?_bubble hs d hd i
 by_cases h1:i=src - d
 · rw [if_pos h1] at e ⊢;exact FA e
 · rw [if_neg h1] at e ⊢
   by_cases h2:src - d<i/\i<=src
   · rw [if_pos h2] at e ⊢;exact FA e
   · rw [if_neg h2] at e ⊢;exact FA e
theorem HV {k:Keyed->Int}{xs:Array Keyed}{i j:Nat}(hj:j<=xs.size)(q:Nat) :
 kA k (mirror xs i j ((j - i) / 2)) q=if i<=q/\q<j then kA k xs (i+j - 1 - q) else kA k xs q:=by
 have e:=getElem?_mirror_all (i:=i) hj q
 by_cases h1:i<=q/\q<j
 · rw [if_pos h1] at e ⊢;exact FA e
 · rw [if_neg h1] at e ⊢;exact FA e
theorem BZ {k:Keyed->Int}{xs:Array Keyed}{i j:Nat}(hj:j<=xs.size)(heq:∀ q,i<=q->q<j->kA k xs q=kA k xs (j - 1))(q:Nat) :
 kA k (mirror xs i j ((j - i) / 2)) q=kA k xs q:=by
 rw [HV hj]
 split
 · rw [heq _ (by omega) (by omega),heq q (by omega) (by omega)]
 · rfl
structure Cmp (prog:Program)(w:World)(A:Around)(s:Shared)(κ:SortKind)(a₀:Array Keyed)(k:Keyed->Int):Prop where
 lt:∀ x∈a₀.toList,∀ y∈a₀.toList,∀ (E:Value->Shared->Prop) (Q:Bool->Shared->Prop),Q (decide (k x<k y)) s->wpAny (model prog w) A (keyLt' κ x.1 y.1) Q E s
structure TB (κ:SortKind)(a₀:Array Keyed)(st:SortSt):Prop where
 perm:(arrOf st).Perm a₀
 kind:kindOf st=κ
 ok:failedOf st=none
theorem TB.size {κ:SortKind}{a₀:Array Keyed}{st:SortSt}(h:TB κ a₀ st):(arrOf st).size=a₀.size:=h.perm.size_eq
theorem TB.setArr {κ:SortKind}{a₀:Array Keyed}{st:SortSt}(h:TB κ a₀ st){xs:Array Keyed}(hp:xs.Perm (arrOf st)):TB κ a₀ (setArr st xs):=⟨hp.trans h.perm,h.kind,h.ok⟩
theorem TB.mem {κ:SortKind}{a₀:Array Keyed}{st:SortSt}(h:TB κ a₀ st){p:Keyed}(hp:p∈(arrOf st).toList):p∈a₀.toList:=(Array.perm_iff_toList_perm.mp h.perm).mem_iff.mp hp
structure Sam (lo hi:Nat)(st st':SortSt):Prop where
 pend:pendingOf st'=pendingOf st
 out:∀ i,i<lo\/hi<=i->(arrOf st')[i]?=(arrOf st)[i]?
theorem Sam.refl (lo hi:Nat)(st:SortSt):Sam lo hi st st:=⟨rfl,fun _ _=>rfl⟩
theorem Sam.trans {lo hi:Nat}{a b c:SortSt}(h:Sam lo hi a b)(h':Sam lo hi b c):Sam lo hi a c:=⟨h'.pend.trans h.pend,fun i hi=>(h'.out i hi).trans (h.out i hi)⟩
theorem Sam.bubble {lo hi:Nat}{st:SortSt}{src d:Nat}(hs:src<(arrOf st).size)(hd:d<=src)(h1:lo<=src - d)(h2:src<hi):Sam lo hi st (setArr st (bubble (arrOf st) src d)):=⟨rfl,fun i h=>by
 show (PyProof.Rows.bubble (arrOf st) src d)[i]?=_
 rw [getElem?_bubble hs d hd i,if_neg (by omega),if_neg (by omega)]⟩
theorem Sam.mirror {lo hi:Nat}{st:SortSt}{i j:Nat}(hj:j<=(arrOf st).size)(h1:lo<=i)(h2:j<=hi):Sam lo hi st (setArr st (mirror (arrOf st) i j ((j - i) / 2))):=⟨rfl,fun q h=>by
 show (PyProof.Rows.mirror (arrOf st) i j ((j - i) / 2))[q]?=_
 rw [getElem?_mirror_all hj q,if_neg (by omega)]⟩
section
variable {prog:Program}{w:World}{A:Around}{E:Value->Shared->Prop}{s:Shared}{κ:SortKind}{a₀:Array Keyed}{k:Keyed->Int}
theorem Q0g {st:SortSt}{x y:Keyed}{Q:Option Bool->SortSt->Prop}(C:Cmp prog w A s κ a₀ k)(hk:kindOf st=κ)(hx:x∈a₀.toList)(hy:y∈a₀.toList)(h:Q (some (decide (k x<k y))) st):wpS (model prog w) A E s (lt' x y) Q st:=by
 rw [lt'_eq]
 refine wpS_bind (wpS_get ?_)
 rw [hk]
 refine wpS_bind (wpS_lift (wpAny_attempt (C.lt x hx y hy _ _ ⟨rfl,?_⟩)))
 exact wpS_pure h
theorem QT {st:SortSt}{arr:Array Keyed}{i:Nat}{Q:Keyed->SortSt->Prop}(hi:i<arr.size)(h:Q arr[i] st):wpS (model prog w) A E s (elem' arr i) Q st:=by
 rw [elem'_eq,getElem?_pos arr i hi]
 exact wpS_pure h
theorem FI {st:SortSt}{i j:Nat}{Q:Option Bool->SortSt->Prop}(C:Cmp prog w A s κ a₀ k)(hB:TB κ a₀ st)(hi:i<a₀.size)(hj:j<a₀.size)
 (h:Q (some (decide (kA k (arrOf st) i<kA k (arrOf st) j))) st):wpS (model prog w) A E s (ltAt' i j) Q st:=by
 have hi':i<(arrOf st).size:=by rw [hB.size];exact hi
 have hj':j<(arrOf st).size:=by rw [hB.size];exact hj
 rw [WX hi',WX hj'] at h
 rw [ltAt'_eq]
 refine wpS_bind (wpS_get ?_)
 exact wpS_bind (QT hi' (wpS_bind (QT hj' (Q0g C hB.kind (hB.mem (by simp)) (hB.mem (by simp)) h))))
theorem J0h {st:SortSt}{lo n ok:Nat}{Q:Bool->SortSt->Prop}(C:Cmp prog w A s κ a₀ k)(hn:lo+n<=a₀.size)(hok:ok<=n)(hB:TB κ a₀ st)(hs:IE k (arrOf st) lo ok)
 (h:∀ st',TB κ a₀ st'->Sam lo (lo+n) st st'->IE k (arrOf st') lo n->Q true st'):wpS (model prog w) A E s (binarySort' lo n ok) Q st:=by
 rw [binarySort'_eq]
 refine wpS_bind (wpS_mono (wpS_forRange (I:=fun q c st'=>c=(none,())/\TB κ a₀ st'/\Sam lo (lo+n) st st'/\IE k (arrOf st') lo (min q n))
  (Q:=fun c st'=>c=(none,())/\TB κ a₀ st'/\Sam lo (lo+n) st st'/\IE k (arrOf st') lo n) ?step ?fin ?init) ?post)
 case post =>
  rintro c st' ⟨rfl,tb,d3,so⟩
  exact wpS_pure (h st' tb d3 so)
 case init =>
  refine ⟨rfl,hB,Sam.refl _ _ _,fun i j h0 hij hj=>?_⟩
  by_cases h1:ok=0
  · have:i=j:=by omega
    subst this;exact Int.le_refl _
  · exact hs i j h0 hij (by omega)
 case fin =>
  rintro c st' ⟨hc,tb,d3,so⟩
  refine ⟨hc,tb,d3,?_⟩
  rwa [show min (max (max ok 1) n) n=n by omega] at so
 case step =>
  rintro q c st' hak hqn ⟨rfl,tb,hsm,so⟩
  rw [show min q n=q by omega] at so
  have hq:lo+q<a₀.size:=by omega
  refine wpS_bind (wpS_mono (wpS_forRange (I:=fun x c sx=>sx=st'/\∃ l r,c=(none,l,r)/\l<=r/\r<=q/\r - l<=q - x /\
   (∀ i,i<l->kA k (arrOf st') (lo+i)<=kA k (arrOf st') (lo+q))/\(∀ i,r<=i->i<q->kA k (arrOf st') (lo+q)<kA k (arrOf st') (lo+i)))
   (Q:=fun c sx=>sx=st'/\∃ l r,c=(none,l,r)/\l<=q /\
    (∀ i,i<l->kA k (arrOf st') (lo+i)<=kA k (arrOf st') (lo+q))/\(∀ i,l<=i->i<q->kA k (arrOf st') (lo+q)<kA k (arrOf st') (lo+i))) ?istep ?ifin ?iinit) ?ipost)
  case iinit=>exact ⟨rfl,0,q,rfl,by omega,by omega,by omega,fun i hi=>by omega,fun i h1 h2=>by omega⟩
  case ifin =>
   rintro c sx ⟨rfl,l,r,rfl,d1,d2,d3,d4,d5⟩
   have:l=r:=by omega
   subst this
   exact ⟨rfl,l,l,rfl,d2,d4,d5⟩
  case istep =>
   rintro x c sx _ q1 ⟨rfl,l,r,rfl,d1,d2,d3,d4,d5⟩
   dsimp only
   by_cases cmp:l>=r
   · rw [if_pos cmp]
     have:l=r:=by omega
     subst this
     exact wpS_pure ⟨rfl,l,l,rfl,d2,d4,d5⟩
   · rw [if_neg cmp]
     refine wpS_bind (FI C tb hq (by omega) ?_)
     by_cases les:kA k (arrOf sx) (lo+q)<kA k (arrOf sx) (lo+(l+r) / 2)
     · simp only [les,decide_true,if_true]
       refine wpS_pure ⟨rfl,l,(l+r) / 2,rfl,by omega,by omega,by omega,d4,fun i h1 h2=>?_⟩
       exact Int.lt_of_lt_of_le les (so _ _ (by omega) (by omega) (by omega))
     · simp only [les,decide_false,Bool.false_eq_true,if_false]
       refine wpS_pure ⟨rfl,(l+r) / 2+1,r,rfl,by omega,by omega,by omega,fun i h1=>?_,d5⟩
       exact Int.le_trans (so (lo+i) (lo+(l+r) / 2) (by omega) (by omega) (by omega)) (Int.not_lt.mp les)
  case ipost =>
   rintro c sx ⟨rfl,l,r,rfl,d6,d4,d5⟩
   show wpS _ _ _ _ (do moveDown' (lo+q) (lo+l);pure (ForInStep.yield (none,()))) _ _
   rw [moveDown'_eq]
   have kz:lo+q<(arrOf sx).size:=by rw [tb.size];exact hq
   refine wpS_bind (wpS_modify (wpS_pure ⟨rfl,tb.setArr (bubble_perm _ _ _),hsm.trans (Sam.bubble kz (by omega) (by omega) (by omega)),?_⟩))
   rw [show min (q+1) n=q+1 by omega]
   intro i j h0 hij hj
   show kA k (bubble (arrOf sx) (lo+q) (lo+q - (lo+l))) i<=kA k (bubble (arrOf sx) (lo+q) (lo+q - (lo+l))) j
   have lo':∀ i,lo<=i->i<lo+l->kA k (arrOf sx) i<=kA k (arrOf sx) (lo+q):=fun i h1 h2=>by
    have:=d4 (i - lo) (by omega)
    rwa [show lo+(i - lo)=i by omega] at this
   have hi':∀ i,lo+l<=i->i<lo+q->kA k (arrOf sx) (lo+q)<kA k (arrOf sx) i:=fun i h1 h2=>by
    have:=d5 (i - lo) (by omega) (by omega)
    rwa [show lo+(i - lo)=i by omega] at this
   rw [NE kz (by omega),NE kz (by omega),show lo+q - (lo+q - (lo+l))=lo+l by omega]
   repeat' split
   all_goals first
    | (exfalso;omega)
    | exact Int.le_refl _
    | exact lo' _ (by omega) (by omega)
    | exact Int.le_of_lt (hi' _ (by omega) (by omega))
    | exact so _ _ (by omega) (by omega) (by omega)
end
local macro_rules | `(tactic| walk_at "un gallop") => do let n := Lean.mkIdent (Lean.mkPrivateNameCore `PySem.Builtin.List.W1All `PySem.Builtin.gallop); `(tactic| unfold $n)
local macro_rules | `(tactic| walk_at "un countRun") => do let n := Lean.mkIdent (Lean.mkPrivateNameCore `PySem.Builtin.List.W1All `PySem.Builtin.countRun); `(tactic| unfold $n)
def J1j:Nat->Nat->StateT SortSt Sem (Option Nat):=sortPriv% PySem.Builtin.countRun
section
variable {prog:Program}{w:World}{A:Around}{E:Value->Shared->Prop}{s:Shared}{κ:SortKind}{a₀:Array Keyed}{k:Keyed->Int}
theorem ET {st:SortSt}{i j:Nat}{Q:Unit->SortSt->Prop}(h:Q () (setArr st (mirror (arrOf st) i j ((j - i) / 2)))):wpS (model prog w) A E s (reverseSlice' i j) Q st:=by
 rw [reverseSlice'_eq];exact wpS_modify h
theorem RB {xs:Array Keyed}{lo x:Nat}(h:IE k xs lo x)(l:¬ kA k xs (lo+x)<kA k xs (lo+x - 1)):IE k xs lo (x+1):=fun i j h0 hij hj=>by
 by_cases e:j<lo+x
 · exact h i j h0 hij e
 · have ej:j=lo+x:=by omega
   subst ej
   by_cases ei:i=lo+x
   · rw [ei];exact Int.le_refl _
   · exact Int.le_trans (h i (lo+x - 1) h0 (by omega) (by omega)) (Int.not_lt.mp l)
theorem EA {xs:Array Keyed}{lo x:Nat}(h:HH k xs lo x)(l:kA k xs (lo+x)<=kA k xs (lo+x - 1)):HH k xs lo (x+1):=fun i j h0 hij hj=>by
 by_cases e:j<lo+x
 · exact h i j h0 hij e
 · have ej:j=lo+x:=by omega
   subst ej
   by_cases ei:i=lo+x
   · rw [ei];exact Int.le_refl _
   · exact Int.le_trans l (h i (lo+x - 1) h0 (by omega) (by omega))
theorem HZ {xs ys:Array Keyed}{lo x:Nat}(h:HH k xs lo x)(e:∀ i,kA k ys i=kA k xs i):HH k ys lo x:=fun i j h0 hij hj=>by
 rw [e,e];exact h i j h0 hij hj
theorem J0g {st:SortSt}{lo nrem:Nat}{Q:Option Nat->SortSt->Prop}(C:Cmp prog w A s κ a₀ k)(hn:lo+nrem<=a₀.size)(h1:1<=nrem)(hB:TB κ a₀ st)
 (h:∀ m st',TB κ a₀ st'->Sam lo (lo+nrem) st st'->1<=m->m<=nrem->IE k (arrOf st') lo m->Q (some m) st'):wpS (model prog w) A E s (J1j lo nrem) Q st:=by
 unfold J1j
 walk_at "un countRun"
 dsimp only
 refine wpS_bind (wpS_mono (wpS_forRange (I:=fun x c st'=>st'=st/\c=(none,x)/\IE k (arrOf st) lo x)
  (Q:=fun c st'=>st'=st/\∃ x,c=(none,x)/\1<=x/\x<=nrem/\IE k (arrOf st) lo x/\(x=nrem\/kA k (arrOf st) (lo+x)<kA k (arrOf st) (lo+x - 1))) ?turn ?stop ⟨rfl,rfl,fun i j h0 hij hj=>?_⟩) ?after)
 case stop =>
  rintro c st' ⟨rfl,rfl,b1⟩
  rw [show max 1 nrem=nrem by omega] at b1 ⊢
  exact ⟨rfl,nrem,rfl,h1,Nat.le_refl _,b1,.inl rfl⟩
 case turn =>
  rintro x c st' hx1 hx ⟨rfl,rfl,b1⟩
  dsimp only
  refine wpS_bind (FI C hB (by omega) (by omega) ?_)
  by_cases q:kA k (arrOf st') (lo+x)<kA k (arrOf st') (lo+x - 1)
  · simp only [q,decide_true,if_true]
    exact wpS_pure ⟨rfl,x,rfl,hx1,by omega,b1,.inr q⟩
  · simp only [q,decide_false,Bool.false_eq_true,if_false]
    exact wpS_pure ⟨rfl,rfl,RB b1 q⟩
 · have:i=j:=by omega
   subst this;exact Int.le_refl _
 rintro c st' ⟨rfl,n,rfl,n1,n2,so,up⟩
 dsimp only
 by_cases q:n=nrem
 · rw [if_pos (by simpa using q)]
   exact wpS_pure (h n st' hB (Sam.refl _ _ _) n1 n2 so)
 rw [if_neg (by simpa using q)]
 have lt:=up.resolve_left q
 have facts:n>1\/¬ n>1:=Nat.lt_or_ge 1 n |>.imp id fun z=>by omega
 rcases facts with g1|g1
 case' inl =>
  rw [if_pos g1]
  refine wpS_bind (FI C hB (by omega) (by omega) ?_)
  by_cases r:kA k (arrOf st') lo<kA k (arrOf st') (lo+n - 1)
  · simp only [r,decide_true,if_true]
    exact wpS_pure (h n st' hB (Sam.refl _ _ _) n1 n2 so)
  simp only [r,decide_false,Bool.false_eq_true,if_false]
  have sz:lo+n<=(arrOf st').size:=by rw [hB.size];omega
  have al:∀ i,lo<=i->i<lo+n->kA k (arrOf st') i=kA k (arrOf st') (lo+n - 1):=fun i i1 i2=>by
   have a1:=so lo i (by omega) i1 i2
   have a2:=so i (lo+n - 1) i1 (by omega) (by omega)
   omega
  refine wpS_bind (ET ?_)
  have tb:=hB.setArr (mirror_perm (arrOf st') lo (lo+n) ((lo+n - lo) / 2))
  have sm:Sam lo (lo+nrem) st' _:=Sam.mirror (st:=st') (i:=lo) (j:=lo+n) sz (Nat.le_refl _) (by omega)
  have fl:HH k (mirror (arrOf st') lo (lo+n) ((lo+n - lo) / 2)) lo (n+1):=HZ (xs:=arrOf st') (EA (fun i j h0 hij hj=>by rw [al i h0 (by omega),al j (by omega) hj];exact Int.le_refl _) (Int.le_of_lt lt)) (BZ sz al)
  generalize hst:setArr st' (mirror (arrOf st') lo (lo+n) ((lo+n - lo) / 2))=st2 at tb sm ⊢
  rw [show mirror (arrOf st') lo (lo+n) ((lo+n - lo) / 2)=arrOf st2 by rw [<- hst]] at fl
  clear hst al
 case' inr =>
  rw [if_neg g1]
  have fl:HH k (arrOf st') lo (n+1):=EA (fun i j h0 hij hj=>by
   have:i=j:=by omega
   subst this;exact Int.le_refl _) (Int.le_of_lt lt)
  obtain ⟨st2,hst⟩:∃ z,z=st':=⟨_,rfl⟩
  have sm:Sam lo (lo+nrem) st' st2:=by rw [hst];exact Sam.refl _ _ _
  have tb:TB κ a₀ st2:=by rw [hst];exact hB
  rw [<- hst] at fl
  rw [<- hst]
  clear hst
 all_goals
  refine wpS_bind (wpS_lift (wpAny_rule ⟨rfl,?_⟩))
  refine wpS_bind (wpS_mono (wpS_forRange (I:=fun x c st'=>∃ u,c=(none,x,u)/\TB κ a₀ st'/\Sam lo (lo+nrem) st2 st'/\HH k (arrOf st') lo x/\u+1<=x/\∀ i,lo+x - (u+1)<=i->i<lo+x->kA k (arrOf st') i=kA k (arrOf st') (lo+x - 1))
   (Q:=fun c st'=>∃ x u,c=(none,x,u)/\n+1<=x/\x<=nrem/\TB κ a₀ st'/\Sam lo (lo+nrem) st2 st'/\HH k (arrOf st') lo x/\u+1<=x/\∀ i,lo+x - (u+1)<=i->i<lo+x->kA k (arrOf st') i=kA k (arrOf st') (lo+x - 1)) ?_ ?_ ⟨0,rfl,tb,Sam.refl _ _ _,fl,by omega,fun i i1 i2=>by congr 1;omega⟩) ?_)
  · rintro x c st3 hx1 hx ⟨u,rfl,b1,b2,b3,b4,b5⟩
    dsimp only
    have sz:lo+x<=(arrOf st3).size:=by rw [b1.size];omega
    refine wpS_bind (FI C b1 (by omega) (by omega) ?_)
    by_cases q:kA k (arrOf st3) (lo+x)<kA k (arrOf st3) (lo+x - 1)
    · simp only [q,decide_true,if_true]
      by_cases z:u>0
      · rw [if_pos z]
        refine wpS_bind (ET (wpS_pure ⟨0,rfl,b1.setArr (mirror_perm _ _ _ _),b2.trans (Sam.mirror sz (by omega) (by omega)),HZ (xs:=arrOf st3) (EA b3 (Int.le_of_lt q)) (BZ sz b5),by omega,fun i i1 i2=>by congr 1;omega⟩))
      · rw [if_neg z]
        exact wpS_pure ⟨0,rfl,b1,b2,EA b3 (Int.le_of_lt q),by omega,fun i i1 i2=>by congr 1;omega⟩
    · simp only [q,decide_false,Bool.false_eq_true,if_false]
      refine wpS_bind (FI C b1 (by omega) (by omega) ?_)
      by_cases z:kA k (arrOf st3) (lo+x - 1)<kA k (arrOf st3) (lo+x)
      · simp only [z,decide_true,if_true]
        exact wpS_pure ⟨x,u,rfl,hx1,by omega,b1,b2,b3,b4,b5⟩
      · simp only [z,decide_false,Bool.false_eq_true,if_false]
        have eq:kA k (arrOf st3) (lo+x)=kA k (arrOf st3) (lo+x - 1):=by omega
        refine wpS_pure ⟨u+1,rfl,b1,b2,EA b3 (Int.le_of_eq eq),by omega,fun i i1 i2=>?_⟩
        rw [show lo+(x+1) - 1=lo+x by omega]
        by_cases ei:i=lo+x
        · rw [ei]
        · rw [eq];exact b5 i (by omega) (by omega)
  · rintro c st3 ⟨u,rfl,b1,b2,b3,b4,b5⟩
    rw [show max (n+1) nrem=nrem by omega] at b3 b4 b5 ⊢
    exact ⟨nrem,u,rfl,by omega,Nat.le_refl _,b1,b2,b3,b4,b5⟩
  rintro c st3 ⟨m,u,rfl,m1,m2,b1,b2,b3,b4,b5⟩
  dsimp only
  have sz:lo+m<=(arrOf st3).size:=by rw [b1.size];omega
  have fin:∀ st4:SortSt,TB κ a₀ st4->Sam lo (lo+nrem) st3 st4->HH k (arrOf st4) lo m->TB κ a₀ (setArr st4 (mirror (arrOf st4) lo (lo+m) ((lo+m - lo) / 2)))/\Sam lo (lo+nrem) st' (setArr st4 (mirror (arrOf st4) lo (lo+m) ((lo+m - lo) / 2)))/\IE k (mirror (arrOf st4) lo (lo+m) ((lo+m - lo) / 2)) lo m:=fun st4 c1 c2 c3=>by
   have sz4:lo+m<=(arrOf st4).size:=by rw [c1.size];omega
   refine ⟨c1.setArr (mirror_perm _ _ _ _),(sm.trans (b2.trans c2)).trans (Sam.mirror sz4 (Nat.le_refl _) (by omega)),fun i j h0 hij hj=>?_⟩
   rw [HV sz4,HV sz4,if_pos (by omega),if_pos (by omega)]
   exact c3 _ _ (by omega) (by omega) (by omega)
  have z:u>0\/¬ u>0:=Nat.eq_zero_or_pos u |>.symm.imp id fun z=>by omega
  rcases z with z|z
  case' inl =>
   rw [if_pos z]
   refine wpS_bind (ET ?_)
   refine wpS_bind (ET ?_)
   obtain ⟨d1,d2,d3⟩:=fin _ (b1.setArr (mirror_perm (arrOf st3) (lo+m - (u+1)) (lo+m) ((lo+m - (lo+m - (u+1))) / 2))) (Sam.mirror sz (by omega) (by omega)) (HZ b3 (BZ sz b5))
  case' inr =>
   rw [if_neg z]
   refine wpS_bind (ET ?_)
   obtain ⟨d1,d2,d3⟩:=fin _ b1 (Sam.refl _ _ _) b3
  all_goals
   refine wpS_bind (wpS_mono (wpS_forRange (I:=fun x c sx=>c=(none,x)/\TB κ a₀ sx/\Sam lo (lo+nrem) st' sx/\IE k (arrOf sx) lo x) (Q:=fun c sx=>∃ x,c=(none,x)/\1<=x/\x<=nrem/\TB κ a₀ sx/\Sam lo (lo+nrem) st' sx/\IE k (arrOf sx) lo x) ?_ ?_ ⟨rfl,d1,d2,d3⟩) ?_)
   · rintro x c st5 hx1 hx ⟨rfl,e1,e2,e3⟩
     dsimp only
     refine wpS_bind (FI C e1 (by omega) (by omega) ?_)
     by_cases q:kA k (arrOf st5) (lo+x)<kA k (arrOf st5) (lo+x - 1)
     · simp only [q,decide_true,if_true]
       exact wpS_pure ⟨x,rfl,by omega,by omega,e1,e2,e3⟩
     · simp only [q,decide_false,Bool.false_eq_true,if_false]
       exact wpS_pure ⟨rfl,e1,e2,RB e3 q⟩
   · rintro c st5 ⟨rfl,e1,e2,e3⟩
     rw [show max m nrem=nrem by omega] at e3 ⊢
     exact ⟨nrem,rfl,h1,Nat.le_refl _,e1,e2,e3⟩
   rintro c st5 ⟨x,rfl,x1,x2,e1,e2,e3⟩
   exact wpS_pure (h x _ e1 e2 x1 x2 e3)
end
def SrtA (k:Keyed->Int)(xs:Array Keyed):Prop:=IE k xs 0 xs.size
theorem SrtA.le {k:Keyed->Int}{xs:Array Keyed}(h:SrtA k xs){i j:Nat}(hij:i<=j)(hj:j<xs.size):kA k xs i<=kA k xs j:=h i j (Nat.zero_le _) hij (by omega)
theorem YY {n:Nat}(h2:2<=n)(h:n<64):minRun' n n 0=n:=by
 obtain ⟨f,rfl⟩:∃ f,n=f+2:=⟨n - 2,by omega⟩
 rw [minRun'_succ,if_pos h]
section
variable {prog:Program}{w:World}{A:Around}{E:Value->Shared->Prop}{s:Shared}{κ:SortKind}{a₀:Array Keyed}{k:Keyed->Int}
theorem YB {st:SortSt}{Q:Unit->SortSt->Prop}(C:Cmp prog w A s κ a₀ k)(hB:TB κ a₀ st)(hp:pendingOf st=#[])(h2:2<=a₀.size)(h128:a₀.size<64)
 (h:∀ st',TB κ a₀ st'->SrtA k (arrOf st')->Q () st'):wpS (model prog w) A E s sortRuns' Q st:=by
 have r1:=YY h2 h128
 rw [sortRuns'_eq]
 refine wpS_bind (wpS_get ?_)
 dsimp only
 rw [hB.size,r1]
 refine wpS_bind (wpS_mono (wpS_forRange
  (I:=fun x c sx=>TB κ a₀ sx/\((x=0/\c=(none,0)/\pendingOf sx=#[])\/(1<=x/\c=(none,a₀.size)/\SrtA k (arrOf sx)/\∃ p,pendingOf sx=#[(0,a₀.size,p)])))
  (Q:=fun c sx=>TB κ a₀ sx/\c=(none,a₀.size)/\SrtA k (arrOf sx)/\∃ p,pendingOf sx=#[(0,a₀.size,p)]) ?_ ?_ ⟨hB,.inl ⟨rfl,rfl,hp⟩⟩) ?_)
 · rintro x c sx _ hx ⟨tb,⟨rfl,rfl,pe⟩|⟨x1,rfl,so,p,pe⟩⟩
   · dsimp only
     rw [if_neg (by omega)]
     simp only [Nat.sub_zero,Nat.zero_add]
     refine wpS_bind (J0g C (by omega) (by omega) tb fun m sy tb1 sm m1 m2 so=>?_)
     dsimp only
     have pe1:pendingOf sy=#[]:=sm.pend.trans pe
     by_cases c1:m<a₀.size
     · rw [if_pos c1]
       refine wpS_bind (wpS_lift (wpAny_rule ⟨rfl,?_⟩))
       have em:min a₀.size a₀.size=a₀.size:=Nat.min_self _
       refine wpS_bind (J0h C (by omega) (by omega) tb1 so fun sz tb2 sm2 so2=>?_)
       simp only [Bool.not_true,Bool.false_eq_true,if_false]
       refine wpS_bind (wpS_get ?_)
       have pe2:pendingOf sz=#[]:=sm2.pend.trans pe1
       have hb:(pendingOf sz).back?=none:=by rw [pe2];rfl
       rw [hb]
       dsimp only
       rw [em] at so2 ⊢
       exact wpS_bind (wpS_modify (wpS_pure ⟨⟨tb2.perm,tb2.kind,tb2.ok⟩,.inr ⟨Nat.le_refl _,rfl,(fun i j h0 hij hj=>so2 i j h0 hij (by rw [show (arrOf sz).size=a₀.size from tb2.size] at hj;exact hj)),0,by show (pendingOf sz).push _=_;rw [pe2];rfl⟩⟩))
     · rw [if_neg c1]
       have e:m=a₀.size:=by omega
       subst e
       refine wpS_bind (wpS_get ?_)
       have hb:(pendingOf sy).back?=none:=by rw [pe1];rfl
       rw [hb]
       dsimp only
       exact wpS_bind (wpS_modify (wpS_pure ⟨⟨tb1.perm,tb1.kind,tb1.ok⟩,.inr ⟨Nat.le_refl _,rfl,(fun i j h0 hij hj=>so i j h0 hij (by rw [show (arrOf sy).size=a₀.size from tb1.size] at hj;exact hj)),0,by show (pendingOf sy).push _=_;rw [pe1];rfl⟩⟩))
   · dsimp only
     rw [if_pos (Nat.le_refl _)]
     exact wpS_pure ⟨tb,rfl,so,p,pe⟩
 · rintro c sx ⟨tb,⟨h0,_⟩|⟨_,e,so,p,pe⟩⟩
   · omega
   · exact ⟨tb,e,so,p,pe⟩
 rintro c sx ⟨tb,rfl,so,p,pe⟩
 dsimp only
 refine wpS_bind (wpS_mono (wpS_forRange (I:=fun _ c sy=>sy=sx/\c=(none,())) (Q:=fun c sy=>sy=sx/\c=(none,())) ?_ (fun _ _ z=>z) ⟨rfl,rfl⟩) ?_)
 · rintro y c sy _ _ ⟨rfl,rfl⟩
   refine wpS_bind (wpS_get ?_)
   rw [if_pos (by rw [pe];exact Nat.le_refl 1)]
   exact wpS_pure ⟨rfl,rfl⟩
 · rintro c sy ⟨rfl,rfl⟩
   exact wpS_pure (h _ tb so)
end
def BI (p:Int):List Int->Int
 | []=>p
 | a::ns=>BI (p*18446744073709551616+a) ns
def HA:List Int->List Int->Bool
 | a::ns,c::ms=>decide (a<c)||(decide (a=c)&&HA ns ms)
 | _,_=>false
def BA (z:Int):Prop:=-1000000000000000000<z/\z<1000000000000000000
theorem XE:∀ (ns ms:List Int) (p q:Int),ns.length=ms.length->(∀ z∈ns,BA z)->(∀ z∈ms,BA z)->(BI p ns<BI q ms↔p<q\/(p=q/\HA ns ms=true))
 | [],[],p,q,_,_,_=>by
   show p<q↔_
   simp [HA]
 | a::ns,c::ms,p,q,hl,hn,hm=>by
   have h1:=hn a (List.mem_cons_self ..)
   have h2:=hm c (List.mem_cons_self ..)
   have ih:=XE ns ms (p*18446744073709551616+a) (q*18446744073709551616+c) (by simpa using hl) (fun z hz=>hn z (List.mem_cons_of_mem _ hz)) fun z hz=>hm z (List.mem_cons_of_mem _ hz)
   show BI (p*18446744073709551616+a) ns<BI (q*18446744073709551616+c) ms↔_
   rw [ih]
   clear ih hn hm hl
   unfold BA at h1 h2
   show _↔p<q\/(p=q/\(decide (a<c)||(decide (a=c)&&HA ns ms))=true)
   simp only [Bool.or_eq_true,Bool.and_eq_true,decide_eq_true_eq]
   cases HA ns ms
   · simp only [Bool.false_eq_true,and_false,or_false]
     rcases Int.lt_trichotomy p q with z|z|z<;>omega
   · simp only [and_true]
     rcases Int.lt_trichotomy p q with z|z|z<;>rcases Int.lt_trichotomy a c with y|y|y<;>omega
theorem TN:∀ (ns ms:List Int) (p q:Int),ns.length=ms.length->(∀ z∈ns,BA z)->(∀ z∈ms,BA z)->BI p ns=BI q ms->p=q/\ns=ms
 | [],[],p,q,_,_,_,h=>⟨h,rfl⟩
 | a::ns,c::ms,p,q,hl,hn,hm,h=>by
   have h1:=hn a (List.mem_cons_self ..)
   have h2:=hm c (List.mem_cons_self ..)
   obtain ⟨e1,e2⟩:=TN ns ms (p*18446744073709551616+a) (q*18446744073709551616+c) (by simpa using hl) (fun z hz=>hn z (List.mem_cons_of_mem _ hz)) (fun z hz=>hm z (List.mem_cons_of_mem _ hz)) h
   unfold BA at h1 h2
   have e3:p=q/\a=c:=by rcases Int.lt_trichotomy p q with z|z|z<;>omega
   exact ⟨e3.1,by rw [e3.2,e2]⟩
structure TupZ (h:Heap)(v:Value)(ns:List Int):Prop where
 ex:∃ a o xs n,v=.ref a/\h.get? a=some o/\o.cls=.type "tuple"/\o.data=.seq xs n/\IntsAre xs.toList ns
section
variable {prog:Program}{w:World}{A:Around}{E:Value->Shared->Prop}{s:Shared}
theorem YR {b:Bool}{x y:Int}{t u:Tok}{Q:Bool->Shared->Prop}(h:Q (decide (x<y)) s):wpAny (model prog w) A (oneLt' b (.int x t) (.int y u)) Q E s:=by
 cases b
 · refine PySem.W.kat_one _ _ ?_
   exact CmpOf.ints_lt (prog:=prog) (w:=w) (A:=A) (P:=fun i v=>∃ t,v=.int (if i=0 then x else y) t) (fun i=>if i=0 then x else y) (fun i v h=>h) 0 1 _ _ _ _ _ ⟨t,rfl⟩ ⟨u,rfl⟩ h
 · exact oneLt_int h
theorem IJ {b:Bool}{Q:Bool->Shared->Prop}:∀ {xs ys:List Value} {ns ms:List Int} (i:Nat),IntsAre xs ns->IntsAre ys ms->ns.length=ms.length->Q (HA ns ms) s->PySem.W.KatLex prog w A b false Q (xs.zip ys) i s
 | _,_,_,_,i,.nil,.nil,_,h=>PySem.W.kat_nil h
 | _,_,_,_,i,.cons a t hx,.cons c u hy,hl,h=>by
   rw [List.zip_cons_cons]
   refine PySem.W.kat_cons (wpAny_eqBool_int ?_)
   unfold HA at h
   by_cases e:a=c
   · subst e
     rw [show (a==a)=true by simp]
     refine PySem.W.kat_yes (IJ (i+1) hx hy (by simpa using hl) ?_)
     simpa using h
   · rw [show (a==c)=false by simpa using e]
     refine PySem.W.kat_no (YR ?_)
     have:decide (a=c)=false:=by simpa using e
     rw [this] at h
     simpa using h
theorem TH {vs:List Value}{ns:List Int}(h:IntsAre vs ns):vs.length=ns.length:=by
 induction h with
 | nil=>rfl
 | cons n t _ ih=>simp [ih]
theorem J7k {b:Bool}{x y:Value}{ns ms:List Int}{Q:Bool->Shared->Prop}(hx:TupZ s.heap x ns)(hy:TupZ s.heap y ms)(hl:ns.length=ms.length)(h:Q (HA ns ms) s):wpAny (model prog w) A (keyLt' (tuples' b) x y) Q E s:=by
 obtain ⟨a,o,xs,n,rfl,g1,c1,d1,i1⟩:=hx
 obtain ⟨a',o',ys,n',rfl,g2,c2,d2,i2⟩:=hy
 refine PySem.W.kat_lt g1 d1 g2 d2 ?_
 have e:decide (xs.size<ys.size)=false:=by
  have z1:=TH i1
  have z2:=TH i2
  simp at z1 z2
  simp;omega
 rw [e]
 exact IJ 0 i1 i2 hl h
theorem ZB {vs:List Value}{rows:Value->List Int}{Q:SortKind->Shared->Prop}(ht:∀ v∈vs,TupZ s.heap v (rows v))(hp:∀ v∈vs,rows v≠[])(hne:0<vs.length)(h:Q (tuples' true) s):wpAny (model prog w) A (keyKind' vs.toArray) Q E s:=by
 have mk:∀ vs:List Value,(∀ v∈vs,TupZ s.heap v (rows v))->(∀ v∈vs,rows v≠[])->∃ fs,PySem.W.KatTups s.heap vs fs/\fs.length=vs.length/\∀ v∈fs,∃ n t,v=Value.int n t:=by
  intro vs
  induction vs with
  | nil=>exact fun _ _=>⟨[],PySem.W.KatTups.nil,rfl,by simp⟩
  | cons v vs ih =>
    intro ht hp
    obtain ⟨fs,k1,k2,k3⟩:=ih (fun v hv=>ht v (List.mem_cons_of_mem _ hv)) fun v hv=>hp v (List.mem_cons_of_mem _ hv)
    obtain ⟨a,o,xs,n,e,g1,c1,d1,i1⟩:=(ht v (List.mem_cons_self ..)).ex
    have hr:=hp v (List.mem_cons_self ..)
    generalize rows v=r at hr i1
    generalize hx:xs.toList=l at i1
    cases i1 with
    | nil=>exact absurd rfl hr
    | cons m t i2 =>
      refine ⟨.int m t::fs,?_,by simp [k2],fun v hv=>?_⟩
      · rw [e]
        exact PySem.W.KatTups.cons g1 c1 d1 (by rw [<- Array.getElem?_toList,hx];rfl) k1
      · rcases List.mem_cons.mp hv with rfl|hv
        · exact ⟨m,t,rfl⟩
        · exact k3 v hv
 obtain ⟨fs,k1,k2,k3⟩:=mk vs ht hp
 refine PySem.W.kat_kind (T:=.type "int") k1 (by omega) (fun v hv=>?_) (by decide) ?_
 · obtain ⟨n,t,rfl⟩:=k3 v hv
   exact PySem.W.Looks.of_pure rfl
 · exact h
theorem KP {a:Addr}{vs:List Value}{n m:Nat}{rows:Value->List Int}{P:Fin->Shared->Prop}(gl:s.heap.get? a=some (seqObj "list" vs.toArray n))
 (ht:∀ v∈vs,TupZ s.heap v (rows v)) (hm:∀ v∈vs,(rows v).length=m/\∀ z∈rows v,BA z) (m0:0<m) (h64:vs.length<64)
 (h:∀ out:Array Value,out.toList.Perm vs->out.toList.Pairwise (fun x y=>BI 0 (rows x)<=BI 0 (rows y))->P (.done (.ret .none)) { s with heap:=sortedHeap s.heap a vs out }) :
 wpAny (model prog w) A (Builtin.«list.sort» ⟨[.ref a],[]⟩) P E s:=by
 rw [list_sort_plain]
 have al:a<s.heap.objs.size:=Heap.lt_size gl
 refine wpAny_bind (listItems_at gl rfl ?_)
 refine wpAny_bind (listUpdate_at gl rfl ?_)
 obtain ⟨ep1,gl1⟩:∃ ep1,(s.heap.update a (Obj.mapSeq fun _=>#[])).get? a=some (seqObj "list" #[] ep1):=⟨_,get?_update_seq gl (fun _=>#[])⟩
 refine wpAny_bind (seqEpoch_at gl1 rfl ?_)
 refine wpAny_bind (wpAny_newTuple ?_)
 refine wpAny_bind (wpAny_newList ?_)
 refine wpAny_holding ?_
 have keep:∀ b o,b≠a->s.heap.get? b=some o->(((s.heap.update a (Obj.mapSeq fun _=>#[])).push (seqObj "tuple" vs.toArray 0)).push (seqObj "list" #[] 0)).get? b=some o:=fun b o hb g=>by
  refine Heap.get?_push_of_some _ (Heap.get?_push_of_some _ ?_)
  rw [Heap.get?_update_ne _ _ _ _ hb]
  exact g
 have gl6:(((s.heap.update a (Obj.mapSeq fun _=>#[])).push (seqObj "tuple" vs.toArray 0)).push (seqObj "list" #[] 0)).get? a=some (seqObj "list" #[] ep1):=Heap.get?_push_of_some _ (Heap.get?_push_of_some _ gl1)
 have ht6:∀ v∈vs,TupZ (((s.heap.update a (Obj.mapSeq fun _=>#[])).push (seqObj "tuple" vs.toArray 0)).push (seqObj "list" #[] 0)) v (rows v):=fun v hv=>by
  obtain ⟨b,o,xs,n',e,g1,c1,d1,i1⟩:=ht v hv
  refine ⟨b,o,xs,n',e,keep b o (fun z=>?_) g1,c1,d1,i1⟩
  rw [z,gl] at g1
  cases g1
  exact absurd c1 (by simp [seqObj])
 show wpAny (model prog w) A _ P E { s with heap:=((s.heap.update a (Obj.mapSeq fun _=>#[])).push (seqObj "tuple" vs.toArray 0)).push (seqObj "list" #[] 0) }
 dsimp only
 have sz0:vs.toArray.size=vs.length:=by simp
 have fin:∀ xs:Array Keyed,xs.Perm (pairsOf vs)->SrtA (fun p=>BI 0 (rows p.1)) xs->P (.done (.ret .none)) { s with heap:=sortedHeap s.heap a vs (xs.map (·.2)) }:=fun xs hp hs=>by
  have zl:xs.toList.Perm (vs.zip vs):=by rw [<- pairsOf_toList];exact Array.perm_iff_toList_perm.mp hp
  have both:∀ p,p∈xs.toList->p.1=p.2:=fun p hp'=>(mem_zip_self (zl.mem_iff.mp hp')).1
  have e:(xs.map (·.2)).toList=xs.toList.map (·.1):=by
   rw [Array.toList_map];exact List.map_congr_left fun p hp'=>(both p hp').symm
  refine h _ ?_ ?_
  · rw [e]
    have:=zl.map Prod.fst
    rwa [List.map_fst_zip (Nat.le_refl _)] at this
  · rw [e,List.pairwise_iff_getElem]
    intro i j hi hj hij
    have ib:i<xs.size:=by simpa using hi
    have jb:j<xs.size:=by simpa using hj
    have q:=hs.le (Nat.le_of_lt hij) jb
    rw [WX ib,WX jb] at q
    simpa using q
 by_cases h2:vs.toArray.size<2
 · rw [if_pos h2,if_pos h2]
   refine wpAny_bind (wpAny_pure ?_)
   rw [StateT.run_pure]
   refine wpAny_bind (wpAny_pure ?_)
   dsimp only
   refine wpAny_bind (seqEpoch_at gl6 rfl ?_)
   refine wpAny_bind (listUpdate_at gl6 rfl ?_ (hsz2:=by rw [Array.size_map];show (pairsOf vs).size<=_;rw [pairsOf_size,sizeLine_eq];omega))
   simp only [bne_self_eq_false,Bool.false_eq_true,if_false]
   refine wpAny_pure (fin (vs.toArray.zip vs.toArray) (Array.Perm.refl _) ?_)
   intro i j _ hij hj
   have z:(vs.toArray.zip vs.toArray).size=vs.length:=pairsOf_size vs
   have:i=j:=by omega
   subst this;exact Int.le_refl _
 · rw [if_neg h2,if_neg h2]
   refine wpAny_bind (ZB ht6 (fun v hv (z:rows v=[])=>by have:=(hm v hv).1;rw [z] at this;simp at this;omega) (by omega) ?_)
   have C:Cmp prog w A { s with heap:=((s.heap.update a (Obj.mapSeq fun _=>#[])).push (seqObj "tuple" vs.toArray 0)).push (seqObj "list" #[] 0) } (tuples' true) (pairsOf vs) (fun p=>BI 0 (rows p.1)):=⟨fun x hx y hy E' Q q=>by
    rw [pairsOf_toList] at hx hy
    have mx:=(mem_zip_self hx).2
    have my:=(mem_zip_self hy).2
    refine J7k (ht6 _ mx) (ht6 _ my) (by rw [(hm _ mx).1,(hm _ my).1]) ?_
    have:=XE (rows x.1) (rows y.1) 0 0 (by rw [(hm _ mx).1,(hm _ my).1]) (hm _ mx).2 (hm _ my).2
    have e:HA (rows x.1) (rows y.1)=decide (BI 0 (rows x.1)<BI 0 (rows y.1)):=by
     rw [Bool.eq_iff_iff,decide_eq_true_eq,this]
     simp
    rw [e]
    exact q⟩
   have zp:(pairsOf vs).size=vs.length:=pairsOf_size vs
   refine wpAny_bind (wpAny_mono (YB (E:=E) (a₀:=pairsOf vs) (st:=SortSt.mk' (tuples' true) (vs.toArray.zip vs.toArray) #[] 7 none)
    (Q:=fun _ st'=>TB (tuples' true) (pairsOf vs) st'/\SrtA (fun p=>BI 0 (rows p.1)) (arrOf st')) C ⟨Array.Perm.refl _,rfl,rfl⟩ rfl (by omega) (by omega) fun st' a1 a2=>⟨a1,a2⟩) ?_ fun _ _ e=>e)
   rintro ⟨⟨⟩,st'⟩ s' ⟨rfl,tb,hs⟩
   dsimp only
   refine wpAny_bind (seqEpoch_at gl6 rfl ?_)
   refine wpAny_bind (listUpdate_at gl6 rfl ?_ (hsz2:=by refine Nat.le_trans (Nat.le_of_eq ((Array.size_map ..).trans (tb.size.trans (pairsOf_size _)))) ?_;rw [sizeLine_eq];omega))
   rw [tb.ok]
   simp only [bne_self_eq_false,Bool.false_eq_true,if_false]
   exact wpAny_pure (fin (arrOf st') tb.perm hs)
end
section
variable {prog:Program}{w:World}{A:Around}{E:Value->Shared->Prop}{s:Shared}
theorem TR {it l:Addr}{items:Array Value}(hne:l≠it):∀ (n i:Nat) (s:Shared) (Q:List Value->Shared->Prop),s.heap.IsListIter it l i->s.heap.IsList l items->i+n<=items.size ->
 (∀ h',h'.IsListIter it l (i+n)->Heap.SameBut it s.heap h'->Q ((items.toList.drop i).take n) { s with heap:=h' })->wpAny (model prog w) A (draw (.ref it) n) Q E s
 | 0,i,s,Q,hit,_,_,hQ=>by
   show wpAny _ _ (pure []) Q E s;exact wpAny_pure (by simpa using hQ s.heap hit (Heap.SameBut.refl ..))
 | n+1,i,s,Q,hit,ht,hle,hQ=>by
   have hlt:i<items.size:=by omega
   show wpAny _ _ (pyNext (.ref it) >>= _) Q E s;refine wpAny_bind (wpAny_pyNext_list_item hit ht (x:=items[i]) (by simp [hlt]) fun h₁ hit₁ hs₁=>?_)
   have ht1:h₁.IsList l items:=by
    obtain ⟨o,e,r⟩:=ht
    exact ⟨o,(hs₁.2 l hne).trans e,r⟩
   refine wpAny_bind (wpAny_holding (TR hne n (i+1) _ _ hit₁ ht1 (by omega) fun h₂ hit₂ hs₂=>wpAny_pure ?_))
   have hd:items.toList.drop i=items[i]::items.toList.drop (i+1):=by simp [List.drop_eq_getElem_cons,hlt]
   have:=hQ h₂ (by rw [show i+(n+1)=i+1+n by omega];exact hit₂) (hs₁.trans hs₂)
   rw [hd,List.take_succ_cons] at this
   exact this
theorem IN {l:Addr}{items:Array Value}{Q:List Value->Shared->Prop}(hh:A.handled=none)(ht:s.heap.IsList l items)
 (hQ:∀ h',Heap.ExtBut s.heap.objs.size s.heap h'->Q items.toList { s with heap:=h' }):wpAny (model prog w) A (unpackItems (.ref l) items.size none) Q E s:=by
 have hlt:l≠s.heap.objs.size:=by obtain ⟨o,ho,_⟩:=ht;exact Nat.ne_of_lt (Heap.lt_size ho)
 have ty:s.TypeIs (.ref l) "list":=by obtain ⟨o,ho,hc,_⟩:=ht;exact ⟨o,ho,hc⟩
 unfold unpackItems;refine wpAny_bind ?_
 unfold notIterableAtAll;refine wpAny_bind (wpAny_specialOf ty slot_list_iter.lookup ?_)
 refine wpAny_pure ?_;simp only [Bool.false_eq_true,if_false]
 refine wpAny_bind (wpAny_holding (wpAny_pyIter_list ht ?_))
 have hp:∀ ob:Obj,(s.heap.push ob).IsList l items:=fun ob=>by
  obtain ⟨o,e,r⟩:=ht
  exact ⟨o,Heap.get?_push_of_some _ e,r⟩
 refine wpAny_bind (wpAny_holding (TR hlt items.size 0 _ _ ⟨_,Heap.get?_push_size _ rfl,rfl,rfl⟩ (hp _) (by omega) fun h₁ hit₁ hs₁=>?_))
 have hall:List.take items.size (List.drop 0 items.toList)=items.toList:=by rw [List.drop_zero];exact List.take_of_length_le (by simp)
 rw [hall,if_neg (by simp)]
 have ht₁:h₁.IsList l items:=by
  obtain ⟨o,e,r⟩:=ht
  exact ⟨o,(hs₁.2 l hlt).trans (Heap.get?_push_of_some _ e),r⟩
 refine wpAny_bind (wpAny_holding (wpAny_pyNext_list_end hh hit₁ ht₁ (by simp) fun h₂ he₂=>?_))
 simp only [Option.isSome_none,Bool.false_eq_true,if_false]
 refine wpAny_pure (hQ h₂ fun b o hb e=>he₂ b o hb (hs₁.extBut b o hb (Heap.get?_push_of_some _ e)))
end
section
variable {X:Cx}
def Q6d (K:Fg)(n:Nat)(t:TGs):TG:=fun v σ H Q=>∃ a xs,v=.ref a/\SqL K H a xs/\xs.length=n/\t xs σ H Q
theorem AW {es:List Expr}{k:Nat}{t:TGs}{n:Nat}{pos:Pos}(K:Fg)(hK:X.K=K)(hc:X.calm=true)(h:PGs X es t)(hn:(assignEach es X.env).length=n:=by rfl)(hst:(assignEach es X.env).findIdx? (·.1)=none:=by rfl):PG X (.Tuple es k pos) (Q6d K n t):=by
 subst hK
 intro pins s σ H v u Q I r hw
 obtain ⟨a,xs,e1,hq,hl,hw⟩:=hw
 subst e1
 cases r
 obtain ⟨its,rv,p,hz⟩:=I.list hq
 have hl':its.toArray.size=n:=by simp [<- hl,rv.length]
 rw [assign_Tuple];refine wpAny_bind (wpAny_standAt ?_)
 unfold unpack;rw [hn,hst,<- hl']
 refine wpAny_bind (wpAny_holding (IN (I.ok.hd hc) p.isList fun h' hx=>?_))
 have I1:Inv X pins σ H { s with heap:=h' }:=I.kept (t':=s.toks) fun b o e=>hx b o (Nat.ne_of_lt (Heap.lt_size e)) e
 exact h pins _ σ H xs _ Q I1 (by simpa using rv) hw
end
structure Frg where
 ads:List Addr
 R:(Addr->Prop)->Hp->V->Prop
 keep:∀ M H H' v,(∀ c o,(¬ M c\/c∈ads)->H c=some o->H' c=some o)->R M H v->R M H' v
 avoid:∀ M M' H v,(∀ c,M' c->M c\/H c=none)->R M H v->R M' H v
 ref:∀ M H v,R M H v->∃ a,v=.ref a
 nt:∀ M H v,R M H v->∀ c∈ads,∃ o,H c=some o/\∀ vs,o≠.tup vs
abbrev Tg:=List (List Int×Addr×Value)×Nat
inductive D where
 | non|bl (b:Bool)|int (i:Int)|str (x:Str)|ty (n:String)|adr (a:Addr)
 | tup (xs:List D)|lst (xs:List D)|own (xs:List D)|bag|scr (ns:List Int)|dct (t:Tg) (ks:List (List Int)) (xs:List D)|frg (f:Frg) (d:D)
structure BagT where
 ok:Addr->Hp->Prop
 st:∀ p H H',ok p H->(∀ o,H p=some o->H' p=some o)->ok p H'
 dm:∀ p H,ok p H->∃ o,H p=some o
def KTp (K:Fg)(a:Addr)(xs:List V):Prop:=∃ (o:Obj) (its:Array Value) (n:Nat),K.lookup a=some o/\o.cls=.type "tuple"/\o.data=.seq its n/\its.size<=sizeLine/\Vals xs its.toList
def TpA (K:Fg)(M:Addr->Prop)(H:Hp)(a:Addr)(vs:List V):Prop:=(¬ M a/\H a=some (.tup vs))\/KTp K a vs
theorem TpA.sq {H:Hp}{a:Addr}{vs:List V}(h:TpA K M H a vs):SqT K H a vs:=h.elim (fun z=>.inl (.inl z.2)) .inr
theorem TpA.keep {H H':Hp}{a:Addr}{vs:List V}(k:∀ b o,¬ M b->H b=some o->H' b=some o)(h:TpA K M H a vs):TpA K M H' a vs:=h.imp (fun z=>⟨z.1,k _ _ z.1 z.2⟩) id
theorem TpA.avoid {M M':Addr->Prop}{H:Hp}{a:Addr}{vs:List V}(k:∀ b,M' b->M b\/H b=none)(h:TpA K M H a vs):TpA K M' H a vs:=by
 refine h.imp (fun z=>⟨fun m=>?_,z.2⟩) id
 rcases k a m with n|n
 · exact z.1 n
 · rw [n] at z;cases z.2
def KL (K:Fg)(a:Addr)(xs:List V):Prop:=∃ (o:Obj) (its:Array Value) (n:Nat),K.lookup a=some o/\o.cls=.type "list"/\o.dict=none/\o.data=.seq its n/\its.size<=sizeLine/\Vals xs its.toList
def tkH (ns:List Int):Int:=reduceHash (Builtin.Tuple.tupleHashOf (ns.map hashInt))
def Q3x (x:List Int×Addr×Value):DictEntry:=⟨tkH x.1,.ref x.2.1,x.2.2⟩
def DOb (a:Addr)(es:List (List Int×Addr×Value))(ep:Nat):HO:=.ext fun h=>((a==sysModules)=false/\es.length<=sizeLine/\(es.map (·.1)).Nodup)/\∃ (o:Obj) (ds:Array DictEntry),h.get? a=some o/\o.ExactDict/\o.data=.dict ds ep/\ds.toList=es.map Q3x
def DctE (K:Fg)(M:Addr->Prop)(H:Hp)(es:List (List Int×Addr×Value))(ks:List (List Int))(vs:List V):Prop:=es.map (·.1)=ks/\(∀ e∈es,TpA K M H e.2.1 (e.1.map V.int))/\Vals vs (es.map (·.2.2))
theorem DctE.keep {H H':Hp}{es:List (List Int×Addr×Value)}{ks:List (List Int)}{vs:List V}(k:∀ b o,¬ M b->H b=some o->H' b=some o)(h:DctE K M H es ks vs):DctE K M H' es ks vs:=⟨h.1,fun e m=>(h.2.1 e m).keep k,h.2.2⟩
theorem DctE.avoid {M M':Addr->Prop}{H:Hp}{es:List (List Int×Addr×Value)}{ks:List (List Int)}{vs:List V}(k:∀ b,M' b->M b\/H b=none)(h:DctE K M H es ks vs):DctE K M' H es ks vs:=⟨h.1,fun e m=>(h.2.1 e m).avoid k,h.2.2⟩
mutual
def Rep (K:Fg)(M:Addr->Prop)(H:Hp):D->V->Prop
 | .non,v=>v=.non
 | .bl b,v=>v=.bl b
 | .int i,v=>v=.int i
 | .str x,v=>v=.str x
 | .ty n,v=>v=.ty n
 | .adr a,v=>v=.ref a
 | .tup xs,v=>∃ a vs,v=.ref a/\TpA K M H a vs/\Reps K M H xs vs
 | .lst xs,v=>∃ a vs,v=.ref a/\(¬ M a/\H a=some (.lst vs))/\Reps K M H xs vs
 | .own _,_=>False
 | .bag,_=>False
 | .frg _ _,_=>False
 | .scr ns,v=>∃ a,v=.ref a/\((¬ M a/\Rd H a (.lst (ns.map V.int)))\/KL K a (ns.map V.int))
 | .dct t ks xs,v=>∃ (a:Addr) (vs:List V),v=.ref a/\(¬ M a/\H a=some (DOb a t.1 t.2)/\DctE K M H t.1 ks vs)/\Reps K M H xs vs
def Reps (K:Fg)(M:Addr->Prop)(H:Hp):List D->List V->Prop
 | [],vs=>vs=[]
 | d::ds,vs=>∃ v r,vs=v::r/\Rep K M H d v/\Reps K M H ds r
end
theorem Rd.keep {H H':Hp}{a:Addr}{u:HO}(k:∀ o,H a=some o->H' a=some o)(h:Rd H a u):Rd H' a u:=by
 rcases h with h|⟨o,h⟩
 · exact .inl (k _ h)
 · exact .inr ⟨o,k _ h⟩
theorem Rd.some {H:Hp}{a:Addr}{u:HO}(h:Rd H a u):H a≠none:=by
 rcases h with h|⟨o,h⟩<;>rw [h]<;>simp
section
variable {K:Fg}{M M':Addr->Prop}{H H':Hp}
mutual
theorem Rep.keep (k:∀ b o,¬ M b->H b=some o->H' b=some o):∀ (d:D) (v:V),Rep K M H d v->Rep K M H' d v
 | .non,_,h=>h
 | .bl _,_,h=>h
 | .int _,_,h=>h
 | .str _,_,h=>h
 | .ty _,_,h=>h
 | .adr _,_,h=>h
 | .tup xs,v,h=>by
   obtain ⟨a,vs,e,z,r⟩:=h
   exact ⟨a,vs,e,z.keep k,Reps.keep k xs vs r⟩
 | .lst xs,v,h=>by
   obtain ⟨a,vs,e,z,r⟩:=h
   exact ⟨a,vs,e,⟨z.1,k _ _ z.1 z.2⟩,Reps.keep k xs vs r⟩
 | .own _,_,h=>h
 | .bag,_,h=>h
 | .frg _ _,_,h=>h
 | .scr ns,v,h=>by
   obtain ⟨a,e,z⟩:=h
   exact ⟨a,e,z.imp (fun q=>⟨q.1,q.2.keep fun o=>k a o q.1⟩) id⟩
 | .dct t ks xs,v,h=>by
   obtain ⟨a,vs,e,z,r⟩:=h
   exact ⟨a,vs,e,⟨z.1,k _ _ z.1 z.2.1,z.2.2.keep k⟩,Reps.keep k xs _ r⟩
theorem Reps.keep (k:∀ b o,¬ M b->H b=some o->H' b=some o):∀ (ds:List D) (vs:List V),Reps K M H ds vs->Reps K M H' ds vs
 | [],_,h=>h
 | d::ds,vs,h=>by
   obtain ⟨v,r,e,h1,h2⟩:=h
   exact ⟨v,r,e,Rep.keep k d v h1,Reps.keep k ds r h2⟩
end
mutual
theorem Rep.avoid (k:∀ b,M' b->M b\/H b=none):∀ (d:D) (v:V),Rep K M H d v->Rep K M' H d v
 | .non,_,h=>h
 | .bl _,_,h=>h
 | .int _,_,h=>h
 | .str _,_,h=>h
 | .ty _,_,h=>h
 | .adr _,_,h=>h
 | .tup xs,v,h=>by
   obtain ⟨a,vs,e,z,r⟩:=h
   exact ⟨a,vs,e,z.avoid k,Reps.avoid k xs vs r⟩
 | .lst xs,v,h=>by
   obtain ⟨a,vs,e,z,r⟩:=h
   refine ⟨a,vs,e,⟨fun m=>?_,z.2⟩,Reps.avoid k xs vs r⟩
   rcases k a m with n|n
   · exact z.1 n
   · rw [n] at z;cases z.2
 | .own _,_,h=>h
 | .bag,_,h=>h
 | .frg _ _,_,h=>h
 | .scr ns,v,h=>by
   obtain ⟨a,e,z⟩:=h
   refine ⟨a,e,z.imp (fun q=>⟨fun m=>?_,q.2⟩) id⟩
   rcases k a m with n|n
   · exact q.1 n
   · exact q.2.some n
 | .dct t ks xs,v,h=>by
   obtain ⟨a,vs,e,z,r⟩:=h
   refine ⟨a,vs,e,⟨fun m=>?_,z.2.1,z.2.2.avoid k⟩,Reps.avoid k xs _ r⟩
   rcases k a m with n|n
   · exact z.1 n
   · rw [n] at z;cases z.2.1
theorem Reps.avoid (k:∀ b,M' b->M b\/H b=none):∀ (ds:List D) (vs:List V),Reps K M H ds vs->Reps K M' H ds vs
 | [],_,h=>h
 | d::ds,vs,h=>by
   obtain ⟨v,r,e,h1,h2⟩:=h
   exact ⟨v,r,e,Rep.avoid k d v h1,Reps.avoid k ds r h2⟩
end
end
abbrev Ev:=List (Option D)
structure Wd where
 K:Fg
 B:BagT
 H0:Hp
 M0:Addr->Prop
 b0:Option Addr
def okB (B:BagT)(b:Option Addr)(H:Hp):Prop:=∀ p,b=some p->B.ok p H
def Kp (b:Option Addr)(H H':Hp):Prop:=∀ c o,b≠some c->H c=some o->H' c=some o
theorem Kp.refl (b:Option Addr)(H:Hp):Kp b H H:=fun _ _ _ h=>h
theorem Kp.trans {H H1 H2:Hp}(x:Kp b H H1)(y:Kp b H1 H2):Kp b H H2:=fun c o n h=>y c o n (x c o n h)
theorem Kp.upd {H:Hp}{p:Addr}{o:HO}(h:H p=none):Kp b H (upd H p o):=fun c u _ e=>Same.upd h c u e
theorem Kp.same {H H':Hp}(h:Same H H'):Kp b H H':=fun c o _ e=>h c o e
def RepX (W:Wd)(M:Addr->Prop)(b:Option Addr)(H:Hp):D->V->Prop
 | .own xs,v=>∃ a vs,v=.ref a/\M a/\b≠some a/\W.H0 a=none/\¬ W.M0 a/\H a=some (.lst vs)/\Reps W.K M H xs vs
 | .bag,v=>∃ p,b=some p/\v=.ref p
 | .frg f d,v=>(∀ c∈f.ads,M c/\b≠some c/\W.H0 c=none/\¬ W.M0 c)/\f.R M H v/\Rep W.K (fun c=>M c/\c∉f.ads) H d v
 | d,v=>Rep W.K M H d v
def plain:D->Bool
 | .own _=>false
 | .bag=>false
 | .frg _ _=>false
 | _=>true
def GN:D->Bool
 | .own _=>false
 | .frg _ _=>false
 | _=>true
theorem RepX.rep {W:Wd} {H:Hp}{d:D}{v:V}(h:RepX W M b H d v)(p:plain d=true):Rep W.K M H d v:=by
 cases d<;>first|exact h|cases p
theorem Rep.x {W:Wd} {H:Hp}{d:D}{v:V}(h:Rep W.K M H d v):RepX W M b H d v:=by
 cases d<;>first|exact h|exact h.elim
def RepXs (W:Wd)(M:Addr->Prop)(b:Option Addr)(H:Hp):List D->List V->Prop
 | [],vs=>vs=[]
 | d::ds,vs=>∃ v r,vs=v::r/\RepX W M b H d v/\RepXs W M b H ds r
structure Hs (W:Wd)(M:Addr->Prop)(b:Option Addr)(H:Hp):Prop where
 ok:okB W.B b H
 bagM:∀ p,b=some p->M p
 dom:∀ c,M c->∃ o,H c=some o
 m0:∀ c,W.M0 c->M c
theorem RepX.move {W:Wd}{M M':Addr->Prop}{b b':Option Addr}{H H':Hp}{f:Frg}{d:D}{v:V}(h:RepX W M b H (.frg f d) v)(ow:∀ c∈f.ads,M c->b≠some c->M' c/\b'≠some c)(k:∀ c o,(¬ M' c\/c∈f.ads)->H c=some o->H' c=some o)(a:∀ c,M' c->M c\/H c=none):RepX W M' b' H' (.frg f d) v:=by
 refine ⟨fun c m=>?_,f.keep M' H H' v k (f.avoid M M' H v a h.2.1),Rep.keep (fun c o n e=>k c o ?_ e) _ _ (Rep.avoid (fun c m=>(a c m.1).imp (fun z=>⟨z,m.2⟩) id) _ _ h.2.2)⟩
 · obtain ⟨q1,q2,q3,q4⟩:=h.1 c m
   obtain ⟨z1,z2⟩:=ow c m q1 q2
   exact ⟨z1,z2,q3,q4⟩
 · by_cases z:c∈f.ads
   · exact .inr z
   · exact .inl fun m=>n ⟨m,z⟩
theorem RepX.step {W:Wd} {H H':Hp}{d:D}{v:V}(hb:∀ p,b=some p->M p)(k:Kp b H H')(h:RepX W M b H d v):RepX W M b H' d v:=by
 have k':∀ c o,¬ M c->H c=some o->H' c=some o:=fun c o n e=>k c o (fun z=>n (hb c z)) e
 cases d
 case own xs =>
  obtain ⟨a,vs,e,m,n,n0,m0,h1,h2⟩:=h
  exact ⟨a,vs,e,m,n,n0,m0,k _ _ n h1,Reps.keep k' _ _ h2⟩
 case bag=>exact h
 case frg f d=>exact RepX.move h (fun c m m1 n=>⟨m1,n⟩) (fun c o q e=>q.elim (fun n=>k' c o n e) fun m=>k c o (h.1 c m).2.1 e) fun c m=>.inl m
 all_goals exact Rep.keep k' _ _ h
theorem RepXs.reps {W:Wd} {H:Hp}:∀ (ds:List D) (vs:List V),RepXs W M b H ds vs->ds.all plain=true->Reps W.K M H ds vs
 | [],_,h,_=>h
 | d::ds,vs,h,p=>by
   obtain ⟨v,r,e,h1,h2⟩:=h
   simp only [List.all_cons,Bool.and_eq_true] at p
   exact ⟨v,r,e,h1.rep p.1,RepXs.reps ds r h2 p.2⟩
theorem Reps.length {H:Hp}:∀ (ds:List D) (vs:List V),Reps K M H ds vs->vs.length=ds.length
 | [],_,h=>by cases (show _=_ from h);rfl
 | d::ds,vs,h=>by
   obtain ⟨v,r,rfl,h1,h2⟩:=h
   simp [Reps.length ds r h2]
theorem Reps.get {H:Hp}:∀ {ds:List D} {vs:List V} {i:Nat} {d:D},Reps K M H ds vs->ds[i]?=some d->∃ v,vs[i]?=some v/\Rep K M H d v
 | [],_,_,_,h,e=>by simp at e
 | d::ds,vs,0,_,h,e=>by
   obtain ⟨v,r,rfl,h1,h2⟩:=h
   simp at e;subst e
   exact ⟨v,rfl,h1⟩
 | d::ds,vs,i+1,d',h,e=>by
   obtain ⟨v,r,rfl,h1,h2⟩:=h
   obtain ⟨u,e1,e2⟩:=Reps.get (i:=i) h2 (by simpa using e)
   exact ⟨u,by simpa using e1,e2⟩
theorem Reps.at {H:Hp}{ds:List D}{vs:List V}{i:Int}{d:D}(h:Reps K M H ds vs)(e:atI ds i=some d):∃ v,atI vs i=some v/\Rep K M H d v:=by
 unfold atI at *
 rw [h.length]
 cases q:ixN ds.length i with
 | none=>rw [q] at e;cases e
 | some j =>
   rw [q] at e
   exact Reps.get h e
theorem Reps.append {H:Hp}:∀ {ds es:List D} {vs us:List V},Reps K M H ds vs->Reps K M H es us->Reps K M H (ds++es) (vs++us)
 | [],_,_,_,h,h'=>by cases (show _=_ from h);exact h'
 | d::ds,_,_,_,h,h'=>by
   obtain ⟨v,r,rfl,h1,h2⟩:=h
   exact ⟨v,_,rfl,h1,Reps.append h2 h'⟩
theorem Reps.drop {H:Hp}:∀ {ds:List D} {vs:List V} (j:Nat),Reps K M H ds vs->Reps K M H (ds.drop j) (vs.drop j)
 | _,_,0,h=>h
 | [],_,_+1,h=>by cases (show _=_ from h);exact rfl
 | e::ds,_,j+1,h=>by
   obtain ⟨v',r,rfl,h1,h2⟩:=h
   exact Reps.drop j h2
theorem Reps.take {H:Hp}:∀ {ds:List D} {vs:List V} (j:Nat),Reps K M H ds vs->Reps K M H (ds.take j) (vs.take j)
 | _,_,0,h=>rfl
 | [],_,_+1,h=>by cases (show _=_ from h);exact rfl
 | e::ds,_,j+1,h=>by
   obtain ⟨v',r,rfl,h1,h2⟩:=h
   exact ⟨v',_,rfl,h1,Reps.take j h2⟩
def PinR (W:Wd)(M:Addr->Prop)(b:Option Addr)(H:Hp):D->V->Prop
 | .own xs,v=>RepX W M b H (.own xs) v
 | d,v=>Rep W.K M H d v
theorem PinR.x {W:Wd} {H:Hp}{d:D}{v:V}(h:PinR W M b H d v):RepX W M b H d v:=by
 cases d<;>first|exact h|exact h.elim
theorem RepX.pin {W:Wd} {H:Hp}{d:D}{v:V}(h:RepX W M b H d v)(p:plain d=true):PinR W M b H d v:=by
 cases d<;>first|exact h|cases p
theorem PinR.to {W:Wd}{M M':Addr->Prop}{b b':Option Addr}{H H':Hp}{d:D}{v:V}(h:PinR W M b H d v)(rep:∀ d v,Rep W.K M H d v->Rep W.K M' H' d v)(reps:∀ ds vs,Reps W.K M H ds vs->Reps W.K M' H' ds vs)(own:∀ xs a vs,d=.own xs->v=.ref a->M a->b≠some a->H a=some (.lst vs)->M' a/\b'≠some a/\H' a=some (.lst vs)):PinR W M' b' H' d v:=by
 cases d
 case own xs =>
  obtain ⟨a,vs,rfl,m1,m2,m3,m4,hh,r⟩:=h
  obtain ⟨q1,q2,q3⟩:=own xs a vs rfl rfl m1 m2 hh
  exact ⟨a,vs,rfl,q1,q2,m3,m4,q3,reps _ _ r⟩
 case bag=>exact h.elim
 all_goals exact rep _ _ h
def EO:D->V->Addr->Prop
 | .own _,v,c=>v=.ref c
 | .frg f _,_,c=>c∈f.ads
 | _,_,_=>False
def mine:D->Bool
 | .own _=>true
 | .frg _ _=>true
 | _=>false
theorem EO.m {d:D}{v:V}{c:Addr}(h:EO d v c):mine d=true:=by cases d<;>first|rfl|exact h.elim
theorem RepX.mine {W:Wd} {H:Hp}{d:D}{v:V}{c:Addr}(h:RepX W M b H d v)(m:EO d v c):M c/\b≠some c/\W.H0 c=none/\¬ W.M0 c:=by
 cases d
 case own xs =>
  obtain ⟨a,vs,e,m1,n,n0,m0,h1,h2⟩:=h
  cases (e.symm.trans (show v=.ref c from m))
  exact ⟨m1,n,n0,m0⟩
 case frg f d=>exact h.1 c m
 all_goals exact m.elim
structure Sta (W:Wd)(pn:List (D×V))(M:Addr->Prop)(b:Option Addr)(H:Hp)(σ:St)(ρ:Ev):Prop extends Hs W M b H where
 kp:Kp W.b0 W.H0 H
 new:b=W.b0\/(W.b0=none/\∀ p,b=some p->W.H0 p=none)
 env:∀ (i:Nat) d,ρ[i]?=some (some d)->∃ v,σ[i]?=some (some v)/\RepX W M b H d v
 len:ρ.length=σ.length
 pin:∀ q∈pn,PinR W M b H q.1 q.2
theorem Sta.step {W:Wd}{pn:List (D×V)} {H H':Hp}{σ:St}{ρ:Ev}(s:Sta W pn M b H σ ρ)(k:Kp b H H')(o:okB W.B b H'):Sta W pn M b H' σ ρ where
 ok:=o
 bagM:=s.bagM
 dom:=fun c m=>by
  by_cases z:b=some c
  · exact W.B.dm c H' (o c z)
  · obtain ⟨u,e⟩:=s.dom c m
    exact ⟨u,k c u z e⟩
 m0:=s.m0
 kp:=fun c u n e=>by
  refine k c u (fun z=>?_) (s.kp c u n e)
  rcases s.new with q|⟨_,q⟩
  · exact n (q▸z)
  · rw [q c z] at e;cases e
 new:=s.new
 env:=fun i d e=>by
  obtain ⟨v,e1,r⟩:=s.env i d e
  exact ⟨v,e1,r.step s.bagM k⟩
 len:=s.len
 pin:=fun q hq=>(s.pin q hq).to (fun _ _ r=>Rep.keep (fun c o n e=>k c o (fun z=>n (s.bagM c z)) e) _ _ r) (fun _ _ r=>Reps.keep (fun c o n e=>k c o (fun z=>n (s.bagM c z)) e) _ _ r) fun xs a vs _ _ m n hh=>⟨m,n,k _ _ n hh⟩
theorem Hs.new {W:Wd} {H:Hp}(s:Hs W M b H){p:Addr}(h:H p=none):¬ M p:=fun m=>by
 obtain ⟨o,e⟩:=s.dom p m
 rw [h] at e;cases e
theorem Hs.okU {W:Wd} {H:Hp}(s:Hs W M b H){p:Addr}{o:HO}(h:H p=none):okB W.B b (upd H p o):=fun q e=>W.B.st q H _ (s.ok q e) fun u e'=>Same.upd h q u e'
abbrev DE:=Ev->(D->Prop)->Prop
abbrev DT:=Ev->(Bool->Prop)->Prop
abbrev DA:=Ev->(List D->Prop)->Prop
def dn (W:Wd)(d:DE):TE:=fun σ H Q=>∃ pn M b ρ P,Sta W pn M b H σ ρ/\d ρ P/\∀ x v H',P x->RepX W M b H' x v->Kp b H H'->okB W.B b H'->Q v H'
def dnT (W:Wd)(d:DT):TT:=fun σ H Q=>∃ pn M b ρ P,Sta W pn M b H σ ρ/\d ρ P/\∀ x H',P x->Kp b H H'->okB W.B b H'->Q x H'
def dnA (W:Wd)(d:DA):TA:=fun σ H Q=>∃ pn M b ρ P,Sta W pn M b H σ ρ/\d ρ P/\∀ xs vs H',P xs->RepXs W M b H' xs vs->Kp b H H'->okB W.B b H'->Q vs H'
theorem dn.elim {W:Wd}{d:DE}{σ:St}{H:Hp}{Q:VK}{R:Prop}(h:dn W d σ H Q)(f:∀ pn M b ρ P,Sta W pn M b H σ ρ->d ρ P->(∀ x v H',P x->RepX W M b H' x v->Kp b H H'->okB W.B b H'->Q v H')->R):R:=by
 obtain ⟨pn,M,b,ρ,P,st,h,k⟩:=h
 exact f pn M b ρ P st h k
theorem dnT.elim {W:Wd}{d:DT}{σ:St}{H:Hp}{Q:Bool->Hp->Prop}{R:Prop}(h:dnT W d σ H Q)(f:∀ pn M b ρ P,Sta W pn M b H σ ρ->d ρ P->(∀ x H',P x->Kp b H H'->okB W.B b H'->Q x H')->R):R:=by
 obtain ⟨pn,M,b,ρ,P,st,h,k⟩:=h
 exact f pn M b ρ P st h k
theorem dnA.elim {W:Wd}{d:DA}{σ:St}{H:Hp}{Q:List V->Hp->Prop}{R:Prop}(h:dnA W d σ H Q)(f:∀ pn M b ρ P,Sta W pn M b H σ ρ->d ρ P->(∀ xs vs H',P xs->RepXs W M b H' xs vs->Kp b H H'->okB W.B b H'->Q vs H')->R):R:=by
 obtain ⟨pn,M,b,ρ,P,st,h,k⟩:=h
 exact f pn M b ρ P st h k
section
variable {X:Cx}{W:Wd}{e a b c:Expr}{es:List Expr}{pos:Pos}{d da db dc:DE}{dA:DA}{t:TE}
theorem PE.mono {t':TE}(h:PE X e t)(m:∀ σ H Q,t' σ H Q->t σ H Q):PE X e t':=fun pins s σ H Q I q=>h pins s σ H Q I (m σ H Q q)
theorem PT.mono {t t':TT}(h:PT X e t)(m:∀ σ H Q,t' σ H Q->t σ H Q):PT X e t':=fun pins s σ H Q I q=>h pins s σ H Q I (m σ H Q q)
theorem PA.mono {t t':TA}(h:PA X es t)(m:∀ σ H Q,t' σ H Q->t σ H Q):PA X es t':=fun pos pins s σ H Q I q=>h pos pins s σ H Q I (m σ H Q q)
def ZT (i:Nat):DE:=fun ρ P=>match ρ[i]? with|some (some d)=>P d|_=>False
theorem dv (i:Nat) {x:Str} {pos:Pos} (hN:X.N[i]?=some x:=by rfl) (hv:Vis X.env.scope x:=by first|exact Or.inl rfl|exact Or.inr (Or.inl rfl)|exact Or.inr (Or.inr rfl)) (hd:(x==("__debug__" : Str))=false:=by decide)
 (hcd:(x==("__classdict__" : Str))=false:=by decide):PE X (.Name x pos) (dn W (ZT i)):=(OV hN hv hd hcd).mono fun σ H Q hh=>hh.elim fun pn M b ρ P st h k=>by
 unfold ZT at h
 split at h
 case h_1 d e =>
  obtain ⟨v,e1,r⟩:=st.env i d e
  exact ⟨v,e1,k d v H h r (Kp.refl _ _) st.ok⟩
 case h_2=>exact h.elim
def dC (d:D):DE:=fun _ P=>P d
theorem J8o {d:D}{v:V}(h:PE X e (tC v))(hr:∀ M H,Rep W.K M H d v):PE X e (dn W (dC d)):=h.mono fun σ H Q hh=>hh.elim fun pn M b ρ P st h k=>k d v H h (Rep.x (hr M H)) (Kp.refl _ _) st.ok
theorem Q3j {i j pos}:PE X (.Constant (.int i) j pos) (dn W (dC (.int i))):=J8o V8 fun _ _=>rfl
theorem Q6k {i j pos}:PE X (.Constant (.bool i) j pos) (dn W (dC (.bl i))):=J8o Q5o fun _ _=>rfl
theorem J8p {x:Str}{T:String}{pos:Pos}(hg:Gl X x)(hm:X.mg x=none)(hv:bootBuiltins x=some (.type T))(hn:x≠"__name__":=by decide) (hd:(x==("__debug__" : Str))=false:=by decide):PE X (.Name x pos) (dn W (dC (.ty T))):=J8o (J6z (v:=.ty T) hg hm hv rfl hn hd) fun _ _=>rfl
def OpD (W:Wd)(r:R2)(o:D->D->(D->Prop)->Prop):Prop:=∀ M b H x y v u P Q,Hs W M b H->RepX W M b H x v->RepX W M b H y u->o x y P->(∀ z w H',P z->RepX W M b H' z w->Kp b H H'->okB W.B b H'->Q w H')->r v u H Q
def dOp (o:D->D->(D->Prop)->Prop)(da db:DE):DE:=fun ρ P=>da ρ fun x=>db ρ fun y=>o x y P
theorem WC {r:R2}{o:D->D->(D->Prop)->Prop}(hd:OpD W r o):∀ σ H Q,dn W (dOp o da db) σ H Q->tOp r (dn W da) (dn W db) σ H Q:=by
 intro σ H Q hh
 refine hh.elim fun pn M b ρ P st h k=>?_
 refine ⟨pn,M,b,ρ,_,st,h,fun x v H1 hx rx k1 o1=>?_⟩
 refine ⟨pn,M,b,ρ,_,st.step k1 o1,hx,fun y u H2 hy ry k2 o2=>?_⟩
 exact hd M b H2 x y v u P Q ((st.step k1 o1).step k2 o2).toHs (rx.step st.bagM k2) ry hy fun z w H' hz rz k3 o3=>k z w H' hz rz ((k1.trans k2).trans k3) o3
theorem Q6i {op:Operator}{r:R2}{o:D->D->(D->Prop)->Prop}(ho:OpR X (binaryOp op) r)(hd:OpD W r o)(ha:PE X a (dn W da))(hb:PE X b (dn W db)):PE X (.BinOp a op b pos) (dn W (dOp o da db)):=(BB ho ha hb).mono (WC hd)
theorem Q3k {op:CmpOp}{r:R2}{o:D->D->(D->Prop)->Prop}(ho:OpR X (compareOp op) r)(hd:OpD W r o)(ha:PE X a (dn W da))(hb:PE X b (dn W db))(hm:behindInMarks op b=false):PE X (.Compare a [op] [b] pos) (dn W (dOp o da db)):=(J6y ho ha hb hm).mono (WC hd)
theorem Q6j {r:R2}{o:D->D->(D->Prop)->Prop}(hr:IxR X r)(hd:OpD W r o)(ha:PE X a (dn W da))(hb:PE X b (dn W db))(hs:QM b):PE X (.Subscript a b pos) (dn W (dOp o da db)):=(KG hr ha hb hs).mono (WC hd)
def oI (C:Int->Int->Prop)(g:Int->Int->Int):D->D->(D->Prop)->Prop
 | .int i,.int j,P=>C i j/\P (.int (g i j))
 | _,_,_=>False
def oI0 (g:Int->Int->Int):D->D->(D->Prop)->Prop
 | .int i,.int j,P=>P (.int (g i j))
 | _,_,_=>False
def oB0 (g:Int->Int->Bool):D->D->(D->Prop)->Prop
 | .int i,.int j,P=>P (.bl (g i j))
 | _,_,_=>False
theorem FW {C:Int->Int->Prop}{g:Int->Int->Int}:OpD W (rI C fun i j=>.int (g i j)) (oI C g):=by
 intro M b H x y v u P Q hs rx ry ho k
 cases x<;>first|exact ho.elim|skip
 cases y<;>first|exact ho.elim|skip
 cases (show _=_ from rx)
 cases (show _=_ from ry)
 exact ⟨_,_,rfl,rfl,ho.1,k _ _ H ho.2 (show _=_ from rfl) (Kp.refl _ _) hs.ok⟩
theorem AT {g:Int->Int->Int}:OpD W (rI0 fun i j=>.int (g i j)) (oI0 g):=by
 intro M b H x y v u P Q hs rx ry ho k
 cases x<;>first|exact ho.elim|skip
 cases y<;>first|exact ho.elim|skip
 cases (show _=_ from rx)
 cases (show _=_ from ry)
 exact ⟨_,_,rfl,rfl,k _ _ H ho (show _=_ from rfl) (Kp.refl _ _) hs.ok⟩
theorem KN {g:Int->Int->Bool}:OpD W (rI0 fun i j=>.bl (g i j)) (oB0 g):=by
 intro M b H x y v u P Q hs rx ry ho k
 cases x<;>first|exact ho.elim|skip
 cases y<;>first|exact ho.elim|skip
 cases (show _=_ from rx)
 cases (show _=_ from ry)
 exact ⟨_,_,rfl,rfl,k _ _ H ho (show _=_ from rfl) (Kp.refl _ _) hs.ok⟩
def Q5u (neg:Bool):D->D->(D->Prop)->Prop
 | .int i,.int j,P=>P (.bl (decide (i=j)!=neg))
 | .bl i,.bl j,P=>P (.bl (decide (i=j)!=neg))
 | .str i,.str j,P=>P (.bl (decide (i=j)!=neg))
 | .non,.non,P=>P (.bl (true != neg))
 | .non,.int _,P=>P (.bl (false != neg))
 | .int _,.non,P=>P (.bl (false != neg))
 | .str _,.int _,P=>P (.bl (false != neg))
 | .int _,.str _,P=>P (.bl (false != neg))
 | _,_,_=>False
theorem EJ:OpD W rEq (Q5u false):=by
 intro M b H x y v u P Q hs rx ry ho k
 cases x<;>cases y<;>first|exact ho.elim|skip
 all_goals (cases (show _=_ from rx);cases (show _=_ from ry);refine ⟨rfl,?_⟩;refine k _ _ H ho ?_ (Kp.refl _ _) hs.ok)
 all_goals (show V.bl _=V.bl _;simp)
theorem J2r:OpD W rNe (Q5u true):=by
 intro M b H x y v u P Q hs rx ry ho k
 cases x<;>cases y<;>first|exact ho.elim|skip
 all_goals (cases (show _=_ from rx);cases (show _=_ from ry);refine ⟨rfl,?_⟩;refine k _ _ H ho ?_ (Kp.refl _ _) hs.ok)
 all_goals (show V.bl _=V.bl _;simp)
def oIx:D->D->(D->Prop)->Prop
 | .tup xs,.int i,P=>(atI xs i).elim False P
 | .lst xs,.int i,P=>(atI xs i).elim False P
 | .own xs,.int i,P=>(atI xs i).elim False P
 | _,_,_=>False
theorem Q9 (K:Fg)(h:X.K=K):IxR X (fun x y H Q=>J6k K x y H Q\/J6l K x y H Q):=(J7u K h).or (CZ K h)
theorem V4:OpD W (fun x y H Q=>J6k W.K x y H Q\/J6l W.K x y H Q) oIx:=by
 intro M b H x y v u P Q hs rx ry ho k
 cases x<;>first|exact ho.elim|skip
 all_goals (cases y<;>first|exact ho.elim|skip)
 all_goals cases (show _=_ from ry)
 case tup.int xs i =>
  obtain ⟨a,vs,rfl,hh,r⟩:=rx
  simp only [oIx] at ho
  cases e:atI xs i with
  | none=>rw [e] at ho;exact ho.elim
  | some d =>
    rw [e] at ho
    obtain ⟨w,e1,r1⟩:=r.at e
    exact .inl ⟨a,vs,i,w,rfl,rfl,hh.sq,e1,k d w H ho r1.x (Kp.refl _ _) hs.ok⟩
 case lst.int xs i =>
  obtain ⟨a,vs,rfl,hh,r⟩:=rx
  simp only [oIx] at ho
  cases e:atI xs i with
  | none=>rw [e] at ho;exact ho.elim
  | some d =>
    rw [e] at ho
    obtain ⟨w,e1,r1⟩:=r.at e
    exact .inr ⟨a,vs,i,w,rfl,rfl,SqL.of hh.2,e1,k d w H ho r1.x (Kp.refl _ _) hs.ok⟩
 case own.int xs i =>
  obtain ⟨a,vs,rfl,_,_,_,_,hh,r⟩:=rx
  simp only [oIx] at ho
  cases e:atI xs i with
  | none=>rw [e] at ho;exact ho.elim
  | some d =>
    rw [e] at ho
    obtain ⟨w,e1,r1⟩:=r.at e
    exact .inr ⟨a,vs,i,w,rfl,rfl,SqL.of hh,e1,k d w H ho r1.x (Kp.refl _ _) hs.ok⟩
def dUn (o:D->(D->Prop)->Prop)(da:DE):DE:=fun ρ P=>da ρ fun x=>o x P
def Q1u:D->(D->Prop)->Prop
 | .int i,P=>P (.int (-i))
 | _,_=>False
theorem Q3h (ha:PE X a (dn W da)):PE X (.UnaryOp .USub a pos) (dn W (dUn Q1u da)):=(Q5n Q0l ha).mono fun σ H Q hh=>hh.elim fun pn M b ρ P st h k=>by
 refine ⟨pn,M,b,ρ,_,st,h,fun x v H1 hx rx k1 o1=>?_⟩
 cases x<;>first|exact hx.elim|skip
 cases (show _=_ from rx)
 exact ⟨_,rfl,k _ _ H1 hx (show _=_ from rfl) k1 o1⟩
inductive IfP (c:Bool)(A B:Prop):Prop
 | t (e:c=true) (h:A):IfP c A B
 | f (e:c=false) (h:B):IfP c A B
theorem IfP.of {c:Bool}{A B:Prop}(h1:c=true->A)(h2:c=false->B):IfP c A B:=by
 cases c
 · exact .f rfl (h2 rfl)
 · exact .t rfl (h1 rfl)
theorem IfP.true_of {A B:Prop}(h:IfP true A B):A:=by
 cases h with
 | t _ h=>exact h
 | f e _=>cases e
theorem IfP.false_of {A B:Prop}(h:IfP false A B):B:=by
 cases h with
 | f _ h=>exact h
 | t e _=>cases e
theorem UJ {A B:Prop}:IfP true A B=A:=propext ⟨IfP.true_of,fun h=>.t rfl h⟩
theorem J0b {A B:Prop}:IfP false A B=B:=propext ⟨IfP.false_of,fun h=>.f rfl h⟩
def Q6y (da db:DE):DE:=fun ρ P=>da ρ fun x=>match x with|.bl k=>IfP k (db ρ P) (P (.bl false))|_=>False
def Q6s (da:DE):DE:=fun ρ P=>da ρ fun x=>match x with|.bl k=>P (.bl (!k))|_=>False
variable {rest:List Expr}
theorem Q3f {op}(h:PE X a (dn W da)):PE X (.BoolOp op [a] pos) (dn W da):=Q1l h
theorem Q3l (ha:PE X a (dn W da))(hb:PE X (.BoolOp .And (b::rest) pos) (dn W db)):PE X (.BoolOp .And (a::b::rest) pos) (dn W (Q6y da db)):=(Q1n ha hb).mono fun σ H Q hh=>hh.elim fun pn M b ρ P st h k=>by
 refine ⟨pn,M,b,ρ,_,st,h,fun x v H1 hx rx k1 o1=>?_⟩
 cases x<;>first|exact hx.elim|skip
 case bl c =>
  cases (show _=_ from rx)
  refine ⟨c,rfl,?_⟩
  cases hx with
  | f e hx=>subst e;rw [if_neg Bool.false_ne_true];exact k _ _ H1 hx (show _=_ from rfl) k1 o1
  | t e hx=>subst e;rw [if_pos rfl];exact ⟨pn,M,b,ρ,P,st.step k1 o1,hx,fun x v H' hp r k2 o2=>k x v H' hp r (k1.trans k2) o2⟩
theorem Q3g (ha:PE X a (dn W da)):PE X (.UnaryOp .Not a pos) (dn W (Q6s da)):=(Q1m ha).mono fun σ H Q hh=>hh.elim fun pn M b ρ P st h k=>by
 refine ⟨pn,M,b,ρ,_,st,h,fun x v H1 hx rx k1 o1=>?_⟩
 cases x<;>first|exact hx.elim|skip
 case bl c =>
  cases (show _=_ from rx)
  exact ⟨c,rfl,k _ _ H1 hx (show _=_ from rfl) k1 o1⟩
def J4q (da:DE):DT:=fun ρ P=>da ρ fun x=>match x with|.bl k=>P k|_=>False
theorem Q2u {op:CmpOp}{r:R2}{o:D->D->(D->Prop)->Prop}(ho:OpR X (compareOp op) r)(hd:OpD W r o)(ha:PE X a (dn W da))(hb:PE X b (dn W db))(hm:behindInMarks op b=false):PT X (.Compare a [op] [b] pos) (dnT W (J4q (dOp o da db))):=(FM ho ha hb hm).mono fun σ H Q hh=>hh.elim fun pn M b ρ P st h k=>by
 refine WC hd σ H _ ⟨pn,M,b,ρ,_,st,h,fun x v H1 hx rx k1 o1=>?_⟩
 cases x<;>first|exact hx.elim|skip
 case bl c =>
  cases (show _=_ from rx)
  exact ⟨c,rfl,k _ H1 hx k1 o1⟩
def Q6n (da:DE):DT:=fun ρ P=>da ρ fun x=>match x with
 | .bl k=>P k
 | .int i=>P (i != 0)
 | .non=>P false
 | .tup xs=>P (!xs.isEmpty)
 | .lst xs=>P (!xs.isEmpty)
 | .own xs=>P (!xs.isEmpty)
 | _=>False
theorem Reps.empty {H:Hp}{ds:List D}{vs:List V}(h:Reps K M H ds vs):(!ds.isEmpty) = !vs.isEmpty:=by
 cases ds with
 | nil=>cases (show _=_ from h);rfl
 | cons d ds=>obtain ⟨v,r,rfl,_⟩:=h;rfl
theorem J4g (hK:X.K=W.K)(ha:PE X a (dn W da))(he:∀ whole,isTrue a X.env whole=(do let v <- whole;standAt a.pos;holding [v] (truthy v))):PT X a (dnT W (Q6n da)):=(YO W.K hK ha he).mono fun σ H Q hh=>hh.elim fun pn M b ρ P st h k=>by
 refine ⟨pn,M,b,ρ,_,st,h,fun x v H1 hx rx k1 o1=>?_⟩
 cases x<;>first|exact hx.elim|skip
 case bl c=>cases (show _=_ from rx);exact ⟨_,rfl,k _ H1 hx k1 o1⟩
 case int c=>cases (show _=_ from rx);exact ⟨_,rfl,k _ H1 hx k1 o1⟩
 case non=>cases (show _=_ from rx);exact ⟨_,rfl,k _ H1 hx k1 o1⟩
 case tup xs=>obtain ⟨a,vs,rfl,hh,r⟩:=rx;exact ⟨_,.inr (.inl ⟨vs,hh.sq,r.empty⟩),k _ H1 hx k1 o1⟩
 case lst xs=>obtain ⟨a,vs,rfl,hh,r⟩:=rx;exact ⟨_,.inl ⟨vs,SqL.of hh.2,r.empty⟩,k _ H1 hx k1 o1⟩
 case own xs=>obtain ⟨a,vs,rfl,_,_,_,_,hh,r⟩:=rx;exact ⟨_,.inl ⟨vs,SqL.of hh,r.empty⟩,k _ H1 hx k1 o1⟩
def J8s (t u:DT):DT:=fun ρ P=>t ρ fun c=>IfP c (P true) (u ρ P)
def J9t (t:DT):DT:=fun ρ P=>t ρ fun c=>P (!c)
variable {ta tb:DT}
theorem Q4u:∀ σ H Q,dnT W (J8s ta tb) σ H Q->tOr (dnT W ta) (dnT W tb) σ H Q:=by
 intro σ H Q hh
 refine hh.elim fun pn M b ρ P st h k=>?_
 refine ⟨pn,M,b,ρ,_,st,h,fun x H1 hx k1 o1=>?_⟩
 cases hx with
 | t e hx=>rw [if_pos e];exact k _ H1 hx k1 o1
 | f e hx=>rw [if_neg (by rw [e];exact Bool.false_ne_true)];exact ⟨pn,M,b,ρ,P,st.step k1 o1,hx,fun x H' hp k2 o2=>k x H' hp (k1.trans k2) o2⟩
theorem PW.mono {t t':TT}(h:PW X e t)(m:∀ σ H Q,t' σ H Q->t σ H Q):PW X e t':=fun wh pins s σ H Q I q=>h wh pins s σ H Q I (m σ H Q q)
theorem Q2s (ha:PT X a (dnT W ta)):PW X (.BoolOp .Or [a] pos) (dnT W ta):=Q1f ha
theorem J9r (ha:PT X a (dnT W ta))(hb:PW X (.BoolOp .Or (b::rest) pos) (dnT W tb)):PW X (.BoolOp .Or (a::b::rest) pos) (dnT W (J8s ta tb)):=(Q5m ha hb).mono Q4u
theorem Q2t (ha:PT X a (dnT W ta)):PT X (.UnaryOp .Not a pos) (dnT W (J9t ta)):=(Q1g ha).mono fun σ H Q hh=>hh.elim fun pn M b ρ P st h k=>⟨pn,M,b,ρ,_,st,h,fun x H1 hx k1 o1=>k _ H1 hx k1 o1⟩
def J4w (o o':D->D->(D->Prop)->Prop)(da db dc:DE):DE:=fun ρ P=>da ρ fun x=>db ρ fun y=>o x y fun z=>match z with|.bl k=>IfP k (dc ρ fun w=>o' y w P) (P (.bl false))|_=>False
theorem J4m {op op':CmpOp}{r r':R2}{o o':D->D->(D->Prop)->Prop}(ho:OpR X (compareOp op) r)(ho':OpR X (compareOp op') r')(hd:OpD W r o)(hd':OpD W r' o')(ha:PE X a (dn W da))(hb:PE X b (dn W db))(hc:PE X c (dn W dc))
 (hm:lastMarks [op,op'] [b,c]=false:=by with_unfolding_all rfl):PE X (.Compare a [op,op'] [b,c] pos) (dn W (J4w o o' da db dc)):=(J1z ho ho' ha hb hc hm).mono fun σ H Q hh=>hh.elim fun pn M b ρ P st h k=>by
 refine ⟨pn,M,b,ρ,_,st,h,fun x v H1 hx rx k1 o1=>?_⟩
 refine ⟨pn,M,b,ρ,_,st.step k1 o1,hx,fun y u H2 hy ry k2 o2=>?_⟩
 refine hd M b H2 x y v u _ _ ((st.step k1 o1).step k2 o2).toHs (rx.step st.bagM k2) ry hy fun z w H' hz rz k3 o3=>?_
 cases z<;>first|exact hz.elim|skip
 case bl q =>
  cases (show _=_ from rz)
  refine ⟨q,rfl,?_⟩
  cases hz with
  | f e hz=>subst e;rw [if_neg Bool.false_ne_true];exact k _ _ H' hz (show _=_ from rfl) ((k1.trans k2).trans k3) o3
  | t e hz =>
    subst e
    rw [if_pos rfl]
    refine ⟨pn,M,b,ρ,_,((st.step k1 o1).step k2 o2).step k3 o3,hz,fun w u' H4 hw rw' k4 o4=>?_⟩
    exact hd' M b H4 y w u u' P Q ((((st.step k1 o1).step k2 o2).step k3 o3).step k4 o4).toHs ((ry.step st.bagM k3).step st.bagM k4) rw' hw fun z w H' hz rz k5 o5=>k z w H' hz rz ((((k1.trans k2).trans k3).trans k4).trans k5) o5
def J5f:DA:=fun _ P=>P []
def J5g (da:DE)(dr:DA):DA:=fun ρ P=>da ρ fun x=>dr ρ fun xs=>P (x::xs)
theorem Q3n:PA X [] (dnA W J5f):=BY.mono fun σ H Q hh=>hh.elim fun pn M b ρ P st h k=>k [] [] H h rfl (Kp.refl _ _) st.ok
theorem J8r {dr:DA}(ha:PE X e (dn W da))(hr:PA X es (dnA W dr))(hs:starEach (e::es) X.env=(false,eval e X.env)::starEach es X.env:=by rfl):PA X (e::es) (dnA W (J5g da dr)):=(Z7 ha hr hs).mono fun σ H Q hh=>hh.elim fun pn M b ρ P st h k=>by
 refine ⟨pn,M,b,ρ,_,st,h,fun x v H1 hx rx k1 o1=>?_⟩
 refine ⟨pn,M,b,ρ,_,st.step k1 o1,hx,fun xs vs H2 hy ry k2 o2=>?_⟩
 exact k _ _ H2 hy ⟨v,vs,rfl,rx.step st.bagM k2,ry⟩ (k1.trans k2) o2
def GL (xs:List D):Bool:=xs.all plain&&decide (xs.length<=1000)
def Q6m (dA:DA):DE:=fun ρ P=>dA ρ fun xs=>GL xs=true/\P (.tup xs)
def Q6u (dA:DA):DE:=fun ρ P=>dA ρ fun xs=>GL xs=true/\P (.lst xs)
theorem GL.len {xs:List D}(h:GL xs=true):xs.length<=sizeLine:=by
 unfold GL at h
 simp only [Bool.and_eq_true,decide_eq_true_eq] at h
 exact Nat.le_trans h.2 Y1
theorem GL.pl {xs:List D}(h:GL xs=true):xs.all plain=true:=by
 unfold GL at h
 simp only [Bool.and_eq_true,decide_eq_true_eq] at h
 exact h.1
theorem FP {bg:Option Addr}{H:Hp}{xs:List D}{vs:List V}{p:Addr}(hs:Hs W M bg H)(r:Reps W.K M H xs vs)(h:H p=none):RepX W M bg (upd H p (.tup vs)) (.tup xs) (.ref p) :=
 ⟨p,vs,rfl,.inl ⟨hs.new h,Q5⟩,Reps.keep (fun c o _ e=>Same.upd h c o e) _ _ r⟩
theorem BN {bg:Option Addr}{H:Hp}{xs:List D}{vs:List V}{p:Addr}(hs:Hs W M bg H)(r:Reps W.K M H xs vs)(h:H p=none):RepX W M bg (upd H p (.lst vs)) (.lst xs) (.ref p) :=
 ⟨p,vs,rfl,⟨hs.new h,Q5⟩,Reps.keep (fun c o _ e=>Same.upd h c o e) _ _ r⟩
theorem Q3d {x1}(h:PA X es (dnA W dA)):PE X (.Tuple es x1 pos) (dn W (Q6m dA)):=(BM h).mono fun σ H Q hh=>hh.elim fun pn M b ρ P st h k=>by
 refine ⟨pn,M,b,ρ,_,st,h,fun xs vs H1 hx rx k1 o1=>?_⟩
 have rr:=rx.reps _ _ (GL.pl hx.1)
 refine ⟨by rw [rr.length];exact GL.len hx.1,fun p hp=>k _ _ _ hx.2 (FP (st.step k1 o1).toHs rr hp) (k1.trans (Kp.upd hp)) ((st.step k1 o1).okU hp)⟩
theorem Q3i (h:PA X es (dnA W dA)):PE X (.List es pos) (dn W (Q6u dA)):=(UY h).mono fun σ H Q hh=>hh.elim fun pn M b ρ P st h k=>by
 refine ⟨pn,M,b,ρ,_,st,h,fun xs vs H1 hx rx k1 o1=>?_⟩
 have rr:=rx.reps _ _ (GL.pl hx.1)
 refine ⟨by rw [rr.length];exact GL.len hx.1,fun p hp=>k _ _ _ hx.2 (BN (st.step k1 o1).toHs rr hp) (k1.trans (Kp.upd hp)) ((st.step k1 o1).okU hp)⟩
end
abbrev DSp:=List D->(D->Prop)->(Addr->Prop)->Prop
def Q4n (K:Fg)(M:Addr->Prop)(b:Option Addr)(H:Hp):D->V->Prop
 | .own _,_=>False
 | .bag,v=>∃ p,b=some p/\v=.ref p
 | d,v=>Rep K M H d v
def RepAs (K:Fg)(M:Addr->Prop)(b:Option Addr)(H:Hp):List D->List V->Prop
 | [],vs=>vs=[]
 | d::ds,vs=>∃ v r,vs=v::r/\Q4n K M b H d v/\RepAs K M b H ds r
def J7 (K:Fg)(B:BagT)(S:DSp):Sp:=fun vs H Q E=>∃ (M:Addr->Prop) (b:Option Addr) (ds:List D) (P:D->Prop) (Ed:Addr->Prop),S ds P Ed/\RepAs K M b H ds vs/\okB B b H/\(∀ p,b=some p->M p)/\(∀ c,M c->∃ o,H c=some o) /\
 (∀ d v H',P d->Rep K M H' d v->Kp b H H'->okB B b H'->Q v H')/\∀ C H',Ed C->Kp b H H'->okB B b H'->E (.ref C) none H'
theorem RepXs.args {W:Wd} {H:Hp}:∀ (ds:List D) (vs:List V),RepXs W M b H ds vs->ds.all GN=true->RepAs W.K M b H ds vs
 | [],_,h,_=>h
 | d::ds,vs,h,p=>by
   obtain ⟨v,r,e,h1,h2⟩:=h
   simp only [List.all_cons,Bool.and_eq_true] at p
   refine ⟨v,r,e,?_,RepXs.args ds r h2 p.2⟩
   cases d<;>first|exact h1|cases p.1
theorem RepAs.length {H:Hp}:∀ {ds:List D} {vs:List V},RepAs K M b H ds vs->vs.length=ds.length
 | [],_,h=>by cases (show _=_ from h);rfl
 | d::ds,vs,h=>by
   obtain ⟨v,r,rfl,h1,h2⟩:=h
   simp [RepAs.length h2]
def EB (W:Wd)(E:XK)(Ed:Addr->Prop):Prop:=∀ C H',Ed C->Kp W.b0 W.H0 H'->okB W.B W.b0 H'->E (.ref C) none H'
theorem Sta.ok0 {W:Wd}{pn:List (D×V)} {H:Hp}{σ:St}{ρ:Ev}(s:Sta W pn M b H σ ρ):okB W.B W.b0 H:=by
 rcases s.new with q|⟨q,_⟩
 · rw [<- q];exact s.ok
 · intro p e;rw [q] at e;cases e
section
variable {X:Cx}{W:Wd}{e a b c:Expr}{es:List Expr}{pos p:Pos}{d:DE}{dA:DA}{x:Str}{k:Nat}{ps:List Str}{S:DSp}
def LH (S:DSp)(Ed:Addr->Prop)(dA:DA):DE:=fun ρ P=>dA ρ fun ds=>ds.all GN=true/\S ds P Ed
theorem OE {E:XK}{Ed:Addr->Prop}(hE:EB W E Ed):∀ σ H Q,dn W (LH S Ed dA) σ H Q->MM (J7 W.K W.B S) [] E (dnA W dA) σ H Q:=by
 intro σ H Q hh
 refine hh.elim fun pn M b ρ P st h k=>?_
 refine ⟨pn,M,b,ρ,_,st,h,fun xs vs H1 hx rx k1 o1=>?_⟩
 have st1:=st.step k1 o1
 refine ⟨M,b,xs,P,Ed,hx.2,?_,o1,st.bagM,st1.dom,fun d v H' hd rd k2 o2=>k d v H' hd rd.x (k1.trans k2) o2,fun C H' hC k2 o2=>?_⟩
 · rw [List.append_nil];exact rx.args _ _ hx.1
 · have st2:=st1.step k2 o2
   exact hE C H' hC st2.kp st2.ok0
theorem FE:EB W E0 (fun _=>False):=fun _ _ h=>h.elim
theorem Q3e (G:Callee X.prog X.w X.K X.mg X.base CX0 x k ps (J7 W.K W.B S))(hr:Room k X.A)(hg:Gl X x)(ha:PA X (e::es) (dnA W dA))(hdb:(x==("__debug__" : Str))=false:=by decide) (he:starEach (e::es) X.env=(false,eval e X.env)::starEach es X.env:=by rfl) (hpl:(backTo pos (starEach es X.env)).any (·.1)=false:=by rfl) :
 PE X (.Call (.Name x p) (e::es) [] pos) (dn W (LH S (fun _=>False) dA)):=(GJ G hr hg ha hdb he hpl).mono (OE FE)
theorem J8m {CX:CXT}{E:XK}{Ed:Addr->Prop}(hE:EB W E Ed)(hp:DD CX X E)(G:Callee X.prog X.w X.K X.mg X.base CX x k ps (J7 W.K W.B S))(hr:Room k X.A)(hg:Gl X x)(ha:PA X (e::es) (dnA W dA))(hdb:(x==("__debug__" : Str))=false:=by decide) (he:starEach (e::es) X.env=(false,eval e X.env)::starEach es X.env:=by rfl) (hpl:(backTo pos (starEach es X.env)).any (·.1)=false:=by rfl) :
 PE X (.Call (.Name x p) (e::es) [] pos) (dn W (LH S Ed dA)):=(OW hp G hr hg ha hdb he hpl).mono (OE hE)
def FH (W:Wd)(r:List V->Hp->VK->Prop)(o:List D->(D->Prop)->Prop):Prop:=∀ M b H xs vs P Q,Hs W M b H->RepXs W M b H xs vs->o xs P->(∀ z w H',P z->RepX W M b H' z w->Kp b H H'->okB W.B b H'->Q w H')->r vs H Q
def dCB (o:List D->(D->Prop)->Prop)(dA:DA):DE:=fun ρ P=>dA ρ fun xs=>o xs P
variable {r:List V->Hp->VK->Prop}{o:List D->(D->Prop)->Prop}{id T:String}
theorem J9g (hd:FH W r o):∀ σ H Q,dn W (dCB o dA) σ H Q->tCB r (dnA W dA) σ H Q:=by
 intro σ H Q hh
 refine hh.elim fun pn M b ρ P st h k=>?_
 refine ⟨pn,M,b,ρ,_,st,h,fun xs vs H1 hx rx k1 o1=>?_⟩
 exact hd M b H1 xs vs P Q (st.step k1 o1).toHs rx hx fun z w H' hz rz k2 o2=>k z w H' hz rz (k1.trans k2) o2
theorem J4n (hc:BG X (.builtin id) r)(hd:FH W r o)(hg:Gl X x)(hm:X.mg x=none)(hv:bootBuiltins x=some (.builtin id))(ha:PA X (e::es) (dnA W dA))(hn:x≠"__name__":=by decide) (hdb:(x==("__debug__" : Str))=false:=by decide)
 (he:starEach (e::es) X.env=(false,eval e X.env)::starEach es X.env:=by rfl) (hpl:(backTo pos (starEach es X.env)).any (·.1)=false:=by rfl):PE X (.Call (.Name x p) (e::es) [] pos) (dn W (dCB o dA)):=(CV hc hg hm hv ha hn hdb he hpl).mono (J9g hd)
theorem ZS (hc:BG X (.type T) r)(hd:FH W r o)(hg:Gl X x)(hm:X.mg x=none)(hv:bootBuiltins x=some (.type T))(ha:PA X (e::es) (dnA W dA))(hn:x≠"__name__":=by decide) (hdb:(x==("__debug__" : Str))=false:=by decide)
 (he:starEach (e::es) X.env=(false,eval e X.env)::starEach es X.env:=by rfl) (hpl:(backTo pos (starEach es X.env)).any (·.1)=false:=by rfl):PE X (.Call (.Name x p) (e::es) [] pos) (dn W (dCB o dA)):=(MW hc hg hm hv ha hn hdb he hpl).mono (J9g hd)
theorem rx1 {b:Option Addr}{H:Hp}{x:D}{vs:List V}(h:RepXs W M b H [x] vs):∃ v,vs=[v]/\RepX W M b H x v:=by
 obtain ⟨v,r,rfl,h1,h2⟩:=h
 cases (show _=_ from h2)
 exact ⟨v,rfl,h1⟩
theorem rx2 {b:Option Addr}{H:Hp}{x y:D}{vs:List V}(h:RepXs W M b H [x,y] vs):∃ v u,vs=[v,u]/\RepX W M b H x v/\RepX W M b H y u:=by
 obtain ⟨v,r,rfl,h1,h2⟩:=h
 obtain ⟨u,rfl,h3⟩:=rx1 h2
 exact ⟨v,u,rfl,h1,h3⟩
def CA:List D->Option (List Int)
 | []=>some []
 | .int i::r=>(CA r).map (i::·)
 | _=>none
theorem CA.eq:∀ {ds:List D} {ns:List Int},CA ds=some ns->ds=ns.map D.int
 | [],ns,h=>by cases h;rfl
 | d::r,ns,h=>by
   cases d<;>first|cases h|skip
   case int i =>
    simp only [CA,Option.map_eq_some_iff] at h
    obtain ⟨m,e,rfl⟩:=h
    rw [CA.eq e];rfl
theorem Reps.ints {H:Hp}:∀ {ns:List Int} {vs:List V},Reps K M H (ns.map D.int) vs->vs=ns.map V.int
 | [],_,h=>by cases (show _=_ from h);rfl
 | n::ns,_,h=>by
   obtain ⟨v,r,rfl,h1,h2⟩:=h
   cases (show _=_ from h1)
   rw [Reps.ints h2];rfl
def asL:D->Option (List D)
 | .lst xs=>some xs
 | .own xs=>some xs
 | _=>none
def asS:D->Option (List D)
 | .lst xs=>some xs
 | .own xs=>some xs
 | .tup xs=>some xs
 | _=>none
theorem asL.rep {b:Option Addr}{H:Hp}{x:D}{v:V}{xs:List D}(h:RepX W M b H x v)(e:asL x=some xs):∃ a vs,v=.ref a/\H a=some (.lst vs)/\Reps W.K M H xs vs:=by
 cases x<;>first|cases e|skip
 case lst=>obtain ⟨a,vs,rfl,hh,r⟩:=h;exact ⟨a,vs,rfl,hh.2,r⟩
 case own=>obtain ⟨a,vs,rfl,_,_,_,_,hh,r⟩:=h;exact ⟨a,vs,rfl,hh,r⟩
theorem asS.rep {b:Option Addr}{H:Hp}{x:D}{v:V}{xs:List D}(h:RepX W M b H x v)(e:asS x=some xs):∃ a vs,v=.ref a/\(SqL W.K H a vs\/SqT W.K H a vs)/\Reps W.K M H xs vs:=by
 cases x<;>first|cases e|skip
 case lst=>obtain ⟨a,vs,rfl,hh,r⟩:=h;exact ⟨a,vs,rfl,.inl (SqL.of hh.2),r⟩
 case own=>obtain ⟨a,vs,rfl,_,_,_,_,hh,r⟩:=h;exact ⟨a,vs,rfl,.inl (SqL.of hh),r⟩
 case tup=>obtain ⟨a,vs,rfl,hh,r⟩:=h;exact ⟨a,vs,rfl,.inr (hh.sq),r⟩
def Q7s:List D->(D->Prop)->Prop
 | [.lst xs],P=>P (.int xs.length)
 | [.own xs],P=>P (.int xs.length)
 | [.tup xs],P=>P (.int xs.length)
 | [.scr ns],P=>P (.int ns.length)
 | _,_=>False
theorem IA:FH W (fun xs H Q=>∃ p ys,xs=[.ref p]/\(SqL W.K H p ys\/SqT W.K H p ys)/\Q (.int ys.length) H) Q7s:=by
 intro M b H xs vs P Q hs rx ho k
 match xs,ho with
 | [.lst xs],ho =>
   obtain ⟨v,rfl,r⟩:=rx1 rx
   obtain ⟨a,us,rfl,hh,r'⟩:=r
   exact ⟨a,us,rfl,.inl (SqL.of hh.2),k _ _ H ho (by show _=_;rw [r'.length]) (Kp.refl _ _) hs.ok⟩
 | [.own xs],ho =>
   obtain ⟨v,rfl,r⟩:=rx1 rx
   obtain ⟨a,us,rfl,_,_,_,_,hh,r'⟩:=r
   exact ⟨a,us,rfl,.inl (SqL.of hh),k _ _ H ho (by show _=_;rw [r'.length]) (Kp.refl _ _) hs.ok⟩
 | [.tup xs],ho =>
   obtain ⟨v,rfl,r⟩:=rx1 rx
   obtain ⟨a,us,rfl,hh,r'⟩:=r
   exact ⟨a,us,rfl,.inr (hh.sq),k _ _ H ho (by show _=_;rw [r'.length]) (Kp.refl _ _) hs.ok⟩
 | [.scr ns],ho =>
   obtain ⟨v,rfl,r⟩:=rx1 rx
   obtain ⟨a,rfl,hh⟩:=r
   refine ⟨a,ns.map V.int,rfl,.inl (hh.imp (·.2) id),k _ _ H ho (by show _=_;rw [List.length_map]) (Kp.refl _ _) hs.ok⟩
def J2t:List D->(D->Prop)->Prop
 | [.lst xs],P=>P (.tup xs)
 | [.own xs],P=>P (.tup xs)
 | [.tup xs],P=>P (.tup xs)
 | _,_=>False
theorem BS:FH W (fun xs H Q=>∃ p ys,xs=[.ref p]/\((SqL W.K H p ys/\∀ l,H l=none->Q (.ref l) (upd H l (.tup ys)))\/(SqT W.K H p ys/\Q (.ref p) H))) J2t:=by
 intro M b H xs vs P Q hs rx ho k
 match xs,ho with
 | [.lst xs],ho =>
   obtain ⟨v,rfl,r⟩:=rx1 rx
   obtain ⟨a,us,rfl,hh,r'⟩:=r
   exact ⟨a,us,rfl,.inl ⟨SqL.of hh.2,fun l hl=>k _ _ _ ho (FP hs r' hl) (Kp.upd hl) (hs.okU hl)⟩⟩
 | [.own xs],ho =>
   obtain ⟨v,rfl,r⟩:=rx1 rx
   obtain ⟨a,us,rfl,_,_,_,_,hh,r'⟩:=r
   exact ⟨a,us,rfl,.inl ⟨SqL.of hh,fun l hl=>k _ _ _ ho (FP hs r' hl) (Kp.upd hl) (hs.okU hl)⟩⟩
 | [.tup xs],ho =>
   obtain ⟨v,rfl,r⟩:=rx1 rx
   obtain ⟨a,us,rfl,hh,r'⟩:=r
   exact ⟨a,us,rfl,.inr ⟨hh.sq,k _ _ H ho ⟨a,us,rfl,hh,r'⟩ (Kp.refl _ _) hs.ok⟩⟩
def Q5s:List D->(D->Prop)->Prop
 | [.lst xs],P=>P (.lst xs)
 | [.own xs],P=>P (.lst xs)
 | [.tup xs],P=>P (.lst xs)
 | _,_=>False
theorem J8x:FH W (fun xs H Q=>∃ p ys,xs=[.ref p]/\(SqL W.K H p ys\/SqT W.K H p ys)/\∀ l,H l=none->Q (.ref l) (upd H l (.lst ys))) Q5s:=by
 intro M b H xs vs P Q hs rx ho k
 match xs,ho with
 | [.lst xs],ho =>
   obtain ⟨v,rfl,r⟩:=rx1 rx
   obtain ⟨a,us,rfl,hh,r'⟩:=r
   exact ⟨a,us,rfl,.inl (SqL.of hh.2),fun l hl=>k _ _ _ ho (BN hs r' hl) (Kp.upd hl) (hs.okU hl)⟩
 | [.own xs],ho =>
   obtain ⟨v,rfl,r⟩:=rx1 rx
   obtain ⟨a,us,rfl,_,_,_,_,hh,r'⟩:=r
   exact ⟨a,us,rfl,.inl (SqL.of hh),fun l hl=>k _ _ _ ho (BN hs r' hl) (Kp.upd hl) (hs.okU hl)⟩
 | [.tup xs],ho =>
   obtain ⟨v,rfl,r⟩:=rx1 rx
   obtain ⟨a,us,rfl,hh,r'⟩:=r
   exact ⟨a,us,rfl,.inr (hh.sq),fun l hl=>k _ _ _ ho (BN hs r' hl) (Kp.upd hl) (hs.okU hl)⟩
def o2I (g:Int->Int->Int):List D->(D->Prop)->Prop
 | [.int i,.int j],P=>P (.int (g i j))
 | _,_=>False
theorem J9w {g:Int->Int->Int}:FH W (fun xs H Q=>∃ i j,xs=[.int i,.int j]/\Q (.int (g i j)) H) (o2I g):=by
 intro M b H xs vs P Q hs rx ho k
 match xs,ho with
 | [.int i,.int j],ho =>
   obtain ⟨v,u,rfl,r,r'⟩:=rx2 rx
   cases (show _=_ from r)
   cases (show _=_ from r')
   exact ⟨i,j,rfl,k _ _ H ho (show _=_ from rfl) (Kp.refl _ _) hs.ok⟩
def Q5q:List D->(D->Prop)->Prop
 | [x],P=>(asL x).elim False fun xs=>(CA xs).elim False fun ns=>P (.int ns.sum)
 | _,_=>False
theorem Q4d:FH W (fun xs H Q=>∃ (p:Addr) (ns:List Int),xs=[.ref p]/\SqL W.K H p (ns.map V.int)/\Q (.int ns.sum) H) Q5q:=by
 intro M b H xs vs P Q hs rx ho k
 match xs,ho with
 | [x],ho =>
   obtain ⟨v,rfl,r⟩:=rx1 rx
   simp only [Q5q] at ho
   cases ex:asL x with
   | none=>rw [ex] at ho;exact ho.elim
   | some xs =>
     rw [ex] at ho
     simp only [Option.elim] at ho
     cases en:CA xs with
     | none=>rw [en] at ho;exact ho.elim
     | some ns =>
       rw [en] at ho
       cases CA.eq en
       obtain ⟨a,us,rfl,hh,r'⟩:=asL.rep r ex
       cases r'.ints
       exact ⟨a,ns,rfl,SqL.of hh,k _ _ H ho (show _=_ from rfl) (Kp.refl _ _) hs.ok⟩
theorem HG (K:Fg)(h:X.K=K):BG X (.builtin "isinstance") (fun xs H Q=>∃ y c t b,xs=[y,.ty c]/\(TyOf K H y t\/∃ a vs,y=.ref a/\KTp K a vs/\t=.type "tuple")/\PySem.W.kitOne K t (.type c)=some b/\Q (.bl b) H):=by
 subst h
 intro pins s σ H xs us Q I rs q
 obtain ⟨y,c,t,b,rfl,ty,e,q⟩:=q
 rcases ty with ty|⟨a,vs,rfl,⟨o,its,n,hk,hc,hs,hz,r⟩,rfl⟩
 · exact UF pins s σ H _ us Q I rs ⟨y,c,t,b,rfl,ty,e,q⟩
 · obtain ⟨u1,u2,rfl,r1,r2⟩:=WA rs
   cases (show u2=Value.type c from r2)
   cases (show u1=Value.ref a from r1)
   refine PySem.W.kia_one PySem.W.kitx_tuple I.kIn ⟨o,I.kIn a o hk,hc⟩ e (fun z=>nomatch z) fun tk=>?_
   exact ⟨.bl b,H,I.tok _,rfl,q⟩
def UL:D->Option String
 | .non=>some "NoneType"
 | .bl _=>some "bool"
 | .int _=>some "int"
 | .str _=>some "str"
 | .lst _=>some "list"
 | .own _=>some "list"
 | .tup _=>some "tuple"
 | .frg _ (.lst _)=>some "list"
 | _=>none
def Q8b (K:Fg)(t c:String)(b:Bool):Prop:=PySem.W.kitOne K (.type t) (.type c)=some b
def Q5t (K:Fg):List D->(D->Prop)->Prop
 | [x,.ty c],P=>match UL x with|some t=>∃ b,Q8b K t c b/\P (.bl b)|none=>False
 | _,_=>False
theorem NT:FH W (fun xs H Q=>∃ y c t b,xs=[y,.ty c]/\(TyOf W.K H y t\/∃ a vs,y=.ref a/\KTp W.K a vs/\t=.type "tuple")/\PySem.W.kitOne W.K t (.type c)=some b/\Q (.bl b) H) (Q5t W.K):=by
 intro M b H xs vs P Q hs rx ho k
 match xs,ho with
 | [x,.ty c],ho =>
   obtain ⟨v,u,rfl,r,r'⟩:=rx2 rx
   cases (show _=_ from r')
   simp only [Q5t] at ho
   split at ho
   case h_2=>exact ho.elim
   case h_1 t et =>
    obtain ⟨q,hq,hp⟩:=ho
    refine ⟨v,c,.type t,q,rfl,?_,hq,k _ _ H hp (show _=_ from rfl) (Kp.refl _ _) hs.ok⟩
    cases x<;>first|cases et|skip
    case non=>cases (show _=_ from r);exact .inl (.non)
    case bl=>cases (show _=_ from r);exact .inl (.bl _)
    case int=>cases (show _=_ from r);exact .inl (.int _)
    case str=>cases (show _=_ from r);exact .inl (.str _)
    case lst=>obtain ⟨a,us,rfl,hh,r'⟩:=r;exact .inl (.lst hh.2)
    case own=>obtain ⟨a,us,rfl,_,_,_,_,hh,r'⟩:=r;exact .inl (.lst hh)
    case frg f d =>
     cases d<;>first|cases et|skip
     case lst=>obtain ⟨a,us,rfl,hh,r'⟩:=r.2.2;exact .inl (.lst hh.2)
    case tup =>
     obtain ⟨a,us,rfl,hh,r'⟩:=r
     exact hh.elim (fun z=>.inl (.tup z.2)) fun z=>.inr ⟨a,us,rfl,z,rfl⟩
end
theorem Reps.plain {H:Hp}:∀ {ds:List D} {vs:List V},Reps K M H ds vs->ds.all plain=true
 | [],_,_=>rfl
 | d::ds,_,h=>by
   obtain ⟨v,r,rfl,h1,h2⟩:=h
   rw [List.all_cons,Reps.plain h2,Bool.and_true]
   cases d<;>first|rfl|exact h1.elim
theorem Reps.xs {W:Wd} {H:Hp}:∀ {ds:List D} {vs:List V},Reps W.K M H ds vs->RepXs W M b H ds vs
 | [],_,h=>h
 | d::ds,_,h=>by
   obtain ⟨v,r,rfl,h1,h2⟩:=h
   exact ⟨v,r,rfl,h1.x,Reps.xs h2⟩
def LP (W:Wd)(J:It)(need:List (D×V))(items:List D):Prop:=∀ M b H,Hs W M b H->(∀ q∈need,RepX W M b H q.1 q.2) ->
 (∀ (i:Nat) d,items[i]?=some d->J.go i H/\∀ x H3,J.yld i H x H3->Same H H3/\RepX W M b H3 d x)/\∀ i,items.length<=i->J.stop i H
def dnI (W:Wd)(fz:Bool)(di:DA):TI:=fun σ H R=>∃ pn M b ρ P,Sta W pn M b H σ ρ/\di ρ P/\∀ items J need H',P items->items.all plain=true->LP W J need items->(∀ q∈need,RepX W M b H' q.1 q.2/\(fz=true->plain q.1=true))->Kp b H H'->okB W.B b H'->R J H'
theorem dnI.elim {W:Wd}{fz:Bool}{d:DA}{σ:St}{H:Hp}{R:It->Hp->Prop}{Z:Prop}(h:dnI W fz d σ H R)(f:∀ pn M b ρ P,Sta W pn M b H σ ρ->d ρ P->(∀ items J need H',P items->items.all plain=true->LP W J need items->(∀ q∈need,RepX W M b H' q.1 q.2/\(fz=true->plain q.1=true))->Kp b H H'->okB W.B b H'->R J H')->Z):Z:=by
 obtain ⟨pn,M,b,ρ,P,st,h,k⟩:=h
 exact f pn M b ρ P st h k
section
variable {X:Cx}{W:Wd}{tg l e a b:Expr}{pos p:Pos}{d dl:DE}{dA:DA}{fz:Bool}
theorem PI.mono {t t':TI}(h:PI X tg l t)(m:∀ σ H R,t' σ H R->t σ H R):PI X tg l t':=fun pins s σ H R I q=>h pins s σ H R I (m σ H R q)
theorem Q1i {tl:TE}(K:Fg)(h:X.K=K)(hl:PE X l tl):PI X tg l (fun σ H R=>tl σ H fun x H1=>(∃ a,x=.ref a/\(∃ xs,SqL K H1 a xs)/\R (Itl K a) H1)\/(∃ a,x=.ref a/\(∃ xs,SqT K H1 a xs)/\R (Itt K a) H1)):=by
 subst h
 intro pins s σ H R I h
 refine thn (hl pins s σ H _ I h) fun v s1 ⟨x,H1,I1,r1,q1⟩=>?_
 rcases q1 with ⟨a,e,⟨xs,hq⟩,q⟩|⟨a,e,⟨xs,hq⟩,q⟩
 · subst e
   cases r1
   obtain ⟨its,rv,p,hz⟩:=I1.list hq
   refine wpAny_pyIter_list p.isList ?_
   refine ⟨s1.heap.objs.size,[s1.heap.objs.size],_,_,H1,rfl,I1.kept (t':=s1.toks) fun b o e=>Heap.get?_push_of_some _ e,YD a _,⟨_,Heap.get?_push_size _ rfl,rfl,rfl⟩,fun b hb=>?_,q⟩
   have e:b=s1.heap.objs.size:=by simpa using hb
   subst e
   exact I1.fpOk (Nat.le_refl _) (I1.hok.fresh (Nat.le_refl _))
 · subst e
   cases r1
   obtain ⟨its,rv,p,hz⟩:=I1.tuple hq
   refine wpAny_pyIter_tuple (show s1.heap.IsTuple a its.toArray from p) ?_
   refine ⟨s1.heap.objs.size,[s1.heap.objs.size],_,_,H1,rfl,I1.kept (t':=s1.toks) fun b o e=>Heap.get?_push_of_some _ e,UM a _,⟨_,Heap.get?_push_size _ rfl,rfl,rfl⟩,fun b hb=>?_,q⟩
   have e:b=s1.heap.objs.size:=by simpa using hb
   subst e
   exact I1.fpOk (Nat.le_refl _) (I1.hok.fresh (Nat.le_refl _))
def Q2m (fz:Bool)(dl:DE):DA:=fun ρ P=>dl ρ fun x=>match x with
 | .lst xs=>P xs
 | .tup xs=>P xs
 | .own xs=>fz=false/\P xs
 | _=>False
theorem J3w {x:D}{xs:List D}{a:Addr}(hx:asL x=some xs):LP W (Itl W.K a) [(x,.ref a)] xs:=by
 intro M b H hs hn
 obtain ⟨a',vs,e,hh,r⟩:=asL.rep (hn _ (List.mem_singleton.mpr rfl)) hx
 cases e
 refine ⟨fun i d e=>?_,fun i hi=>⟨vs,SqL.of hh,by rw [r.length];exact hi⟩⟩
 obtain ⟨v,e1,r1⟩:=r.get e
 refine ⟨⟨vs,v,SqL.of hh,e1⟩,fun y H3 ⟨eH,hy⟩=>?_⟩
 subst eH
 have:=hy vs (SqL.of hh)
 rw [e1] at this;cases this
 exact ⟨Same.refl _,r1.x⟩
theorem Q2l {xs:List D}{a:Addr}:LP W (Itt W.K a) [(.tup xs,.ref a)] xs:=by
 intro M b H hs hn
 obtain ⟨a',vs,e,hh,r⟩:=hn _ (List.mem_singleton.mpr rfl)
 cases e
 refine ⟨fun i d e=>?_,fun i hi=>⟨vs,hh.sq,by rw [r.length];exact hi⟩⟩
 obtain ⟨v,e1,r1⟩:=r.get e
 refine ⟨⟨vs,v,hh.sq,e1⟩,fun y H3 ⟨eH,hy⟩=>?_⟩
 subst eH
 have:=hy vs (hh.sq)
 rw [e1] at this;cases this
 exact ⟨Same.refl _,r1.x⟩
theorem J2x {b:Option Addr}{H:Hp}{x:D}{v:V}(r:RepX W M b H x v)(h:fz=true->plain x=true):∀ q∈[(x,v)],RepX W M b H q.1 q.2/\(fz=true->plain q.1=true):=fun q hq=>by
 have e:=List.mem_singleton.mp hq
 subst e
 exact ⟨r,h⟩
theorem Q3b (hK:X.K=W.K)(hl:PE X l (dn W dl)):PI X tg l (dnI W fz (Q2m fz dl)):=(Q1i W.K hK hl).mono fun σ H R hh=>hh.elim fun pn M b ρ P st h k=>by
 refine ⟨pn,M,b,ρ,_,st,h,fun x v H1 hx rx k1 o1=>?_⟩
 cases x<;>first|exact hx.elim|skip
 case lst xs =>
  obtain ⟨a,vs,rfl,hh,r⟩:=(show RepX W M b H1 (.lst xs) v from rx)
  exact .inl ⟨a,rfl,⟨vs,SqL.of hh.2⟩,k xs _ _ H1 hx r.plain (J3w (x:=.lst xs) rfl) (J2x rx fun _=>rfl) k1 o1⟩
 case tup xs =>
  obtain ⟨a,vs,rfl,hh,r⟩:=(show RepX W M b H1 (.tup xs) v from rx)
  exact .inr ⟨a,rfl,⟨vs,hh.sq⟩,k xs _ _ H1 hx r.plain Q2l (J2x rx fun _=>rfl) k1 o1⟩
 case own xs =>
  obtain ⟨a,vs,rfl,m1,m2,m3,m4,hh,r⟩:=(show RepX W M b H1 (.own xs) v from rx)
  exact .inl ⟨a,rfl,⟨vs,SqL.of hh⟩,k xs _ _ H1 hx.2 r.plain (J3w (x:=.own xs) rfl) (J2x rx fun z=>by rw [hx.1] at z;cases z) k1 o1⟩
def BX (lo:Int)(n:Nat):List D:=(List.range n).map fun (i:Nat)=>.int (lo+i)
theorem OS (lo:Int)(n:Nat):(BX lo n).all plain=true:=by
 simp [BX,plain]
theorem J3v {lo:Int}{n:Nat}:LP W (Itr lo n) [] (BX lo n):=by
 intro M b H hs _
 refine ⟨fun i d e=>?_,fun i hi=>by show n<=i;simpa [BX] using hi⟩
 have hi:i<n:=by
  have:=(List.getElem?_eq_some_iff.mp e).1
  simpa [BX] using this
 refine ⟨hi,fun x H3 ⟨eH,ex⟩=>?_⟩
 subst eH ex
 refine ⟨Same.refl _,?_⟩
 simp [BX,hi] at e
 subst e
 exact (show _=_ from rfl)
def XA (dA:DA):DA:=fun ρ P=>dA ρ fun xs=>match xs with
 | [.int j]=>(-(2 ^ 62)<=j/\j<2 ^ 62)/\P (BX 0 j.toNat)
 | _=>False
theorem ZR (hg:Gl X "range") (hm:X.mg "range" = none) (ha:PA X [a] (dnA W dA)) (hs:starEach [a] X.env=[(false,eval a X.env)]:=by rfl):PI X tg (.Call (.Name "range" p) [a] [] pos) (dnI W fz (XA dA)):=(MV hg hm ha hs).mono fun σ H R hh=>hh.elim fun pn M b ρ P st h k=>by
 refine ⟨pn,M,b,ρ,_,st,h,fun xs vs H1 hx rx k1 o1=>?_⟩
 match xs,hx with
 | [.int j],hx =>
   obtain ⟨v,rfl,r⟩:=rx1 rx
   cases (show _=_ from r)
   exact ⟨j,rfl,hx.1.1,hx.1.2,k _ _ _ H1 hx.2 (OS _ _) J3v (fun q hq=>by cases hq) k1 o1⟩
def asK (fz t:Bool):D->Option (List D)
 | .tup xs=>if t then some xs else none
 | .lst xs=>if t then none else some xs
 | .own xs=>if t||fz then none else some xs
 | _=>none
theorem asK.rep {b:Option Addr}{H:Hp}{t:Bool}{x:D}{v:V}{xs:List D}(h:RepX W M b H x v)(e:asK fz t x=some xs):(∃ a vs,v=.ref a/\SqX W.K t H a vs/\Reps W.K M H xs vs)/\(fz=true->plain x=true):=by
 cases x<;>first|cases e|skip
 case lst =>
  obtain ⟨a,vs,rfl,hh,r⟩:=h
  cases t<;>cases e
  exact ⟨⟨a,vs,rfl,SqL.of hh.2,r⟩,fun _=>rfl⟩
 case own =>
  obtain ⟨a,vs,rfl,_,_,_,_,hh,r⟩:=h
  cases t<;>cases fz<;>cases e
  exact ⟨⟨a,vs,rfl,SqL.of hh,r⟩,fun z=>by cases z⟩
 case tup =>
  obtain ⟨a,vs,rfl,hh,r⟩:=h
  cases t<;>cases e
  exact ⟨⟨a,vs,rfl,hh.sq,r⟩,fun _=>rfl⟩
def QO (xs ys:List D):List D:=List.zipWith (fun x y=>.tup [x,y]) xs ys
def J9n (fz t1 t2:Bool)(dA:DA):DA:=fun ρ P=>dA ρ fun zs=>match zs with
 | [x,y]=>(match asK fz t1 x,asK fz t2 y with|some xs,some ys=>xs.length<=ys.length/\P (QO xs ys)|_,_=>False)
 | _=>False
theorem JK:∀ (xs ys:List D),(QO xs ys).all plain=true
 | [],_=>rfl
 | _::_,[]=>rfl
 | x::xs,y::ys=>by
   show (plain (.tup [x,y])&&(QO xs ys).all plain)=true
   rw [JK xs ys];rfl
theorem Q2k {t1 t2:Bool}{x y:D}{xs ys:List D}{l1 l2:Addr}(h1:asK fz t1 x=some xs)(h2:asK fz t2 y=some ys)(hl:xs.length<=ys.length):LP W (Q4r W.K t1 t2 l1 l2) [(x,.ref l1),(y,.ref l2)] (QO xs ys):=by
 intro M b H hs hn
 obtain ⟨⟨a1,us,e1,q1,r1⟩,_⟩:=asK.rep (hn _ (.head _)) h1
 obtain ⟨⟨a2,ws,e2,q2,r2⟩,_⟩:=asK.rep (hn _ (.tail _ (.head _))) h2
 cases e1
 cases e2
 have hlen:(QO xs ys).length=xs.length:=by simp [QO];omega
 refine ⟨fun i d e=>?_,fun i hi=>⟨⟨us,q1,by rw [r1.length,<- hlen];exact hi⟩,⟨ws,q2⟩⟩⟩
 have hi:i<xs.length:=by rw [<- hlen];exact (List.getElem?_eq_some_iff.mp e).1
 obtain ⟨u,eu,ru⟩:=r1.get (List.getElem?_eq_getElem hi)
 obtain ⟨w,ew,rw'⟩:=r2.get (List.getElem?_eq_getElem (Nat.lt_of_lt_of_le hi hl))
 refine ⟨⟨us,ws,u,w,q1,eu,q2,ew⟩,fun v H3 ⟨t,y1,y2,ev,ht,eH,k1,k2⟩=>?_⟩
 subst ev eH
 have z1:=k1 us q1
 have z2:=k2 ws q2
 rw [eu] at z1;cases z1
 rw [ew] at z2;cases z2
 refine ⟨Same.upd ht,?_⟩
 have ed:d=.tup [xs[i],ys[i]'(Nat.lt_of_lt_of_le hi hl)]:=by
  have:(QO xs ys)[i]?=some (.tup [xs[i],ys[i]'(Nat.lt_of_lt_of_le hi hl)]):=by
   simp [QO,List.getElem?_zipWith,hi,Nat.lt_of_lt_of_le hi hl]
  rw [this] at e;exact (Option.some.inj e).symm
 subst ed
 exact FP hs ⟨u,[w],rfl,ru,w,[],rfl,rw',rfl⟩ ht
theorem Q3a {elts:List Expr}{c1}{tpos:Pos}(hK:X.K=W.K)(t1 t2:Bool)(hg:Gl X "zip") (hm:X.mg "zip" = none) (ha:PA X [a,b] (dnA W dA))
 (h:PI X (.Tuple elts c1 tpos) (.Call (.Name "zip" p) [a,b] [] pos) (J3z W.K t1 t2 (dnA W dA))):PI X (.Tuple elts c1 tpos) (.Call (.Name "zip" p) [a,b] [] pos) (dnI W fz (J9n fz t1 t2 dA)):=h.mono fun σ H R hh=>hh.elim fun pn M b ρ P st h k=>by
 refine ⟨pn,M,b,ρ,_,st,h,fun zs vs H1 hx rx k1 o1=>?_⟩
 match zs,hx with
 | [x,y],hx =>
   obtain ⟨v,u,rfl,r,r'⟩:=rx2 rx
   dsimp only at hx
   split at hx
   case h_2=>exact hx.elim
   case h_1 xs ys e1 e2 =>
    obtain ⟨⟨a1,us,z1,q1,r1⟩,f1⟩:=asK.rep r e1
    obtain ⟨⟨a2,ws,z2,q2,r2⟩,f2⟩:=asK.rep r' e2
    subst z1 z2
    refine ⟨a1,a2,rfl,⟨us,q1⟩,⟨ws,q2⟩,k _ _ _ H1 hx.2 (JK _ _) (Q2k e1 e2 hx.1) (fun q hq=>?_) k1 o1⟩
    rcases List.mem_cons.mp hq with z|z
    · subst z;exact ⟨r,f1⟩
    · have z:=List.mem_singleton.mp z
      subst z;exact ⟨r',f2⟩
end
def GD (W:Wd)(g:TG)(gd:D->Ev->(Ev->Prop)->Prop):Prop:=∀ pn M b H σ ρ x v Q P,Sta W pn M b H σ ρ->RepX W M b H x v->plain x=true->gd x ρ P->(∀ ρ' σ',P ρ'->Sta W pn M b H σ' ρ'->(∀ (i:Nat) d,mine d=true->ρ'[i]?=some (some d)->ρ[i]?=some (some d)/\σ'[i]?=σ[i]?)->Q σ' H)->g v σ H Q
theorem Sta.set {W:Wd}{pn:List (D×V)} {H:Hp}{σ:St}{ρ:Ev}{x:D}{v:V}(s:Sta W pn M b H σ ρ)(j:Nat)(r:RepX W M b H x v):Sta W pn M b H (σ.set j (some v)) (ρ.set j (some x)) where
 toHs:=s.toHs
 kp:=s.kp
 new:=s.new
 len:=by simp [s.len]
 pin:=s.pin
 env:=fun i d e=>by
  by_cases z:j=i
  · subst z
    rw [List.getElem?_set] at e
    simp at e
    obtain ⟨hl,rfl⟩:=e
    exact ⟨v,by rw [List.getElem?_set];simp [<- s.len,hl],r⟩
  · rw [List.getElem?_set_ne z] at e
    obtain ⟨w,e1,r1⟩:=s.env i d e
    exact ⟨w,by rw [List.getElem?_set_ne z];exact e1,r1⟩
theorem OY {ρ:Ev}{σ:St}{j:Nat}{x:D}{v:V}(p:plain x=true):∀ (i:Nat) d,mine d=true->(ρ.set j (some x))[i]?=some (some d)->ρ[i]?=some (some d)/\(σ.set j (some v))[i]?=σ[i]?:=fun i d hm e=>by
 by_cases z:j=i
 · subst z
   rw [List.getElem?_set] at e
   simp at e
   obtain ⟨hl,rfl⟩:=e
   cases x<;>first|(cases hm;done)|(cases p;done)
 · rw [List.getElem?_set_ne z] at e
   exact ⟨e,by rw [List.getElem?_set_ne z]⟩
def gdN (j:Nat):D->Ev->(Ev->Prop)->Prop:=fun x ρ P=>P (ρ.set j (some x))
theorem V3 {W:Wd}(j:Nat):GD W (TK j) (gdN j):=fun pn M b H σ ρ x v Q P st r p h k=>k _ _ h (st.set j r) (OY p)
def JU:List Nat->List D->Ev->Ev
 | j::js,x::xs,ρ=>JU js xs (ρ.set j (some x))
 | _,_,ρ=>ρ
def FC:List Nat->TGs
 | []=>Q6c
 | j::js=>J9p (TK j) (FC js)
def Q6b (K:Fg)(n:Nat)(t:TGs):TG:=fun v σ H Q=>Q2q K n t v σ H Q\/Q6d K n t v σ H Q
def gdU (js:List Nat):D->Ev->(Ev->Prop)->Prop:=fun x ρ P=>match x with
 | .tup xs=>xs.length=js.length/\P (JU js xs ρ)
 | .lst xs=>xs.length=js.length/\P (JU js xs ρ)
 | _=>False
theorem LC {W:Wd}{pn:List (D×V)} {H:Hp}{Q:St->Hp->Prop}{P:Ev->Prop}:∀ (js:List Nat) (xs:List D) (vs:List V) (σ:St) (ρ:Ev),Sta W pn M b H σ ρ->Reps W.K M H xs vs->xs.length=js.length->P (JU js xs ρ)->(∀ ρ' σ',P ρ'->Sta W pn M b H σ' ρ'->(∀ (i:Nat) d,mine d=true->ρ'[i]?=some (some d)->ρ[i]?=some (some d)/\σ'[i]?=σ[i]?)->Q σ' H)->FC js vs σ H Q
 | [],[],vs,σ,ρ,st,r,hl,h,k=>⟨r,k _ _ h st fun _ _ _ e=>⟨e,rfl⟩⟩
 | j::js,x::xs,vs,σ,ρ,st,r,hl,h,k=>by
   obtain ⟨v,us,rfl,r1,r2⟩:=r
   refine ⟨v,us,rfl,?_⟩
   have p:plain x=true:=by cases x<;>first|rfl|exact r1.elim
   refine LC js xs us _ (ρ.set j (some x)) (st.set j r1.x) r2 (by simpa using hl) h fun ρ' σ' hp st' ho=>k ρ' σ' hp st' fun i xs hm e=>?_
   obtain ⟨z1,z2⟩:=ho i xs hm e
   obtain ⟨z3,z4⟩:=OY (v:=v) (σ:=σ) p i xs hm z1
   exact ⟨z3,z2.trans z4⟩
theorem CC {W:Wd}(js:List Nat):GD W (Q6b W.K js.length (FC js)) (gdU js):=fun pn M b H σ ρ x v Q P st r p h k=>by
 cases x<;>first|exact h.elim|skip
 case tup xs =>
  obtain ⟨a,vs,rfl,hh,r⟩:=r
  exact .inl ⟨a,vs,rfl,hh.sq,by rw [r.length];exact h.1,LC js xs vs σ ρ st r h.1 h.2 k⟩
 case lst xs =>
  obtain ⟨a,vs,rfl,hh,r⟩:=r
  exact .inr ⟨a,vs,rfl,SqL.of hh.2,by rw [r.length];exact h.1,LC js xs vs σ ρ st r h.1 h.2 k⟩
theorem PG.or {X:Cx}{tg:Expr}{t u:TG}(h:PG X tg t)(h':PG X tg u):PG X tg (fun v σ H Q=>t v σ H Q\/u v σ H Q):=by
 intro pins s σ H v u' Q I r q
 rcases q with q|q
 · exact h pins s σ H v u' Q I r q
 · exact h' pins s σ H v u' Q I r q
theorem gkeep_seq {js:List Nat}{n:Nat}{map:List (Option Nat)}(hj:∀ j∈js,map[j]?=some none):FG (Q6b K n (FC js)) map:=by
 have key:∀ (js:List Nat),(∀ j∈js,map[j]?=some none)->∀ vs σ H Q,FC js vs σ H Q->FC js vs σ H fun σ' H'=>(σ'.length=σ.length/\∀ j i:Nat,map[j]?=some (some i)->σ'[j]?=σ[j]?)/\Q σ' H':=by
  intro js
  induction js with
  | nil=>intro _ vs σ H Q h;exact ⟨h.1,⟨rfl,fun _ _ _=>rfl⟩,h.2⟩
  | cons j js ih =>
    intro hj vs σ H Q h
    obtain ⟨v,r,e,h⟩:=h
    refine ⟨v,r,e,?_⟩
    have q:=ih (fun j' m=>hj j' (.tail _ m)) r _ H _ h
    have mono:∀ (js:List Nat) vs σ H (Q Q':St->Hp->Prop),(∀ s h,Q s h->Q' s h)->FC js vs σ H Q->FC js vs σ H Q':=by
     intro js
     induction js with
     | nil=>intro vs σ H Q Q' m h;exact ⟨h.1,m _ _ h.2⟩
     | cons j js ih=>intro vs σ H Q Q' m ⟨v,r,e,h⟩;exact ⟨v,r,e,ih _ _ _ _ _ m h⟩
    refine mono js r _ H _ _ (fun s h ⟨⟨l,z⟩,w⟩=>⟨⟨by rw [l];simp,fun j' i hm=>?_⟩,w⟩) q
    rw [z j' i hm]
    have n1:j≠j':=fun z=>by
     have:=hj j (.head _)
     rw [z,hm] at this;cases this
    rw [List.getElem?_set_ne n1]
 intro v σ H Q h
 rcases h with ⟨a,xs,e,s,l,h⟩|⟨a,xs,e,s,l,h⟩
 · exact .inl ⟨a,xs,e,s,l,key js hj _ _ _ _ h⟩
 · exact .inr ⟨a,xs,e,s,l,key js hj _ _ _ _ h⟩
def ES (ρ:Ev)(map:List (Option Nat)):Ev:=map.map fun o=>o.bind fun i=>(ρ[i]?).join
def PR (gd:D->Ev->(Ev->Prop)->Prop)(dt:DT)(de:DE)(ρc:Ev):List D->List D->(List D->Prop)->Prop
 | [],acc,P=>P acc
 | x::xs,acc,P=>gd x ρc fun ρ1=>dt ρ1 fun c=>IfP c (de ρ1 fun y=>plain y=true/\PR gd dt de ρc xs (acc++[y]) P) (PR gd dt de ρc xs acc P)
inductive compI (gd:D->Ev->(Ev->Prop)->Prop)(dt:DT)(de:DE)(ρc:Ev)(items:List D)(P:List D->Prop):Prop
 | mk (I:Nat->List D->Prop) (h0:I 0 []) (hs:∀ (i:Nat) x acc,items[i]?=some x->I i acc->gd x ρc fun ρ1=>dt ρ1 fun c=>IfP c (de ρ1 fun y=>plain y=true/\I (i+1) (acc++[y])) (I (i+1) acc)) (hd:∀ acc,I items.length acc->P acc):compI gd dt de ρc items P
theorem J4y {gd:D->Ev->(Ev->Prop)->Prop}{dt:DT}{de:DE}{ρc:Ev}{items:List D}{P:List D->Prop}(h:PR gd dt de ρc items [] P):compI gd dt de ρc items P:=by
 refine ⟨fun i acc=>PR gd dt de ρc (items.drop i) acc P,h,fun i x acc e q=>?_,fun acc q=>?_⟩
 · obtain ⟨hlt,rfl⟩:=List.getElem?_eq_some_iff.mp e
   try dsimp only at q
   rw [List.drop_eq_getElem_cons hlt] at q
   exact q
 · (try dsimp only at q);rw [List.drop_length] at q;exact q
def J4v (map:List (Option Nat))(gd:D->Ev->(Ev->Prop)->Prop)(di:DA)(dt:DT)(de:DE):DE:=fun ρ P=>di ρ fun items=>items.length<=1000/\compI gd dt de (ES ρ map) items fun acc=>P (.lst acc)
theorem Sta.capt {W:Wd}{pn:List (D×V)} {H:Hp}{σ:St}{ρ:Ev}(s:Sta W pn M b H σ ρ)(map:List (Option Nat)):Sta W pn M b H (capt σ map) (ES ρ map) where
 toHs:=s.toHs
 kp:=s.kp
 new:=s.new
 len:=by simp [L2.capt,ES]
 pin:=s.pin
 env:=fun j d e=>by
  unfold ES at e
  rw [List.getElem?_map] at e
  simp only [Option.map_eq_some_iff] at e
  obtain ⟨o,e1,e2⟩:=e
  simp only [Option.bind_eq_some_iff] at e2
  obtain ⟨i,rfl,e3⟩:=e2
  have e4:ρ[i]?=some (some d):=by
   cases q:ρ[i]? with
   | none=>rw [q] at e3;cases e3
   | some z=>rw [q] at e3;exact congrArg some e3
  obtain ⟨v,e5,r⟩:=s.env i d e4
  exact ⟨v,by unfold L2.capt;rw [List.getElem?_map,e1];simp [e5],r⟩
theorem EM {W:Wd}{pn:List (D×V)}{M:Addr->Prop}{b:Option Addr}{H:Hp}{σ:St}{ρ:Ev}{J:It}{need:List (D×V)}{items:List D}{g:TG}{gd:D->Ev->(Ev->Prop)->Prop}{dt:DT}{de:DE}{P:List D->Prop}{Fin:List V->Hp->Prop}
 (hG:GD W g gd) (st:Sta W pn M b H σ ρ) (hp:items.all plain=true) (hI:LP W J need items) (hn:∀ q∈need,RepX W M b H q.1 q.2) (hl:items.length<=1000) (h:compI gd dt de ρ items P)
 (fin:∀ ds acc H',P ds->Reps W.K M H' ds acc->acc.length<=sizeLine->Kp b H H'->okB W.B b H'->Fin acc H'):∃ Wf:Nat->Nat->List V->Hp->Prop,(∃ m,Wf 0 m [] H)/\LN J g (dnT W dt) (dn W de) σ Fin Wf:=by
 obtain ⟨I,i0,istep,idone⟩:=h
 refine ⟨fun i m acc H2=>m=items.length - i/\i<=items.length/\acc.length<=i/\Kp b H H2/\okB W.B b H2/\∃ ds,Reps W.K M H2 ds acc/\I i ds,⟨items.length,by simp,Nat.zero_le _,Nat.le_refl _,Kp.refl _ _,st.ok,[],rfl,i0⟩,?_⟩
 rintro i m acc H2 ⟨rfl,hi,ha,k2,o2,ds,r,q⟩
 have st2:=st.step k2 o2
 obtain ⟨hgo,hstop⟩:=hI M b H2 st2.toHs fun q hq=>(hn q hq).step st.bagM k2
 by_cases hlt:i<items.length
 · have ei:items[i]?=some items[i]:=List.getElem?_eq_getElem hlt
   replace q:=istep i _ ds ei q
   refine .inr ⟨(hgo i _ ei).1,by have:=Y1;omega,fun acc' H'=>acc'.length<=i+1/\Kp b H H'/\okB W.B b H'/\∃ ds,Reps W.K M H' ds acc'/\I (i+1) ds,fun acc' H' n=>⟨items.length - (i+1),by omega,rfl,hlt,n⟩,fun x H3 y=>?_⟩
   obtain ⟨S3,rx⟩:=(hgo i _ ei).2 x H3 y
   have o3:okB W.B b H3:=fun p e=>W.B.st p H2 H3 (o2 p e) fun o e'=>S3 p o e'
   have k3:Kp b H2 H3:=Kp.same S3
   have st3:=st2.step k3 o3
   refine hG pn M b H3 σ ρ items[i] x _ _ st3 rx (List.all_eq_true.mp hp _ (List.getElem_mem hlt)) q fun ρ1 σ1 h1 st4 _=>?_
   refine ⟨pn,M,b,ρ1,_,st4,h1,fun c H5 h5 k5 o5=>?_⟩
   cases h5 with
   | t e h5 =>
     rw [if_pos e]
     refine ⟨pn,M,b,ρ1,_,st4.step k5 o5,h5,fun y v H6 h6 ry k6 o6=>?_⟩
     have kk:=((k3.trans k5).trans k6)
     refine ⟨by simp;omega,k2.trans kk,o6,ds++[y],Reps.append (Reps.keep (fun c o n e=>kk c o (fun z=>n (st.bagM c z)) e) _ _ r) ⟨v,[],rfl,ry.rep h6.1,rfl⟩,h6.2⟩
   | f e h5 =>
     rw [if_neg (by rw [e];exact Bool.false_ne_true)]
     have kk:=k3.trans k5
     exact ⟨by omega,k2.trans kk,o5,ds,Reps.keep (fun c o n e=>kk c o (fun z=>n (st.bagM c z)) e) _ _ r,h5⟩
 · have e:i=items.length:=by omega
   subst e
   exact .inl ⟨hstop _ (Nat.le_refl _),by have:=Y1;omega,fin ds acc H2 (idone _ q) r (by have:=Y1;omega) k2 o2⟩
section
variable {X:Cx}{W:Wd}{elt iter tg:Expr}{ifs:List Expr}{scope:Scope}{pos:Pos}{N':List Str}{map:List (Option Nat)}{g:TG}{gd:D->Ev->(Ev->Prop)->Prop}{di:DA}{dt:DT}{de:DE}
theorem J8n (hG:GD W g gd)(B:Blk X N' scope map tg elt ifs g (dnT W dt) (dn W de))(hi:PI X tg iter (dnI W false di))(hs:∀ x,foldedSetIterable iter X.env x=pure x:=by intro _;rfl):PE X (.ListComp elt [⟨tg,iter,ifs,0⟩] scope pos) (dn W (J4v map gd di dt de)):=(OX B hi hs).mono fun σ H Q hh=>hh.elim fun pn M b ρ P st h k=>by
 refine ⟨pn,M,b,ρ,_,st,h,fun items J need H1 hx hp hI hn k1 o1=>?_⟩
 have st1:=st.step k1 o1
 refine EM hG (st1.capt map) hp hI (fun q hq=>(hn q hq).1) hx.1 hx.2 fun ds acc H' hP r hl k2 o2 D hD=>?_
 exact k _ _ _ hP (BN (st1.step k2 o2).toHs r hD) ((k1.trans k2).trans (Kp.upd hD)) ((st1.step k2 o2).okU hD)
def NQ:DT:=fun _ P=>P true
theorem J8l:PIf X [] (dnT W NQ):=fun pins s σ H Q I hh=>hh.elim fun pn M b ρ P st h k=>J6r pins s σ H Q I (k true H h (Kp.refl _ _) st.ok)
theorem J8k {c:Expr}(hc:PT X c (dnT W dt)):PIf X [c] (dnT W dt):=J6q hc
end
structure StS (W:Wd)(pn:List (D×V))(M:Addr->Prop)(b:Option Addr)(H:Hp)(σ:St)(ρ:Ev):Prop extends Sta W pn M b H σ ρ where
 dj:∀ (i j:Nat) d e v u c,ρ[i]?=some (some d)->ρ[j]?=some (some e)->σ[i]?=some (some v)->σ[j]?=some (some u)->EO d v c->EO e u c->i=j
 lj:∀ ys a,(D.own ys,V.ref a)∈pn->∀ (i:Nat) d v,ρ[i]?=some (some d)->σ[i]?=some (some v)->¬ EO d v a
theorem StS.own {W:Wd}{pn:List (D×V)} {H:Hp}{σ:St}{ρ:Ev}(s:StS W pn M b H σ ρ):∀ (i j:Nat) xs ys a,ρ[i]?=some (some (.own xs))->ρ[j]?=some (some (.own ys))->σ[i]?=some (some (.ref a))->σ[j]?=some (some (.ref a))->i=j:=fun i j xs ys a e1 e2 e3 e4=>s.dj i j _ _ _ _ a e1 e2 e3 e4 rfl rfl
theorem StS.lk {W:Wd}{pn:List (D×V)} {H:Hp}{σ:St}{ρ:Ev}(s:StS W pn M b H σ ρ):∀ ys a,(D.own ys,V.ref a)∈pn->∀ (i:Nat) xs,ρ[i]?=some (some (.own xs))->σ[i]?≠some (some (.ref a)):=fun ys a hq i xs e y=>s.lj ys a hq i _ _ e y rfl
theorem StS.step {W:Wd}{pn:List (D×V)} {H H':Hp}{σ:St}{ρ:Ev}(s:StS W pn M b H σ ρ)(k:Kp b H H')(o:okB W.B b H'):StS W pn M b H' σ ρ:=⟨s.toSta.step k o,s.dj,s.lj⟩
theorem StS.of2 {W:Wd}{pn pn':List (D×V)}{M M':Addr->Prop}{b b':Option Addr}{H H':Hp}{σ σ':St}{ρ ρ':Ev}(s:StS W pn M b H σ ρ)(t:Sta W pn' M' b' H' σ' ρ')(hp:∀ ys a,(D.own ys,V.ref a)∈pn'->(D.own ys,V.ref a)∈pn)(h:∀ (i:Nat) d v c,ρ'[i]?=some (some d)->σ'[i]?=some (some v)->EO d v c->∃ d0,ρ[i]?=some (some d0)/\σ[i]?=some (some v)/\EO d0 v c):StS W pn' M' b' H' σ' ρ' :=
 ⟨t,fun i j d e v u c e1 e2 e3 e4 m1 m2=>by
  obtain ⟨d0,z1,z2,z3⟩:=h i d v c e1 e3 m1
  obtain ⟨d1,y1,y2,y3⟩:=h j e u c e2 e4 m2
  exact s.dj i j d0 d1 v u c z1 y1 z2 y2 z3 y3,fun ys a hq i d v e1 e2 m=>by
  obtain ⟨d0,z1,z2,z3⟩:=h i d v a e1 e2 m
  exact s.lj ys a (hp ys a hq) i d0 v z1 z2 z3⟩
theorem StS.of {W:Wd}{pn:List (D×V)}{M M':Addr->Prop}{b b':Option Addr}{H H':Hp}{σ σ':St}{ρ ρ':Ev}(s:StS W pn M b H σ ρ)(t:Sta W pn M' b' H' σ' ρ')(h:∀ (i:Nat) d,mine d=true->ρ'[i]?=some (some d)->ρ[i]?=some (some d)/\σ'[i]?=σ[i]?):StS W pn M' b' H' σ' ρ' :=
 s.of2 t (fun _ _ q=>q) fun i d v c e1 e2 m=>by
  obtain ⟨z1,z2⟩:=h i d m.m e1
  exact ⟨d,z1,z2▸e2,m⟩
theorem StS.add {W:Wd}{pn:List (D×V)}{M M':Addr->Prop}{b b':Option Addr}{H H':Hp}{σ:St}{ρ:Ev}(s:StS W pn M b H σ ρ)(i:Nat){d:D}{v:V}(t:Sta W pn M' b' H' (σ.set i (some v)) (ρ.set i (some d)))(h:∀ c,EO d v c->¬ M c):StS W pn M' b' H' (σ.set i (some v)) (ρ.set i (some d)):=by
 have slot:∀ (j:Nat) e u,(ρ.set i (some d))[j]?=some (some e)->(σ.set i (some v))[j]?=some (some u)->(j=i/\e=d/\u=v)\/(j≠i/\ρ[j]?=some (some e)/\σ[j]?=some (some u)):=fun j e u e1 e2=>by
  by_cases z:i=j
  · subst z
    rw [List.getElem?_set] at e1 e2
    simp at e1 e2
    exact .inl ⟨rfl,e1.2.symm,e2.2.symm⟩
  · rw [List.getElem?_set_ne z] at e1 e2
    exact .inr ⟨fun y=>z y.symm,e1,e2⟩
 have old:∀ (j:Nat) e u c,ρ[j]?=some (some e)->σ[j]?=some (some u)->EO e u c->M c:=fun j e u c e1 e2 m=>by
  obtain ⟨w,e3,r⟩:=s.env j e e1
  rw [e2] at e3;cases e3
  exact (r.mine m).1
 refine ⟨t,fun j k e f u w c e1 e2 e3 e4 m1 m2=>?_,fun ys a hq j e u e1 e2 m=>?_⟩
 · rcases slot j e u e1 e3 with ⟨z1,z2,z3⟩|⟨z1,z2,z3⟩<;>rcases slot k f w e2 e4 with ⟨y1,y2,y3⟩|⟨y1,y2,y3⟩
   · rw [z1,y1]
   · subst z2 z3;exact absurd (old k f w c y2 y3 m2) (h c m1)
   · subst y2 y3;exact absurd (old j e u c z2 z3 m1) (h c m2)
   · exact s.dj j k e f u w c z2 y2 z3 y3 m1 m2
 · rcases slot j e u e1 e2 with ⟨z1,z2,z3⟩|⟨z1,z2,z3⟩
   · subst z2 z3
     obtain ⟨a2,us2,ev,n1,_⟩:=(s.pin _ hq)
     cases ev
     exact absurd n1 (h a m)
   · exact s.lj ys a hq j e u z2 z3 m
structure DEnds where
 nx:Ev->Prop
 rt:D->Prop
 bk:Ev->Prop:=fun _=>False
 ct:Ev->Prop:=fun _=>False
 ro:List D->Prop:=fun _=>False
abbrev DS:=DEnds->Ev->Prop
structure Link (W:Wd)(pn:List (D×V))(E:Ends)(F:DEnds):Prop where
 nx:∀ M b ρ σ H,StS W pn M b H σ ρ->F.nx ρ->E.nx σ H
 rt:∀ d v H,F.rt d->Rep W.K W.M0 H d v->Kp W.b0 W.H0 H->okB W.B W.b0 H->E.rt v H
 bk:∀ M b ρ σ H,StS W pn M b H σ ρ->F.bk ρ->E.bk σ H
 ct:∀ M b ρ σ H,StS W pn M b H σ ρ->F.ct ρ->E.ct σ H
 ro:∀ xs a vs H,F.ro xs->W.H0 a=none->¬ W.M0 a->H a=some (.lst vs)->Reps W.K (fun c=>W.M0 c\/c=a) H xs vs->Kp W.b0 W.H0 H->okB W.B W.b0 H->E.rt (.ref a) H
def sn (W:Wd)(d:DS):TS:=fun E σ H=>∃ pn M b ρ F,StS W pn M b H σ ρ/\Link W pn E F/\d F ρ
theorem sn.elim {W:Wd}{d:DS}{E:Ends}{σ:St}{H:Hp}{Z:Prop}(h:sn W d E σ H)(f:∀ pn M b ρ F,StS W pn M b H σ ρ->Link W pn E F->d F ρ->Z):Z:=by
 obtain ⟨pn,M,b,ρ,F,s,l,h⟩:=h
 exact f pn M b ρ F s l h
section
variable {X:Cx}{W:Wd}{e a b c tg iter l:Expr}{es:List Expr}{pos p:Pos}{d db de:DE}{dA di:DA}{dt:DT}{st:Stmt}{rest sts:List Stmt}{d1 d2:DS}{t:TS}
theorem PS.mono {t':TS}(h:PS X st t)(m:∀ E σ H,t' E σ H->t E σ H):PS X st t':=fun pins s σ H D I q=>h pins s σ H D I (m D σ H q)
theorem PSs.mono {t':TS}(h:PSs X sts t)(m:∀ E σ H,t' E σ H->t E σ H):PSs X sts t':=fun pins s σ H D I q=>h pins s σ H D I (m D σ H q)
def J4t:DS:=fun F ρ=>F.nx ρ
def Q3q (d1 d2:DS):DS:=fun F ρ=>d1 { F with nx:=d2 F } ρ
theorem J8e:PSs X [] (sn W J4t):=GW.mono fun E σ H hh=>hh.elim fun pn M b ρ F s l h=>l.nx _ _ _ _ _ s h
theorem J8d (h:PS X st (sn W d1)):PSs X [st] (sn W d1):=AN h
theorem J4h (h1:PS X st (sn W d1))(h2:PSs X rest (sn W d2)):PSs X (st::rest) (sn W (Q3q d1 d2)):=(Z8 h1 h2).mono fun E σ H hh=>hh.elim fun pn M b ρ F s l h=>⟨pn,M,b,ρ,{ F with nx:=d2 F },s,⟨fun M b ρ σ H s' h'=>⟨pn,M,b,ρ,F,s',l,h'⟩,l.rt,l.bk,l.ct,l.ro⟩,h⟩
def Q3s (de:DE):DS:=fun F ρ=>de ρ fun x=>match x with|.own xs=>F.rt (.lst xs)|.bag=>False|.frg _ _=>False|x=>F.rt x
theorem J6h {b:Option Addr}{H:Hp}{x:D}{v:V}(hs:Hs W M b H)(r:Rep W.K M H x v):Rep W.K W.M0 H x v:=Rep.avoid (fun c m=>.inl (hs.m0 c m)) _ _ r
theorem Q2w (he:PE X e (dn W de)):PS X (.Return (some e) pos) (sn W (Q3s de)):=(CU he).mono fun E σ H hh=>hh.elim fun pn M b ρ F s l h=>by
 refine ⟨pn,M,b,ρ,_,s.toSta,h,fun x v H' hx rx k o=>?_⟩
 have s':=s.toSta.step k o
 cases x
 case own xs =>
  obtain ⟨a,vs,rfl,m,n,n0,m0,hh,r⟩:=rx
  exact l.rt _ _ H' hx ⟨a,vs,rfl,⟨m0,hh⟩,Reps.avoid (fun c m=>.inl (s'.m0 c m)) _ _ r⟩ s'.kp s'.ok0
 case bag=>exact hx.elim
 case frg=>exact hx.elim
 all_goals exact l.rt _ _ H' hx (J6h s'.toHs (RepX.rep rx rfl)) s'.kp s'.ok0
def Q3u (dt:DT)(d1 d2:DS):DS:=fun F ρ=>dt ρ fun c=>IfP c (d1 F ρ) (d2 F ρ)
theorem Q6g {s1 s2:List Stmt}(hc:PT X c (dnT W dt))(ha:PSs X s1 (sn W d1))(hb:PSs X s2 (sn W d2)):PS X (.If c s1 s2 pos) (sn W (Q3u dt d1 d2)):=(RY hc ha hb).mono fun E σ H hh=>hh.elim fun pn M b ρ F s l h=>by
 refine ⟨pn,M,b,ρ,_,s.toSta,h,fun x H' hx k o=>?_⟩
 cases hx with
 | t e hx=>rw [if_pos e];exact ⟨pn,M,b,ρ,F,s.step k o,l,hx⟩
 | f e hx=>rw [if_neg (by rw [e];exact Bool.false_ne_true)];exact ⟨pn,M,b,ρ,F,s.step k o,l,hx⟩
def ZU (de:DE)(gd:D->Ev->(Ev->Prop)->Prop):DS:=fun F ρ=>de ρ fun x=>plain x=true/\gd x ρ F.nx
theorem J0j {g:TG}{gd:D->Ev->(Ev->Prop)->Prop}(hG:GD W g gd):∀ E σ H,sn W (ZU de gd) E σ H->J5z (dn W de) g E σ H:=fun E σ H hh=>hh.elim fun pn M b ρ F s l h=>by
 refine ⟨pn,M,b,ρ,_,s.toSta,h,fun x v H' hx rx k o=>?_⟩
 exact hG pn M b H' σ ρ x v E.nx F.nx (s.toSta.step k o) rx hx.1 hx.2 fun ρ' σ' hp st' ho=>l.nx _ _ _ _ _ (s.of st' ho) hp
theorem Q2v {i:Nat} {x:Str} {pos':Pos} (hN:X.N.Nodup) (hi:X.N[i]?=some x) (hx:Loc X.env.scope x) (he:PE X e (dn W de)) (hs:swapsWith e (some (.Name x pos')) pos.line X.env=pure false:=by rfl) (hf:X.fn x=true\/X.env.scope.names.lookup x=some .local:=by first|exact .inl rfl|exact .inr rfl|assumption) :
 PS X (.Assign [.Name x pos'] e pos) (sn W (ZU de (gdN i))):=(DR hN hi hx he hs hf).mono (J0j (V3 i))
theorem Q2z {g:TG}{gd:D->Ev->(Ev->Prop)->Prop}(hG:GD W g gd)(he:PE X e (dn W de))(hg:PG X tg g)(hs:swapsWithSole [tg] e pos.line X.env=pure false:=by rfl)(hw:swappedStores [tg] e X.env=pure none:=by rfl)
 (h1:(assignEach [tg] X.env).map (·.2)=[assign tg X.env]:=by rfl):PS X (.Assign [tg] e pos) (sn W (ZU de gd)):=(KF he hg hs hw h1).mono (J0j hG)
theorem StS.newOwn {pn:List (D×V)} {b:Option Addr}{H:Hp}{σ:St}{ρ:Ev}{xs:List D}{vs:List V}{p:Addr}(s:StS W pn M b H σ ρ)(i:Nat)(r:Reps W.K M H xs vs)(h:H p=none) :
 StS W pn (fun c=>M c\/c=p) b (upd H p (.lst vs)) (σ.set i (some (.ref p))) (ρ.set i (some (.own xs))):=by
 have hM:∀ c,(M c\/c=p)->M c\/H c=none:=fun c hc=>hc.imp id (fun z=>by rw [z];exact h)
 have kk:∀ c o,H c=some o->upd H p (.lst vs) c=some o:=fun c o e=>Same.upd h c o e
 have rep:∀ d v,Rep W.K M H d v->Rep W.K (fun c=>M c\/c=p) (upd H p (.lst vs)) d v:=fun d v r=>Rep.keep (fun c o _ e=>kk c o e) _ _ (Rep.avoid hM _ _ r)
 have reps:∀ d v,Reps W.K M H d v->Reps W.K (fun c=>M c\/c=p) (upd H p (.lst vs)) d v:=fun d v r=>Reps.keep (fun c o _ e=>kk c o e) _ _ (Reps.avoid hM _ _ r)
 have hbp:b≠some p:=fun z=>by
  obtain ⟨o,e⟩:=W.B.dm p H (s.ok p z)
  rw [h] at e;cases e
 have h0:W.H0 p=none:=by
  cases q:W.H0 p with
  | none=>rfl
  | some o =>
    by_cases z:W.b0=some p
    · rcases s.new with y|⟨y,_⟩
      · exact absurd (y.trans z) hbp
      · rw [y] at z;cases z
    · have:=s.kp p o z q
      rw [h] at this;cases this
 have hm0:¬ W.M0 p:=fun z=>s.toHs.new h (s.m0 p z)
 refine s.add i ⟨⟨s.toHs.okU h,fun q e=>.inl (s.bagM q e),fun c hc=>?_,fun c m=>.inl (s.m0 c m)⟩,fun c o n e=>kk c o (s.kp c o n e),s.new,fun j d e=>?_,by simp [s.len],fun q hq=>(s.pin q hq).to rep reps fun xs a vs _ _ m n hh=>⟨.inl m,n,kk _ _ hh⟩⟩ fun c m=>by
  cases (show V.ref p=V.ref c from m)
  exact s.toHs.new h
 · rcases hc with hc|hc
   · obtain ⟨o,e⟩:=s.dom c hc;exact ⟨o,kk c o e⟩
   · rw [hc];exact ⟨_,Q5⟩
 · by_cases z:i=j
   · subst z
     rw [List.getElem?_set] at e
     simp at e
     obtain ⟨hl,rfl⟩:=e
     exact ⟨.ref p,by rw [List.getElem?_set];simp [<- s.len,hl],p,vs,rfl,.inr rfl,hbp,h0,hm0,Q5,reps _ _ r⟩
   · rw [List.getElem?_set_ne z] at e
     obtain ⟨w,e1,r1⟩:=s.env j d e
     refine ⟨w,by rw [List.getElem?_set_ne z];exact e1,?_⟩
     cases d
     case own ys =>
      obtain ⟨a,us,rfl,m1,m2,m3,m4,hh,r'⟩:=r1
      exact ⟨a,us,rfl,.inl m1,m2,m3,m4,kk _ _ hh,reps _ _ r'⟩
     case bag=>exact r1
     case frg f _=>exact RepX.move r1 (fun c _ m n=>⟨.inl m,n⟩) (fun c o _ e=>kk c o e) hM
     all_goals exact rep _ _ r1
theorem StS.setOwn {pn:List (D×V)} {b:Option Addr}{H:Hp}{σ:St}{ρ:Ev}{xs ys:List D}{vs:List V}{a:Addr}(s:StS W pn M b H σ ρ)(i:Nat)(e:ρ[i]?=some (some (.own xs)))(ea:σ[i]?=some (some (.ref a)))(r:Reps W.K M H ys vs) :
 StS W pn M b (upd H a (.lst vs)) σ (ρ.set i (some (.own ys))):=by
 obtain ⟨v,e1,a',us,ev,m1,m2,m3,m4,hh,r'⟩:=s.env i _ e
 rw [ea] at e1;cases e1;cases ev
 have kk:∀ c o,¬ M c->H c=some o->upd H a (.lst vs) c=some o:=fun c o n q=>by rw [Q3 (show c≠a from fun z=>n (by rw [z];exact m1))];exact q
 have kb:∀ c o,c≠a->H c=some o->upd H a (.lst vs) c=some o:=fun c o n q=>by rw [Q3 n];exact q
 refine s.of2 ⟨⟨fun q z=>W.B.st q H _ (s.ok q z) fun o h=>kb q o (fun w=>m2 (w▸z)) h,s.bagM,fun c hc=>?_,s.m0⟩,fun c o n q=>kb c o (fun z=>by rw [z,m3] at q;cases q) (s.kp c o n q),s.new,fun j d e'=>?_,by simp [s.len],fun q hq=>(s.pin q hq).to (fun _ _ r=>Rep.keep kk _ _ r) (fun _ _ r=>Reps.keep kk _ _ r) fun zs a2 us ed ev m n hh2=>⟨m,n,kb _ _ (fun y=>s.lk zs a2 (by rw [<- ed,<- ev];exact hq) i xs e (by rw [y];exact ea)) hh2⟩⟩ (fun _ _ q=>q) fun j d v c e' e2 m=>?_
 · by_cases z:c=a
   · rw [z];exact ⟨_,Q5⟩
   · obtain ⟨o,q⟩:=s.dom c hc;exact ⟨o,kb c o z q⟩
 · by_cases z:i=j
   · subst z
     rw [List.getElem?_set] at e'
     simp at e'
     obtain ⟨hl,rfl⟩:=e'
     exact ⟨.ref a,ea,a,vs,rfl,m1,m2,m3,m4,Q5,Reps.keep kk _ _ r⟩
   · rw [List.getElem?_set_ne z] at e'
     obtain ⟨w,e1,r1⟩:=s.env j d e'
     refine ⟨w,e1,?_⟩
     cases d
     case own zs =>
      obtain ⟨a2,us2,rfl,n1,n2,n3,n4,hh2,r2⟩:=r1
      have na:a2≠a:=fun y=>z (s.own i j xs zs a e e' ea (y▸e1))
      exact ⟨a2,us2,rfl,n1,n2,n3,n4,kb _ _ na hh2,Reps.keep kk _ _ r2⟩
     case bag=>exact r1
     case frg f _ =>
      have na:a∉f.ads:=fun y=>z (s.dj i j _ _ _ _ a e e' ea e1 rfl y)
      exact RepX.move r1 (fun c _ m n=>⟨m,n⟩) (fun c o q h=>kb c o (fun y=>q.elim (fun n=>n (by rw [y];exact m1)) (fun n=>na (by rw [<- y];exact n))) h) fun c m=>.inl m
     all_goals exact Rep.keep kk _ _ r1
 · by_cases z:i=j
   · subst z
     rw [List.getElem?_set] at e'
     simp at e'
     obtain ⟨_,rfl⟩:=e'
     exact ⟨_,e,e2,m⟩
   · rw [List.getElem?_set_ne z] at e'
     exact ⟨d,e',e2,m⟩
def J9v (i:Nat)(dA:DA):DS:=fun F ρ=>dA ρ fun xs=>GL xs=true/\F.nx (ρ.set i (some (.own xs)))
theorem J8h {i:Nat} {x:Str} {pos' lpos:Pos} (hN:X.N.Nodup) (hi:X.N[i]?=some x) (hx:Loc X.env.scope x) (ha:PA X es (dnA W dA)) (hs:swapsWith (.List es lpos) (some (.Name x pos')) pos.line X.env=pure false:=by rfl) (hf:X.fn x=true\/X.env.scope.names.lookup x=some .local:=by first|exact .inl rfl|exact .inr rfl|assumption) :
 PS X (.Assign [.Name x pos'] (.List es lpos) pos) (sn W (J9v i dA)):=(DR hN hi hx (UY ha) hs hf).mono fun E σ H hh=>hh.elim fun pn M b ρ F s l h=>by
 refine ⟨pn,M,b,ρ,_,s.toSta,h,fun xs vs H' hx rx k o=>?_⟩
 have rr:=rx.reps _ _ (GL.pl hx.1)
 exact ⟨by rw [rr.length];exact GL.len hx.1,fun q hq=>l.nx _ _ _ _ _ ((s.step k o).newOwn i rr hq) hx.2⟩
def J9u (own:Bool)(i:Nat)(map:List (Option Nat))(gd:D->Ev->(Ev->Prop)->Prop)(di:DA)(dt:DT)(de:DE):DS:=fun F ρ=>di ρ fun items=>items.length<=1000/\compI gd dt de (ES ρ map) items fun acc=>F.nx (ρ.set i (some (if own then .own acc else .lst acc)))
theorem J8g {elt iter tg:Expr}{ifs:List Expr}{scope:Scope}{N':List Str}{map:List (Option Nat)}{g:TG}{gd:D->Ev->(Ev->Prop)->Prop}(own:Bool){i:Nat}{y:Str}{py spos:Pos}(hN:X.N.Nodup)(hiN:X.N[i]?=some y)(hy:Loc X.env.scope y)(hG:GD W g gd)(B:Blk X N' scope map tg elt ifs g (dnT W dt) (dn W de))(hi:PI X tg iter (dnI W false di))
 (hsw:swapsWith (.ListComp elt [⟨tg,iter,ifs,0⟩] scope pos) (some (.Name y py)) spos.line X.env=pure true:=by rfl) (hfn:X.fn y=true\/X.env.scope.names.lookup y=some .local:=by first|exact .inl rfl|exact .inr rfl)
 (hs:∀ x,foldedSetIterable iter X.env x=pure x:=by intro _;rfl):PS X (.Assign [.Name y py] (.ListComp elt [⟨tg,iter,ifs,0⟩] scope pos) spos) (sn W (J9u own i map gd di dt de)):=(UV hN hiN hy B hi hsw hfn hs).mono fun E σ H hh=>hh.elim fun pn M b ρ F s l h=>by
 refine ⟨pn,M,b,ρ,_,s.toSta,h,fun items J need H1 hx hp hI hn k1 o1=>?_⟩
 have s1:=s.step k1 o1
 refine EM hG (s1.toSta.capt map) hp hI (fun q hq=>(hn q hq).1) hx.1 hx.2 fun ds acc H' hP r hl k2 o2 q hq=>?_
 have s2:=s1.step k2 o2
 cases own
 · have s3:=(s2.step (Kp.upd (o:=.lst acc) hq) (s2.toHs.okU hq))
   exact l.nx _ _ _ _ _ (s3.of (s3.toSta.set i (BN s2.toHs r hq)) (OY rfl)) hP
 · exact l.nx _ _ _ _ _ (s2.newOwn i r hq) hP
def J8w (i:Nat)(dA:DA):DS:=fun F ρ=>match ρ[i]? with
 | some (some (.own ys))=>dA ρ fun xs=>(match xs with | [y]=>(plain y&&decide (ys.length<1000))=true/\F.nx (ρ.set i (some (.own (ys++[y]))))|_=>False)
 | _=>False
theorem HR {pn:List (D×V)} {b:Option Addr}{H:Hp}{σ:St}{ρ:Ev}{i:Nat}{ys:List D}(s:Sta W pn M b H σ ρ)(e:ρ[i]?=some (some (.own ys))):∃ a vs,σ[i]?=some (some (.ref a))/\b≠some a/\H a=some (.lst vs)/\Reps W.K M H ys vs:=by
 obtain ⟨v,e1,a,us,rfl,m1,m2,m3,m4,hh,r⟩:=s.env i _ e
 exact ⟨a,us,e1,m2,hh,r⟩
theorem Q0k {i:Nat}:∀ E σ H,sn W (J8w i dA) E σ H->J0p (tBM W.K "list" IZ (JN i) (dnA W dA)) E σ H:=fun E σ H hh=>hh.elim fun pn M b ρ F s l h=>by
 unfold J8w at h
 split at h
 case h_2=>exact h.elim
 case h_1 ys e =>
  obtain ⟨a,vs,ea,nb,hh,r⟩:=HR s.toSta e
  refine ⟨.ref a,ea,.inl ⟨rfl,vs,SqL.of hh⟩,pn,M,b,ρ,_,s.toSta,h,fun xs us H' hx rx k o=>?_⟩
  match xs,hx with
  | [y],hx =>
    obtain ⟨u,rfl,ru⟩:=rx1 rx
    obtain ⟨p1,p2⟩:=(Bool.and_eq_true _ _).mp hx.1
    have p2:=of_decide_eq_true p2
    have s':=s.step k o
    obtain ⟨a',vs',ea',nb',hh',r'⟩:=HR s'.toSta e
    rw [ea] at ea';cases ea'
    refine ⟨a,vs',u,rfl,rfl,hh',by rw [r'.length];have:=Y1;omega,l.nx _ _ _ _ _ (s'.setOwn i e ea (Reps.append r' (show Reps W.K M H' [y] [u] from ⟨u,[],rfl,ru.rep p1,rfl⟩))) hx.2⟩
theorem ZP {i:Nat}{x:Str}{e:Expr}{npos apos cpos:Pos}(hK:X.K=W.K)(hN:X.N[i]?=some x)(hv:Vis X.env.scope x)(ha:PA X [e] (dnA W dA))
 (h:PE X (.Call (.Attribute (.Name x npos) "append" apos) [e] [] cpos) (tBM X.K "list" IZ (JN i) (dnA W dA))) (hs:swapsWith (.Call (.Attribute (.Name x npos) "append" apos) [e] [] cpos) none pos.line X.env=pure false:=by rfl) :
 PS X (.Expr (.Call (.Attribute (.Name x npos) "append" apos) [e] [] cpos) pos) (sn W (J8w i dA)):=(WN (by rw [hK] at h;exact h) hs).mono Q0k
inductive forI (gd:D->Ev->(Ev->Prop)->Prop)(db:DS)(F:DEnds)(items:List D)(ρ:Ev):Prop
 | mk (I:Nat->Ev->Prop) (h0:I 0 ρ) (hs:∀ (i:Nat) x ρ,items[i]?=some x->I i ρ->gd x ρ fun ρ1=>db { F with nx:=I (i+1),ct:=I (i+1),bk:=F.nx } ρ1) (hd:∀ ρ,I items.length ρ->F.nx ρ):forI gd db F items ρ
def J8t (gd:D->Ev->(Ev->Prop)->Prop)(di:DA)(db:DS):DS:=fun F ρ=>di ρ fun items=>forI gd db F items ρ
theorem Sta.pins {pn pn':List (D×V)} {b:Option Addr}{H:Hp}{σ:St}{ρ:Ev}(s:Sta W pn M b H σ ρ)(h:∀ q∈pn',PinR W M b H q.1 q.2):Sta W pn' M b H σ ρ:=⟨s.toHs,s.kp,s.new,s.env,s.len,h⟩
theorem Q0i {g:TG}{gd:D->Ev->(Ev->Prop)->Prop}{db:DS}(hG:GD W g gd):∀ E σ H,sn W (J8t gd di db) E σ H->Q5b (dnI W true di) g (sn W db) E σ H:=fun E σ H hh=>hh.elim fun pn M b ρ F s l h=>by
 refine ⟨pn,M,b,ρ,_,s.toSta,h,fun items J need H1 hx hp hI hn k1 o1=>?_⟩
 have s1:=s.step k1 o1
 have pins:∀ q∈need++pn,PinR W M b H1 q.1 q.2:=fun q hq=>(List.mem_append.mp hq).elim (fun z=>(hn q z).1.pin ((hn q z).2 rfl)) fun z=>s1.pin q z
 obtain ⟨I,i0,istep,idone⟩:=hx
 refine ⟨fun i m σ H=>m=items.length - i/\i<=items.length/\∃ M b ρ,StS W (need++pn) M b H σ ρ/\I i ρ,⟨items.length,by simp,Nat.zero_le _,M,b,ρ,⟨s1.toSta.pins pins,s1.dj,fun ys a hq=>(List.mem_append.mp hq).elim (fun z=>by have:=(hn _ z).2 rfl;cases this) fun z=>s1.lj ys a z⟩,i0⟩,?_⟩
 rintro i m σ2 H2 ⟨rfl,hi,M2,b2,ρ2,s2,q⟩
 have unp:∀ {M b ρ σ H},StS W (need++pn) M b H σ ρ->StS W pn M b H σ ρ:=fun s=>⟨s.toSta.pins fun q hq=>s.pin q (List.mem_append_right _ hq),s.dj,fun ys a hq=>s.lj ys a (List.mem_append_right _ hq)⟩
 obtain ⟨hgo,hstop⟩:=hI M2 b2 H2 s2.toHs fun q hq=>(s2.pin q (List.mem_append_left _ hq)).x
 by_cases hlt:i<items.length
 · have ei:items[i]?=some items[i]:=List.getElem?_eq_getElem hlt
   replace q:=istep i _ ρ2 ei q
   refine .inr ⟨(hgo i _ ei).1,fun σ' H'=>∃ M b ρ,StS W (need++pn) M b H' σ' ρ/\I (i+1) ρ,fun σ' H' n=>⟨items.length - (i+1),by omega,rfl,hlt,n⟩,fun x H3 y=>?_⟩
   obtain ⟨S3,rx⟩:=(hgo i _ ei).2 x H3 y
   have o3:okB W.B b2 H3:=fun p e=>W.B.st p H2 H3 (s2.ok p e) fun o e'=>S3 p o e'
   have s3:=s2.step (Kp.same S3) o3
   refine hG (need++pn) M2 b2 H3 σ2 ρ2 items[i] x _ _ s3.toSta rx (List.all_eq_true.mp hp _ (List.getElem_mem hlt)) q fun ρ1 σ1 h1 st4 ho=>?_
   exact ⟨need++pn,M2,b2,ρ1,{ F with nx:=I (i+1),ct:=I (i+1),bk:=F.nx },s3.of st4 ho,⟨fun M b ρ σ H s' h'=>⟨M,b,ρ,s',h'⟩,l.rt,fun M b ρ σ H s' h'=>l.nx _ _ _ _ _ (unp s') h',fun M b ρ σ H s' h'=>⟨M,b,ρ,s',h'⟩,l.ro⟩,h1⟩
 · have e:i=items.length:=by omega
   subst e
   exact .inl ⟨hstop _ (Nat.le_refl _),l.nx _ _ _ _ _ (unp s2) (idone _ q)⟩
theorem Q2x {g:TG}{gd:D->Ev->(Ev->Prop)->Prop}{db:DS}{body:List Stmt}(hG:GD W g gd)(hp:PassesOwn (model X.prog X.w) X.A X.env X.xe)(hc:X.calm=true)(hi:PI X tg iter (dnI W true di))(hg:PG X tg g)(hb:PSs X body (sn W db))
 (hs:∀ x,foldedSetIterable iter X.env x=pure x:=by intro _;rfl):PS X (.For tg iter body [] pos) (sn W (J8t gd di db)):=(J1t hp hc hi hg hb hs).mono (Q0i hG)
def Q3v (i:Nat)(d:DS):DS:=fun F ρ=>match ρ[i]? with|some (some (.own xs))=>d F (ρ.set i (some (.lst xs)))|_=>False
theorem Sta.avoid {pn:List (D×V)}{M M':Addr->Prop}{b:Option Addr}{H:Hp}{σ:St}{ρ:Ev}(s:Sta W pn M b H σ ρ)(h:∀ c,M' c->M c)(hb:∀ p,b=some p->M' p)(h0:∀ c,W.M0 c->M' c)(ho:∀ (i:Nat) d v c,ρ[i]?=some (some d)->σ[i]?=some (some v)->EO d v c->M' c)(hpo:∀ xs a,(D.own xs,V.ref a)∈pn->M' a):Sta W pn M' b H σ ρ where
 ok:=s.ok
 bagM:=hb
 dom:=fun c m=>s.dom c (h c m)
 m0:=h0
 kp:=s.kp
 new:=s.new
 len:=s.len
 pin:=fun q hq=>(s.pin q hq).to (fun _ _ r=>Rep.avoid (fun c m=>.inl (h c m)) _ _ r) (fun _ _ r=>Reps.avoid (fun c m=>.inl (h c m)) _ _ r) fun xs a vs ed ev m n hh=>⟨hpo xs a (by rw [<- ed,<- ev];exact hq),n,hh⟩
 env:=fun i d e=>by
  obtain ⟨v,e1,r⟩:=s.env i d e
  refine ⟨v,e1,?_⟩
  cases d
  case own xs =>
   obtain ⟨a,us,rfl,m1,m2,m3,m4,hh,r'⟩:=r
   exact ⟨a,us,rfl,ho i _ _ a e e1 rfl,m2,m3,m4,hh,Reps.avoid (fun c m=>.inl (h c m)) _ _ r'⟩
  case bag=>exact r
  case frg f _=>exact RepX.move r (fun c m _ n=>⟨ho i _ _ c e e1 m,n⟩) (fun c o _ e=>e) fun c m=>.inl (h c m)
  all_goals exact Rep.avoid (fun c m=>.inl (h c m)) _ _ r
theorem J8f (i:Nat)(h:PSs X sts (sn W d1)):PSs X sts (sn W (Q3v i d1)):=h.mono fun E σ H hh=>hh.elim fun pn M b ρ F s l h=>by
 unfold Q3v at h
 split at h
 case h_2=>exact h.elim
 case h_1 xs e =>
  obtain ⟨v,e1,a,us,rfl,m1,m2,m3,m4,hh,r⟩:=s.env i _ e
  have st:Sta W pn (fun c=>M c/\c≠a) b H σ (ρ.set i none):=by
   refine Sta.avoid (M:=M) ⟨s.toHs,s.kp,s.new,fun j d e'=>?_,by simp [s.len],s.pin⟩ (fun c m=>m.1) (fun p z=>⟨s.bagM p z,fun y=>m2 (by rw [<- y];exact z)⟩) (fun c m=>⟨s.m0 c m,fun y=>m4 (by rw [<- y];exact m)⟩) (fun j d' v' c' e' e2 mm=>?_) fun ys a' hq=>⟨by
    obtain ⟨a2,us2,ev,n1,_⟩:=(s.pin _ hq)
    cases ev;exact n1,fun y=>s.lk ys a' hq i xs e (by rw [y];exact e1)⟩
   · by_cases z:i=j
     · subst z;rw [List.getElem?_set] at e';simp at e'
     · rw [List.getElem?_set_ne z] at e';exact s.env j d e'
   · by_cases z:i=j
     · subst z;rw [List.getElem?_set] at e';simp at e'
     · rw [List.getElem?_set_ne z] at e'
       obtain ⟨v3,e3,r3⟩:=s.env j _ e'
       rw [e2] at e3;cases e3
       exact ⟨(r3.mine mm).1,fun y=>z (s.dj i j _ _ _ _ a e e' e1 e2 rfl (by rw [<- y];exact mm))⟩
  have st2:=st.set (x:=.lst xs) (v:=.ref a) i ⟨a,us,rfl,⟨fun m=>m.2 rfl,hh⟩,Reps.avoid (fun c m=>.inl m.1) _ _ r⟩
  have eσ:σ.set i (some (.ref a))=σ:=by
   apply List.ext_getElem?
   intro n
   by_cases z:i=n
   · subst z;rw [List.getElem?_set,e1];simp;exact (List.getElem?_eq_some_iff.mp e1).1
   · rw [List.getElem?_set_ne z]
  rw [eσ,List.set_set] at st2
  refine ⟨pn,_,b,_,F,s.of st2 fun j ys hm e'=>?_,l,h⟩
  by_cases z:i=j
  · subst z;rw [List.getElem?_set] at e';simp at e';rw [<- e'.2] at hm;cases hm
  · rw [List.getElem?_set_ne z] at e';exact ⟨e',rfl⟩
def J4r (Ed:Addr->Prop)(C:Addr):DS:=fun _ _=>Ed C
theorem J4i {E:XK}{Ed:Addr->Prop}{C:Addr}(hE:EB W E Ed)(h:PS X st (fun _ _ H1=>E (.ref C) none H1)):PS X st (sn W (J4r Ed C)):=h.mono fun E' σ H hh=>hh.elim fun pn M b ρ F s l h=>hE C H h s.kp s.ok0
end
def AE (N:List Str)(ds:List D):Ev:=ds.map some++List.replicate (N.length - ds.length) none
theorem RepAs.get {H:Hp}:∀ {ds:List D} {vs:List V} {i:Nat} {d:D},RepAs K M b H ds vs->ds[i]?=some d->∃ v,vs[i]?=some v/\Q4n K M b H d v
 | [],_,_,_,h,e=>by simp at e
 | d::ds,vs,0,_,h,e=>by
   obtain ⟨v,r,rfl,h1,h2⟩:=h
   simp at e;subst e
   exact ⟨v,rfl,h1⟩
 | d::ds,vs,i+1,d',h,e=>by
   obtain ⟨v,r,rfl,h1,h2⟩:=h
   obtain ⟨u,e1,e2⟩:=RepAs.get (i:=i) h2 (by simpa using e)
   exact ⟨u,by simpa using e1,e2⟩
theorem JP {N:List Str}{ds:List D}{i:Nat}{d:D}(h:(AE N ds)[i]?=some (some d)):ds[i]?=some d:=by
 unfold AE at h
 by_cases hi:i<ds.length
 · rw [List.getElem?_append_left (by simpa using hi),List.getElem?_map] at h
   simpa using h
 · rw [List.getElem?_append_right (by simpa using hi)] at h
   have:=List.mem_of_getElem? h
   simp at this
theorem J4e {B:BagT} {N:List Str}{ds:List D}{vs:List V}{H:Hp}(hr:RepAs K M b H ds vs)(ho:okB B b H)(hb:∀ p,b=some p->M p)(hd:∀ c,M c->∃ o,H c=some o):StS ⟨K,B,H,M,b⟩ [] M b H (DF N vs) (AE N ds):=by
 refine ⟨⟨⟨ho,hb,hd,fun _ m=>m⟩,Kp.refl _ _,.inl rfl,fun i d e=>?_,by simp [DF,AE,hr.length],fun _ hq=>by cases hq⟩,fun i j d e v u c e0 _ _ _ m _=>?_,fun _ _ hq=>by cases hq⟩
 · obtain ⟨v,e1,r⟩:=hr.get (JP e)
   refine ⟨v,?_,?_⟩
   · unfold DF
     rw [List.getElem?_append_left (by simpa using (List.getElem?_eq_some_iff.mp e1).1),List.getElem?_map,e1];rfl
   · cases d<;>first|exact r|exact r.elim
 · obtain ⟨v',e1,r⟩:=hr.get (JP e0)
   cases d<;>first|exact m.elim|exact r.elim
theorem Q5w {B:BagT} {H:Hp}{Q:VK}{P:D->Prop}(hq:∀ d v H',P d->Rep K M H' d v->Kp b H H'->okB B b H'->Q v H'):Link ⟨K,B,H,M,b⟩ [] { nx:=fun _ H'=>Q .non H',rt:=Q } { nx:=fun _=>P .non,rt:=P } :=
 ⟨fun M b ρ σ H s h=>hq _ _ _ h rfl s.kp s.ok0,fun d v H h r k o=>hq d v H h r k o,fun _ _ _ _ _ _ h=>h.elim,fun _ _ _ _ _ _ h=>h.elim,fun _ _ _ _ h=>h.elim⟩
theorem run {B:BagT} {N:List Str}{ds:List D}{vs:List V}{H:Hp}{Q:VK}{P:D->Prop}{d:DS}(hr:RepAs K M b H ds vs)(ho:okB B b H)(hb:∀ p,b=some p->M p)(hd:∀ c,M c->∃ o,H c=some o)(hq:∀ d v H',P d->Rep K M H' d v->Kp b H H'->okB B b H'->Q v H')
 (h:d { nx:=fun _=>P .non,rt:=P } (AE N ds)):sn ⟨K,B,H,M,b⟩ d { nx:=fun _ H'=>Q .non H',rt:=Q } (DF N vs) H :=
 ⟨[],M,b,AE N ds,_,J4e hr ho hb hd,Q5w hq,h⟩
theorem J7.len {B:BagT}{S:DSp}{n:Nat}(h:∀ ds P Ed,S ds P Ed->ds.length=n):∀ vs H Q E,J7 K B S vs H Q E->vs.length=n:=fun vs H Q E ⟨M,b,ds,P,Ed,hS,hr,_⟩=>by rw [hr.length];exact h _ _ _ hS
section
variable {X:Cx}{W:Wd}{e a b c l:Expr}{es:List Expr}{pos p:Pos}{d dl de:DE}{dA:DA}{st:Stmt}
abbrev DO:=Ev->(Option Int->Prop)->Prop
def dnO (W:Wd)(d:DO):TO:=fun σ H Q=>∃ pn M b ρ P,Sta W pn M b H σ ρ/\d ρ P/\∀ x H',P x->Kp b H H'->okB W.B b H'->Q x H'
theorem dnO.elim {W:Wd}{d:DO}{σ:St}{H:Hp}{Q:Option Int->Hp->Prop}{R:Prop}(h:dnO W d σ H Q)(f:∀ pn M b ρ P,Sta W pn M b H σ ρ->d ρ P->(∀ x H',P x->Kp b H H'->okB W.B b H'->Q x H')->R):R:=by
 obtain ⟨pn,M,b,ρ,P,st,h,k⟩:=h
 exact f pn M b ρ P st h k
def oNo:DO:=fun _ P=>P none
def oPt (de:DE):DO:=fun ρ P=>de ρ fun x=>match x with|.int i=>P (some i)|_=>False
theorem J8j:PO X none (dnO W oNo):=fun pins s σ H Q I hh=>hh.elim fun pn M b ρ P st h k=>J6p pins s σ H Q I (k _ H h (Kp.refl _ _) st.ok)
theorem J8i (h:PE X e (dn W de)):PO X (some e) (dnO W (oPt de)):=fun pins s σ H Q I hh=>hh.elim fun pn M b ρ P st q k=>J6o h pins s σ H Q I (by
 refine ⟨pn,M,b,ρ,_,st,q,fun x v H1 hx rx k1 o1=>?_⟩
 cases x<;>first|exact hx.elim|skip
 cases (show _=_ from rx)
 exact ⟨_,rfl,k _ H1 hx k1 o1⟩)
def LI (xs:List D)(lo hi:Option Int):List D:=(xs.drop (HT.sIx xs.length 0 lo)).take (HT.sIx xs.length xs.length hi - HT.sIx xs.length 0 lo)
theorem Reps.cut {H:Hp}{ds:List D}{vs:List V}(h:Reps K M H ds vs)(lo hi:Option Int):Reps K M H (LI ds lo hi) (TU vs lo hi):=by
 unfold LI TU
 rw [h.length]
 exact Reps.take _ (Reps.drop _ h)
def oSl (x:D)(lo hi:Option Int)(P:D->Prop):Prop:=match x with
 | .tup xs=>¬ (HT.sIx xs.length 0 lo=0/\HT.sIx xs.length xs.length hi=xs.length)/\P (.tup (LI xs lo hi))
 | .lst xs=>P (.lst (LI xs lo hi))
 | .own xs=>P (.lst (LI xs lo hi))
 | _=>False
def dSl (de:DE)(dl dh:DO):DE:=fun ρ P=>de ρ fun x=>dl ρ fun lo=>dh ρ fun hi=>oSl x lo hi P
theorem J6d (K:Fg)(h:X.K=K):SlR X (J1m K):=by subst h;exact Q0y
theorem J0v (K:Fg)(h:X.K=K):SlR X (fun x lo hi H Q=>J1m K x lo hi H Q\/J1n K x lo hi H Q):=(J6d K h).or (YE K h)
theorem J4k {lo hi:Option Expr}{dl dh:DO}{p2:Pos}(hr:SlR X (fun x lo hi H Q=>J1m W.K x lo hi H Q\/J1n W.K x lo hi H Q))(he:PE X e (dn W de))(hl:PO X lo (dnO W dl))(hu:PO X hi (dnO W dh)):PE X (.Subscript e (.Slice lo hi none p2) pos) (dn W (dSl de dl dh)):=(J1v hr he hl hu).mono fun σ H Q hh=>hh.elim fun pn M b ρ P st h k=>by
 refine ⟨pn,M,b,ρ,_,st,h,fun x v H1 hx rx k1 o1=>?_⟩
 refine ⟨pn,M,b,ρ,_,st.step k1 o1,hx,fun lo H2 hy k2 o2=>?_⟩
 refine ⟨pn,M,b,ρ,_,(st.step k1 o1).step k2 o2,hy,fun hi H3 hz k3 o3=>?_⟩
 have s3:=((st.step k1 o1).step k2 o2).step k3 o3
 have rx:=(rx.step st.bagM k2).step st.bagM k3
 have kk:=(k1.trans k2).trans k3
 cases x<;>first|exact hz.elim|skip
 case tup xs =>
  obtain ⟨a,vs,rfl,hh,r⟩:=rx
  refine .inl ⟨a,vs,rfl,hh.sq,by rw [r.length];exact hz.1,fun p hp=>k _ _ _ hz.2 (FP s3.toHs (r.cut lo hi) hp) (kk.trans (Kp.upd hp)) (s3.okU hp)⟩
 case lst xs =>
  obtain ⟨a,vs,rfl,hh,r⟩:=rx
  refine .inr ⟨a,vs,rfl,SqL.of hh.2,fun p hp=>k _ _ _ hz (BN s3.toHs (r.cut lo hi) hp) (kk.trans (Kp.upd hp)) (s3.okU hp)⟩
 case own xs =>
  obtain ⟨a,vs,rfl,_,_,_,_,hh,r⟩:=rx
  refine .inr ⟨a,vs,rfl,SqL.of hh,fun p hp=>k _ _ _ hz (BN s3.toHs (r.cut lo hi) hp) (kk.trans (Kp.upd hp)) (s3.okU hp)⟩
def Q5v:D->D->(D->Prop)->Prop:=fun x y P=>match asL x,asL y with
 | some xs,some ys=>xs.length+ys.length<=1000/\P (.lst (xs++ys))
 | _,_=>False
theorem Q1t:OpD W Q5l Q5v:=by
 intro M b H x y v u P Q hs rx ry ho k
 unfold Q5v at ho
 split at ho
 case h_2=>exact ho.elim
 case h_1 xs ys e1 e2 =>
  obtain ⟨a1,vs,rfl,h1,r1⟩:=asL.rep rx e1
  obtain ⟨a2,us,rfl,h2,r2⟩:=asL.rep ry e2
  exact ⟨a1,a2,vs,us,rfl,rfl,h1,h2,by rw [r1.length,r2.length];exact Nat.le_trans ho.1 Y1,fun p hp=>k _ _ _ ho.2 (BN hs (Reps.append r1 r2) hp) (Kp.upd hp) (hs.okU hp)⟩
theorem Reps.ne {H:Hp}{ds:List D}{vs:List V}(h:Reps K M H ds vs)(n:ds≠[]):vs≠[]:=fun z=>by
 have:=h.length
 rw [z] at this
 exact n (List.length_eq_zero_iff.mp this.symm)
def NZ (K:Fg)(B:BagT)(pre:List D->Prop):Sp:=fun vs H Q _=>∃ (M:Addr->Prop) (b:Option Addr) (ds:List D),RepAs K M b H ds vs/\pre ds/\∀ p H1,H p=none->Same H H1->B.ok p H1->Q (.ref p) H1
def TQ (ρ:Ev):Ev:=ρ.map fun o=>match o with|some .bag=>none|o=>o
def Q6x (i:Nat)(pre:List D->Prop)(dA:DA):DS:=fun F ρ=>dA ρ fun ds=>ds.all GN=true/\pre ds/\F.nx ((TQ ρ).set i (some .bag))
theorem NP {ρ:Ev}{i:Nat}{d:D}(h:(TQ ρ)[i]?=some (some d)):ρ[i]?=some (some d)/\d≠.bag:=by
 unfold TQ at h
 rw [List.getElem?_map] at h
 cases q:ρ[i]? with
 | none=>rw [q] at h;cases h
 | some o =>
   rw [q] at h
   cases o with
   | none=>cases h
   | some d'=>cases d'<;>simp at h<;>subst h<;>exact ⟨rfl,by intro z;cases z⟩
theorem Q2y {spos:Pos}{x f:Str}{k:Nat}{ps:List Str}{pre:List D->Prop}{i:Nat}{pos':Pos}(hb0:W.b0=none)(hN:X.N.Nodup)(hi:X.N[i]?=some x)(hx:Loc X.env.scope x)(G:Callee X.prog X.w X.K X.mg X.base CX0 f k ps (NZ W.K W.B pre))(hr:Room k X.A)(hg:Gl X f)(ha:PA X (e::es) (dnA W dA))
 (hdb:(f==("__debug__" : Str))=false:=by decide) (he:starEach (e::es) X.env=(false,eval e X.env)::starEach es X.env:=by rfl) (hpl:(backTo pos (starEach es X.env)).any (·.1)=false:=by rfl)
 (hs:swapsWith (.Call (.Name f p) (e::es) [] pos) (some (.Name x pos')) spos.line X.env=pure false:=by rfl) (hf:X.fn x=true\/X.env.scope.names.lookup x=some .local:=by first|exact .inl rfl|exact .inr rfl|assumption) :
 PS X (.Assign [.Name x pos'] (.Call (.Name f p) (e::es) [] pos) spos) (sn W (Q6x i pre dA)):=(DR hN hi hx (GJ G hr hg ha hdb he hpl) hs hf).mono fun E σ H hh=>hh.elim fun pn M b ρ F s l h=>by
 refine ⟨pn,M,b,ρ,_,s.toSta,h,fun ds vs H' hx rx k o=>?_⟩
 have s1:=s.step k o
 refine ⟨M,b,ds,by rw [List.append_nil];exact rx.args _ _ hx.1,hx.2.1,fun q H1 hq S ok=>?_⟩
 have rep:∀ d v,Rep W.K M H' d v->Rep W.K (fun c=>M c\/c=q) H1 d v:=fun d v r=>Rep.keep (fun c o _ e=>S c o e) _ _ (Rep.avoid (fun c hc=>hc.imp id fun z=>by rw [z];exact hq) _ _ r)
 have reps:∀ d v,Reps W.K M H' d v->Reps W.K (fun c=>M c\/c=q) H1 d v:=fun d v r=>Reps.keep (fun c o _ e=>S c o e) _ _ (Reps.avoid (fun c hc=>hc.imp id fun z=>by rw [z];exact hq) _ _ r)
 have h0:W.H0 q=none:=by
  cases z:W.H0 q with
  | none=>rfl
  | some o =>
    have:=s1.kp q o (by rw [hb0];intro y;cases y) z
    rw [hq] at this;cases this
 have st1:Sta W pn (fun c=>M c\/c=q) (some q) H1 σ (TQ ρ):=by
  refine ⟨⟨fun p e=>by cases e;exact ok,fun p e=>by cases e;exact .inr rfl,fun c hc=>?_,fun c m=>.inl (s1.m0 c m)⟩,fun c o n e=>S c o (s1.kp c o n e),.inr ⟨hb0,fun p e=>by cases e;exact h0⟩,fun j d e=>?_,by simp [TQ,s.len],fun q' hq'=>(s1.pin q' hq').to rep reps fun xs a vs _ _ m n hh=>⟨.inl m,(fun z=>by cases z;rw [hq] at hh;cases hh),S _ _ hh⟩⟩
  · rcases hc with hc|hc
    · obtain ⟨o,e⟩:=s1.dom c hc;exact ⟨o,S c o e⟩
    · rw [hc];exact W.B.dm q H1 ok
  · obtain ⟨e1,nb⟩:=NP e
    obtain ⟨v,e2,r⟩:=s1.env j d e1
    refine ⟨v,e2,?_⟩
    cases d
    case own xs =>
     obtain ⟨a,us,rfl,m1,m2,m3,m4,hh,r'⟩:=r
     have nq:some q≠some a:=fun z=>by
      cases z
      rw [hq] at hh
      cases hh
     exact ⟨a,us,rfl,.inl m1,nq,m3,m4,S _ _ hh,reps _ _ r'⟩
    case bag=>exact absurd rfl nb
    case frg f _=>exact RepX.move r (fun c _ m n=>⟨.inl m,fun z=>by cases z;exact s1.toHs.new hq m⟩) (fun c o _ e=>S c o e) fun c hc=>hc.imp id fun z=>by rw [z];exact hq
    all_goals exact rep _ _ r
 refine l.nx _ _ _ _ _ (s1.of (st1.set (x:=.bag) (v:=.ref q) i ⟨q,rfl,rfl⟩) fun j xs hm e=>?_) hx.2.2
 by_cases z:i=j
 · subst z
   rw [List.getElem?_set] at e
   simp at e
   rw [<- e.2] at hm;cases hm
 · rw [List.getElem?_set_ne z] at e
   exact ⟨(NP e).1,by rw [List.getElem?_set_ne z]⟩
end
end L2
namespace K
open PySem L2
theorem _root_.L2.Room.m {k n:Nat}{A:Around}(h:Room n A)(e:k<=n:=by decide):Room k A:=h.mono e
theorem Q6e {a b:Int}(hb:b≠0):(a.fmod b).natAbs<b.natAbs:=by
 by_cases h:0<b
 · rw [Int.fmod_eq_emod_of_nonneg a (by omega)]
   have:=Int.emod_nonneg a hb
   have:=Int.emod_lt_of_pos a h
   omega
 · have e:a.fmod b = -((-a).fmod (-b)):=by grind [Int.neg_fmod_neg]
   rw [e,Int.fmod_eq_emod_of_nonneg (-a) (show 0<=-b by omega)]
   have:=Int.emod_nonneg (-a) (show -b≠0 by omega)
   have:=Int.emod_lt_of_pos (-a) (show 0 < -b by omega)
   omega
theorem J4c {a b:Int}:Int.gcd b (a.fmod b)=Int.gcd a b:=by
 rw [Int.gcd_comm a b,Int.fmod_def]
 apply Nat.dvd_antisymm
 · apply Int.dvd_gcd
   · exact Int.gcd_dvd_left ..
   · have h1:((Int.gcd b (a - b*a.fdiv b):Nat):Int) ∣ b:=Int.gcd_dvd_left ..
     have h2:((Int.gcd b (a - b*a.fdiv b):Nat):Int) ∣ a - b*a.fdiv b:=Int.gcd_dvd_right ..
     have h3:=Int.dvd_add h2 (Int.dvd_trans h1 (Int.dvd_mul_right b (a.fdiv b)))
     have e3:a - b*a.fdiv b+b*a.fdiv b=a:=by omega
     rw [e3] at h3
     exact h3
 · apply Int.dvd_gcd
   · exact Int.gcd_dvd_left ..
   · have h1:((Int.gcd b a:Nat):Int) ∣ b:=Int.gcd_dvd_left ..
     have h2:((Int.gcd b a:Nat):Int) ∣ a:=Int.gcd_dvd_right ..
     exact Int.dvd_sub h2 (Int.dvd_trans h1 (Int.dvd_mul_right b (a.fdiv b)))
def IU (ns:List Int):Int:=ns.foldl (fun g n=>((Int.gcd g n:Nat):Int)) 0
theorem NK (ns:List Int)(n:Int):IU (ns++[n])=((Int.gcd (IU ns) n:Nat):Int):=by unfold IU;rw [List.foldl_append];rfl
theorem FS {ns:List Int}{n:Int}(h:n≠0):0<IU (ns++[n])/\IU (ns++[n])<=n.natAbs:=by
 rw [NK]
 have h1:0<Int.gcd (IU ns) n:=Int.gcd_pos_of_ne_zero_right _ h
 have h2:Int.gcd (IU ns) n ∣ n.natAbs:=Int.gcd_dvd_natAbs_right ..
 have h3:=Nat.le_of_dvd (by omega) h2
 omega
def low (ns:List Int)(last:Int):Int:=if last<0 then -IU (ns++[last]) else IU (ns++[last])
theorem J3c {ns:List Int}{n:Int}(h:n≠0):low ns n≠0:=by
 have:=FS (ns:=ns) h
 unfold low
 split<;>omega
theorem Q2b {ns:List Int}{n:Int}(h:n≠0):(low ns n).natAbs<=n.natAbs:=by
 have:=FS (ns:=ns) h
 unfold low
 split<;>omega
theorem Q5z (x y z w:Int):IU ([x,y,z]++[w])=((Nat.gcd (Int.gcd x y) (Int.gcd z w):Nat):Int):=by
 unfold IU Int.gcd
 show ((Nat.gcd (Int.natAbs ((Nat.gcd (Int.natAbs ((Nat.gcd (Int.natAbs ((Nat.gcd (Int.natAbs 0) x.natAbs:Nat):Int)) y.natAbs:Nat):Int)) z.natAbs:Nat):Int)) w.natAbs:Nat):Int)=_
 simp only [Int.natAbs_natCast,Int.natAbs_zero,Nat.gcd_zero_left,Nat.gcd_assoc]
theorem J3d (x y z w:Int):(low [x,y,z] w).natAbs=Nat.gcd (Int.gcd x y) (Int.gcd z w):=by
 unfold low
 split<;>rw [Q5z]<;>omega
theorem J7l {ns:List Int}{n:Int}(h:n≠0):(n<0->low ns n<0)/\(0<n->0<low ns n):=by
 have:=FS (ns:=ns) h
 unfold low
 refine ⟨fun h1=>?_,fun h1=>?_⟩
 · rw [if_pos h1];omega
 · rw [if_neg (by omega)];omega
theorem J3b {x y z w:Int}(h:w≠0):∃ a b c d,x.fdiv (low [x,y,z] w)=a/\y.fdiv (low [x,y,z] w)=b/\z.fdiv (low [x,y,z] w)=c/\w.fdiv (low [x,y,z] w)=d/\0<d/\Nat.gcd (Int.gcd a b) (Int.gcd c d)=1/\(a*w=x*d/\b*w=y*d/\c*w=z*d) /\
 (a.natAbs<=x.natAbs/\b.natAbs<=y.natAbs/\c.natAbs<=z.natAbs/\d.natAbs<=w.natAbs):=by
 have hne:=J3c (ns:=[x,y,z]) h
 have habs:=J3d x y z w
 obtain ⟨s1,s2⟩:=J7l (ns:=[x,y,z]) h
 generalize low [x,y,z] w=L at *
 have g1:Nat.gcd (Int.gcd x y) (Int.gcd z w) ∣ Int.gcd x y:=Nat.gcd_dvd_left ..
 have g2:Nat.gcd (Int.gcd x y) (Int.gcd z w) ∣ Int.gcd z w:=Nat.gcd_dvd_right ..
 have dv:∀ n:Int,L.natAbs ∣ n.natAbs->L ∣ n:=fun n h=>Int.natAbs_dvd_natAbs.mp h
 have d1:L ∣ x:=dv x (by rw [habs];exact Nat.dvd_trans g1 (Nat.gcd_dvd_left ..))
 have d2:L ∣ y:=dv y (by rw [habs];exact Nat.dvd_trans g1 (Nat.gcd_dvd_right ..))
 have d3:L ∣ z:=dv z (by rw [habs];exact Nat.dvd_trans g2 (Nat.gcd_dvd_left ..))
 have d4:L ∣ w:=dv w (by rw [habs];exact Nat.dvd_trans g2 (Nat.gcd_dvd_right ..))
 have e1:=Int.fdiv_mul_cancel d1
 have e2:=Int.fdiv_mul_cancel d2
 have e3:=Int.fdiv_mul_cancel d3
 have e4:=Int.fdiv_mul_cancel d4
 generalize x.fdiv L=a at *
 generalize y.fdiv L=b at *
 generalize z.fdiv L=c at *
 generalize w.fdiv L=d at *
 have bnd:∀ n m:Int,n*L=m->n.natAbs<=m.natAbs:=fun n m e=>by
  rw [<- e,Int.natAbs_mul]
  exact Nat.le_mul_of_pos_right _ (by omega)
 refine ⟨a,b,c,d,rfl,rfl,rfl,rfl,?_,?_,⟨?_,?_,?_⟩,⟨bnd _ _ e1,bnd _ _ e2,bnd _ _ e3,bnd _ _ e4⟩⟩
 · by_cases hd:0<d
   · exact hd
   · rcases Int.lt_or_gt_of_ne h with hw|hw
     · have:=Int.mul_nonneg_of_nonpos_of_nonpos (show d<=0 by omega) (Int.le_of_lt (s1 hw));omega
     · have:=Int.mul_nonpos_of_nonpos_of_nonneg (show d<=0 by omega) (Int.le_of_lt (s2 hw));omega
 · have q1:Int.gcd (a*L) (b*L)=Int.gcd a b*L.natAbs:=Int.gcd_mul_right ..
   have q2:Int.gcd (c*L) (d*L)=Int.gcd c d*L.natAbs:=Int.gcd_mul_right ..
   rw [<- e1,<- e2,<- e3,<- e4,q1,q2,Nat.gcd_mul_right] at habs
   have hp:0<L.natAbs:=by omega
   have:1*L.natAbs=Nat.gcd (Int.gcd a b) (Int.gcd c d)*L.natAbs:=by rw [Nat.one_mul];exact habs
   exact (Nat.eq_of_mul_eq_mul_right hp this).symm
 · rw [<- e1,<- e4];grind
 · rw [<- e2,<- e4];grind
 · rw [<- e3,<- e4];grind
def dot (r s:List Int):Int:=(List.zipWith (· * ·) r s).sum
theorem Bd.sum {n:Nat}:∀ (l:List Int),(∀ x∈l,Bd n x)->l.length<=4->Bd (n+3) l.sum:=by
 intro l h hl
 match l,hl with
 | [],_=>exact Nat.lt_of_lt_of_le (show (0:Nat)<1 by decide) (Nat.one_le_two_pow)
 | [a],_=>have:=h a (by simp);simpa using this.mono (by omega)
 | [a,b],_ =>
   have h1:=(Bd.add (h a (by simp)) (h b (by simp))).mono (n:=n+3) (by omega)
   simpa using h1
 | [a,b,c],_ =>
   have h1:=(Bd.add (h a (by simp)) ((Bd.add (h b (by simp)) (h c (by simp))))).mono (n:=n+3) (by omega)
   simpa using h1
 | [a,b,c,d],_ =>
   have h1:=(Bd.add (h a (by simp)) ((Bd.add (h b (by simp)) (Bd.add (h c (by simp)) (h d (by simp)))))).mono (n:=n+3) (by omega)
   simpa using h1
def Mv (n:Nat)(H:Hp)(m:Addr)(M:List (List Int)):Prop:=∃ ps:List Addr,H m=some (.tup (ps.map V.ref))/\ps.length=4/\M.length=4/\∀ (i:Nat) p r,ps[i]?=some p->M[i]?=some r->H p=some (.tup (r.map V.int))/\r.length=4/\∀ x∈r,Bd n x
theorem Mv.same {n:Nat}{H H':Hp}{m:Addr}{M:List (List Int)}(h:Mv n H m M)(S:Same H H'):Mv n H' m M:=by
 obtain ⟨ps,e,l1,l2,q⟩:=h
 exact ⟨ps,S _ _ e,l1,l2,fun i p r h1 h2=>⟨S _ _ (q i p r h1 h2).1,(q i p r h1 h2).2⟩⟩
theorem Mv.of {n:Nat}{H:Hp}{m p0 p1 p2 p3:Addr}{r0 r1 r2 r3:List Int}(e:H m=some (.tup [.ref p0,.ref p1,.ref p2,.ref p3]))(e0:H p0=some (.tup (r0.map V.int)))(e1:H p1=some (.tup (r1.map V.int)))(e2:H p2=some (.tup (r2.map V.int)))(e3:H p3=some (.tup (r3.map V.int)))
 (l:r0.length=4/\r1.length=4/\r2.length=4/\r3.length=4) (b:∀ x∈r0++r1++r2++r3,Bd n x):Mv n H m [r0,r1,r2,r3]:=by
 refine ⟨[p0,p1,p2,p3],e,rfl,rfl,fun i p r h1 h2=>?_⟩
 match i with
 | 0=>cases h1;cases h2;exact ⟨e0,l.1,fun x hx=>b x (by simp [hx])⟩
 | 1=>cases h1;cases h2;exact ⟨e1,l.2.1,fun x hx=>b x (by simp [hx])⟩
 | 2=>cases h1;cases h2;exact ⟨e2,l.2.2.1,fun x hx=>b x (by simp [hx])⟩
 | 3=>cases h1;cases h2;exact ⟨e3,l.2.2.2,fun x hx=>b x (by simp [hx])⟩
 | i+4=>simp at h1
end K
namespace L2
open PySem PySem.Spec PyProof.Rows
theorem J7f {xs:List D}{i:Int}{P:D->Prop}(h0:0<=i)(h1:i<xs.length)(h:∀ d∈xs,P d):oIx (.lst xs) (.int i) P:=by
 obtain ⟨j,rfl⟩:∃ j:Nat,i=j:=⟨i.toNat,by omega⟩
 have hj:j<xs.length:=by omega
 have e:atI xs (j:Int)=some xs[j]:=JJ (List.getElem?_eq_getElem hj)
 simp only [oIx,e]
 exact h _ (List.getElem_mem hj)
theorem ixm {xs:List D}{i:Int}{P:D->Prop}(h0:0<=i)(h1:i<xs.length)(h:∀ d∈xs,P d):(atI xs i).elim False P:=J7f (P:=P) h0 h1 h
theorem GI {lo:Int}{n i:Nat}{d:D}(h:(BX lo n)[i]?=some d):d=.int (lo+i)/\i<n:=by
 have hi:i<n:=by
  have:=(List.getElem?_eq_some_iff.mp h).1
  simpa [BX] using this
 simp [BX,hi] at h
 exact ⟨h.symm,hi⟩
theorem KD (lo:Int)(n:Nat):(BX lo n).length=n:=by simp [BX]
abbrev sp4 (x y z w:Int):D:=.tup [.int x,.int y,.int z,.int w]
abbrev t3 (x y z:Int):D:=.tup [.int x,.int y,.int z]
abbrev t2 (x y:Int):D:=.tup [.int x,.int y]
theorem LJ {gd:D->Ev->(Ev->Prop)->Prop}{de:DE}{ρc:Ev}{items:List D}{P:List D->Prop}(Pv:Nat->D->Prop)
 (hs:∀ (i:Nat) x (Q:D->Prop),items[i]?=some x->(∀ y,Pv i y->Q y)->gd x ρc fun ρ1=>de ρ1 Q) (hp:∀ i y,Pv i y->plain y=true)
 (hd:∀ acc:List D,acc.length=items.length->(∀ i y,acc[i]?=some y->Pv i y)->P acc):compI gd NQ de ρc items P:=by
 refine ⟨fun i acc=>acc.length=i/\∀ j y,acc[j]?=some y->Pv j y,⟨rfl,fun j y e=>by simp at e⟩,fun i x acc e ⟨hl,ha⟩=>?_,fun acc ⟨hl,ha⟩=>hd acc hl ha⟩
 have:=hs i x (fun y=>plain y=true/\((acc++[y]).length=i+1/\∀ j z,(acc++[y])[j]?=some z->Pv j z)) e fun y hy=>⟨hp i y hy,by simp [hl],fun j z ez=>?_⟩
 · simpa only [NQ,UJ] using this
 · by_cases hj:j<acc.length
   · rw [List.getElem?_append_left hj] at ez
     exact ha j z ez
   · rw [List.getElem?_append_right (by omega)] at ez
     have:j - acc.length=0:=by
      cases q:j - acc.length with
      | zero=>rfl
      | succ m=>rw [q] at ez;simp at ez
     rw [this] at ez
     simp at ez
     subst ez
     have:j=i:=by omega
     subst this
     exact hy
theorem TX {gd:D->Ev->(Ev->Prop)->Prop}{de:DE}{ρc:Ev}{items:List D}{P:List D->Prop}(f:D->D)
 (hs:∀ x (Q:D->Prop),x∈items->Q (f x)->gd x ρc fun ρ1=>de ρ1 Q) (hp:∀ x∈items,plain (f x)=true) (hd:P (items.map f)):compI gd NQ de ρc items P:=by
 refine LJ (fun i y=>∃ x,items[i]?=some x/\y=f x) (fun i x Q e h=>hs x Q (List.mem_of_getElem? e) (h _ ⟨x,e,rfl⟩)) (fun i y ⟨x,e,h⟩=>by rw [h];exact hp x (List.mem_of_getElem? e)) fun acc hl ha=>?_
 have:acc=items.map f:=by
  apply List.ext_getElem?
  intro i
  rw [List.getElem?_map]
  cases q:acc[i]? with
  | none =>
    have:items.length<=i:=by rw [<- hl];exact List.getElem?_eq_none_iff.mp q
    rw [List.getElem?_eq_none_iff.mpr this];rfl
  | some y =>
    obtain ⟨x,e,rfl⟩:=ha i y q
    rw [e];rfl
 rw [this];exact hd
theorem okB.same {B:BagT} {H H':Hp}(o:okB B b H)(S:Same H H'):okB B b H':=fun p e=>B.st p H H' (o p e) fun u h=>S p u h
theorem J9c {α:Type}{l:List α}{x:α}:atI (l++[x]) (-1)=some x:=by
 have e:ixN (l++[x]).length (-1)=some l.length:=by
  unfold ixN
  rw [if_neg (by decide),if_pos (by simp;omega)]
  congr 1
  simp
  omega
 unfold atI
 rw [e]
 simp
structure JE (X:Cx)(W:Wd)(e:Expr)(d:DE):Prop where
 h:PE X e (dn W d)
structure JT (X:Cx)(W:Wd)(e:Expr)(d:DT):Prop where
 h:PT X e (dnT W d)
structure JW (X:Cx)(W:Wd)(e:Expr)(d:DT):Prop where
 h:PW X e (dnT W d)
structure JA (X:Cx)(W:Wd)(es:List Expr)(d:DA):Prop where
 h:PA X es (dnA W d)
structure JO (X:Cx)(W:Wd)(e:Option Expr)(d:DO):Prop where
 h:PO X e (dnO W d)
structure JIf (X:Cx)(W:Wd)(es:List Expr)(d:DT):Prop where
 h:PIf X es (dnT W d)
structure JI (X:Cx)(W:Wd)(fz:Bool)(tg l:Expr)(d:DA):Prop where
 h:PI X tg l (dnI W fz d)
structure JS (X:Cx)(W:Wd)(st:Stmt)(d:DS):Prop where
 h:PS X st (sn W d)
structure JSs (X:Cx)(W:Wd)(st:List Stmt)(d:DS):Prop where
 h:PSs X st (sn W d)
section
variable {X:Cx}{W:Wd}{e a b c:Expr}{es:List Expr}{pos:Pos}{da db dc:DE}{dA:DA}
theorem jdv (i:Nat) {x:Str} {pos:Pos} (hN:X.N[i]?=some x:=by rfl) (hv:Vis X.env.scope x:=by first|exact Or.inl rfl|exact Or.inr (Or.inl rfl)|exact Or.inr (Or.inr rfl)) (hd:(x==("__debug__" : Str))=false:=by decide)
 (hcd:(x==("__classdict__" : Str))=false:=by decide):JE X W (.Name x pos) (ZT i):=⟨dv i hN hv hd hcd⟩
theorem J3 {i j pos}:JE X W (.Constant (.int i) j pos) (dC (.int i)):=⟨Q3j ⟩
theorem KW {i j pos}:JE X W (.Constant (.bool i) j pos) (dC (.bl i)):=⟨Q6k ⟩
theorem TD {x:Str}{T:String}{pos:Pos}(hg:Gl X x)(hm:X.mg x=none)(hv:bootBuiltins x=some (.type T))(hn:x≠"__name__":=by decide) (hd:(x==("__debug__" : Str))=false:=by decide):JE X W (.Name x pos) (dC (.ty T)):=⟨J8p hg hm hv hn hd⟩
theorem V0 {op:Operator}{r:R2}{o:D->D->(D->Prop)->Prop}(ho:OpR X (binaryOp op) r)(hd:OpD W r o)(ha:JE X W a da)(hb:JE X W b db):JE X W (.BinOp a op b pos) (dOp o da db):=⟨Q6i ho hd ha.h hb.h⟩
theorem HD {op:CmpOp}{r:R2}{o:D->D->(D->Prop)->Prop}(ho:OpR X (compareOp op) r)(hd:OpD W r o)(ha:JE X W a da)(hb:JE X W b db)(hm:behindInMarks op b=false):JE X W (.Compare a [op] [b] pos) (dOp o da db):=⟨Q3k ho hd ha.h hb.h hm⟩
theorem Q7 {r:R2}{o:D->D->(D->Prop)->Prop}(hr:IxR X r)(hd:OpD W r o)(ha:JE X W a da)(hb:JE X W b db)(hs:QM b):JE X W (.Subscript a b pos) (dOp o da db):=⟨Q6j hr hd ha.h hb.h hs⟩
theorem EL (ha:JE X W a da):JE X W (.UnaryOp .USub a pos) (dUn Q1u da):=⟨Q3h ha.h⟩
variable {rest:List Expr}
theorem PL {op}(h:JE X W a da):JE X W (.BoolOp op [a] pos) da:=⟨Q3f h.h⟩
theorem JH (ha:JE X W a da)(hb:JE X W (.BoolOp .And (b::rest) pos) db):JE X W (.BoolOp .And (a::b::rest) pos) (Q6y da db):=⟨Q3l ha.h hb.h⟩
theorem J7s (ha:JE X W a da):JE X W (.UnaryOp .Not a pos) (Q6s da):=⟨Q3g ha.h⟩
theorem Z1 {op:CmpOp}{r:R2}{o:D->D->(D->Prop)->Prop}(ho:OpR X (compareOp op) r)(hd:OpD W r o)(ha:JE X W a da)(hb:JE X W b db)(hm:behindInMarks op b=false):JT X W (.Compare a [op] [b] pos) (J4q (dOp o da db)):=⟨Q2u ho hd ha.h hb.h hm⟩
theorem DZ (hK:X.K=W.K)(ha:JE X W a da)(he:∀ whole,isTrue a X.env whole=(do let v <- whole;standAt a.pos;holding [v] (truthy v))):JT X W a (Q6n da):=⟨J4g hK ha.h he⟩
variable {ta tb:DT}
theorem JD (ha:JT X W a ta):JW X W (.BoolOp .Or [a] pos) ta:=⟨Q2s ha.h⟩
theorem Q2g (ha:JT X W a ta)(hb:JW X W (.BoolOp .Or (b::rest) pos) tb):JW X W (.BoolOp .Or (a::b::rest) pos) (J8s ta tb):=⟨J9r ha.h hb.h⟩
theorem JG (ha:JT X W a ta):JT X W (.UnaryOp .Not a pos) (J9t ta):=⟨Q2t ha.h⟩
theorem ZH {op op':CmpOp}{r r':R2}{o o':D->D->(D->Prop)->Prop}(ho:OpR X (compareOp op) r)(ho':OpR X (compareOp op') r')(hd:OpD W r o)(hd':OpD W r' o')(ha:JE X W a da)(hb:JE X W b db)(hc:JE X W c dc)
 (hm:lastMarks [op,op'] [b,c]=false:=by with_unfolding_all rfl):JE X W (.Compare a [op,op'] [b,c] pos) (J4w o o' da db dc):=⟨J4m ho ho' hd hd' ha.h hb.h hc.h hm⟩
theorem J1:JA X W [] J5f:=⟨Q3n ⟩
theorem J0 {dr:DA}(ha:JE X W e da)(hr:JA X W es dr)(hs:starEach (e::es) X.env=(false,eval e X.env)::starEach es X.env:=by rfl):JA X W (e::es) (J5g da dr):=⟨J8r ha.h hr.h hs⟩
theorem V1 {x1}(h:JA X W es dA):JE X W (.Tuple es x1 pos) (Q6m dA):=⟨Q3d h.h⟩
theorem AX (h:JA X W es dA):JE X W (.List es pos) (Q6u dA):=⟨Q3i h.h⟩
end
section
variable {X:Cx}{W:Wd}{e:Expr}{es:List Expr}{pos p:Pos}{dA:DA}{x:Str}{k:Nat}{ps:List Str}{S:DSp}
theorem Q0 (G:Callee X.prog X.w X.K X.mg X.base CX0 x k ps (J7 W.K W.B S))(hr:Room k X.A)(hg:Gl X x)(ha:JA X W (e::es) dA)(hdb:(x==("__debug__" : Str))=false:=by decide) (he:starEach (e::es) X.env=(false,eval e X.env)::starEach es X.env:=by rfl) (hpl:(backTo pos (starEach es X.env)).any (·.1)=false:=by rfl) :
 JE X W (.Call (.Name x p) (e::es) [] pos) (LH S (fun _=>False) dA):=⟨Q3e G hr hg ha.h hdb he hpl⟩
theorem HB {CX:CXT}{E:XK}{Ed:Addr->Prop}(hE:EB W E Ed)(hp:DD CX X E)(G:Callee X.prog X.w X.K X.mg X.base CX x k ps (J7 W.K W.B S))(hr:Room k X.A)(hg:Gl X x)(ha:JA X W (e::es) dA)(hdb:(x==("__debug__" : Str))=false:=by decide) (he:starEach (e::es) X.env=(false,eval e X.env)::starEach es X.env:=by rfl) (hpl:(backTo pos (starEach es X.env)).any (·.1)=false:=by rfl) :
 JE X W (.Call (.Name x p) (e::es) [] pos) (LH S Ed dA):=⟨J8m hE hp G hr hg ha.h hdb he hpl⟩
variable {r:List V->Hp->VK->Prop}{o:List D->(D->Prop)->Prop}{id T:String}
theorem Z9 (hc:BG X (.builtin id) r)(hd:FH W r o)(hg:Gl X x)(hm:X.mg x=none)(hv:bootBuiltins x=some (.builtin id))(ha:JA X W (e::es) dA)(hn:x≠"__name__":=by decide) (hdb:(x==("__debug__" : Str))=false:=by decide)
 (he:starEach (e::es) X.env=(false,eval e X.env)::starEach es X.env:=by rfl) (hpl:(backTo pos (starEach es X.env)).any (·.1)=false:=by rfl):JE X W (.Call (.Name x p) (e::es) [] pos) (dCB o dA):=⟨J4n hc hd hg hm hv ha.h hn hdb he hpl⟩
theorem AB (hc:BG X (.type T) r)(hd:FH W r o)(hg:Gl X x)(hm:X.mg x=none)(hv:bootBuiltins x=some (.type T))(ha:JA X W (e::es) dA)(hn:x≠"__name__":=by decide) (hdb:(x==("__debug__" : Str))=false:=by decide)
 (he:starEach (e::es) X.env=(false,eval e X.env)::starEach es X.env:=by rfl) (hpl:(backTo pos (starEach es X.env)).any (·.1)=false:=by rfl):JE X W (.Call (.Name x p) (e::es) [] pos) (dCB o dA):=⟨ZS hc hd hg hm hv ha.h hn hdb he hpl⟩
end
section
variable {X:Cx}{W:Wd}{tg l a b:Expr}{pos p:Pos}{dl:DE}{dA:DA}{fz:Bool}
theorem Z2 (hK:X.K=W.K)(hl:JE X W l dl):JI X W fz tg l (Q2m fz dl):=⟨Q3b hK hl.h⟩
theorem AZ (hg:Gl X "range") (hm:X.mg "range" = none) (ha:JA X W [a] dA) (hs:starEach [a] X.env=[(false,eval a X.env)]:=by rfl):JI X W fz tg (.Call (.Name "range" p) [a] [] pos) (XA dA):=⟨ZR hg hm ha.h hs⟩
theorem J7r {elts:List Expr}{c1}{tpos:Pos}(hK:X.K=W.K)(t1 t2:Bool)(hg:Gl X "zip") (hm:X.mg "zip" = none) (ha:JA X W [a,b] dA)
 (h:PI X (.Tuple elts c1 tpos) (.Call (.Name "zip" p) [a,b] [] pos) (J3z W.K t1 t2 (dnA W dA))):JI X W fz (.Tuple elts c1 tpos) (.Call (.Name "zip" p) [a,b] [] pos) (J9n fz t1 t2 dA):=⟨Q3a hK t1 t2 hg hm ha.h h⟩
end
section
variable {X:Cx}{W:Wd}{elt iter tg:Expr}{ifs:List Expr}{scope:Scope}{pos:Pos}{N':List Str}{map:List (Option Nat)}{g:TG}{gd:D->Ev->(Ev->Prop)->Prop}{di:DA}{dt:DT}{de:DE}
theorem AI (hG:GD W g gd)(B:Blk X N' scope map tg elt ifs g (dnT W dt) (dn W de))(hi:JI X W false tg iter di)(hs:∀ x,foldedSetIterable iter X.env x=pure x:=by intro _;rfl):JE X W (.ListComp elt [⟨tg,iter,ifs,0⟩] scope pos) (J4v map gd di dt de):=⟨J8n hG B hi.h hs⟩
theorem Y6:JIf X W [] NQ:=⟨J8l ⟩
theorem SY {c:Expr}(hc:JT X W c dt):JIf X W [c] dt:=⟨J8k hc.h⟩
end
section
variable {X:Cx}{W:Wd}{e c tg iter:Expr}{es:List Expr}{pos:Pos}{db de:DE}{dA di:DA}{dt:DT}{st:Stmt}{rest sts:List Stmt}{d1 d2:DS}
theorem AD:JSs X W [] J4t:=⟨J8e ⟩
theorem J8 (h:JS X W st d1):JSs X W [st] d1:=⟨J8d h.h⟩
theorem J5 (h1:JS X W st d1)(h2:JSs X W rest d2):JSs X W (st::rest) (Q3q d1 d2):=⟨J4h h1.h h2.h⟩
theorem Q8 (he:JE X W e de):JS X W (.Return (some e) pos) (Q3s de):=⟨Q2w he.h⟩
theorem AY {s1 s2:List Stmt}(hc:JT X W c dt)(ha:JSs X W s1 d1)(hb:JSs X W s2 d2):JS X W (.If c s1 s2 pos) (Q3u dt d1 d2):=⟨Q6g hc.h ha.h hb.h⟩
theorem V2 {i:Nat} {x:Str} {pos':Pos} (hN:X.N.Nodup) (hi:X.N[i]?=some x) (hx:Loc X.env.scope x) (he:JE X W e de) (hs:swapsWith e (some (.Name x pos')) pos.line X.env=pure false:=by rfl) (hf:X.fn x=true\/X.env.scope.names.lookup x=some .local:=by first|exact .inl rfl|exact .inr rfl|assumption) :
 JS X W (.Assign [.Name x pos'] e pos) (ZU de (gdN i)):=⟨Q2v hN hi hx he.h hs hf⟩
theorem CM {g:TG}{gd:D->Ev->(Ev->Prop)->Prop}(hG:GD W g gd)(he:JE X W e de)(hg:PG X tg g)(hs:swapsWithSole [tg] e pos.line X.env=pure false:=by rfl)(hw:swappedStores [tg] e X.env=pure none:=by rfl)
 (h1:(assignEach [tg] X.env).map (·.2)=[assign tg X.env]:=by rfl):JS X W (.Assign [tg] e pos) (ZU de gd):=⟨Q2z hG he.h hg hs hw h1⟩
theorem SV {i:Nat} {x:Str} {pos' lpos:Pos} (hN:X.N.Nodup) (hi:X.N[i]?=some x) (hx:Loc X.env.scope x) (ha:JA X W es dA) (hs:swapsWith (.List es lpos) (some (.Name x pos')) pos.line X.env=pure false:=by rfl) (hf:X.fn x=true\/X.env.scope.names.lookup x=some .local:=by first|exact .inl rfl|exact .inr rfl|assumption) :
 JS X W (.Assign [.Name x pos'] (.List es lpos) pos) (J9v i dA):=⟨J8h hN hi hx ha.h hs hf⟩
theorem SU {elt iter tg:Expr}{ifs:List Expr}{scope:Scope}{N':List Str}{map:List (Option Nat)}{g:TG}{gd:D->Ev->(Ev->Prop)->Prop}(own:Bool){i:Nat}{y:Str}{py spos:Pos}(hN:X.N.Nodup)(hiN:X.N[i]?=some y)(hy:Loc X.env.scope y)(hG:GD W g gd)(B:Blk X N' scope map tg elt ifs g (dnT W dt) (dn W de))(hi:JI X W false tg iter di)
 (hsw:swapsWith (.ListComp elt [⟨tg,iter,ifs,0⟩] scope pos) (some (.Name y py)) spos.line X.env=pure true:=by rfl) (hfn:X.fn y=true\/X.env.scope.names.lookup y=some .local:=by first|exact .inl rfl|exact .inr rfl)
 (hs:∀ x,foldedSetIterable iter X.env x=pure x:=by intro _;rfl):JS X W (.Assign [.Name y py] (.ListComp elt [⟨tg,iter,ifs,0⟩] scope pos) spos) (J9u own i map gd di dt de):=⟨J8g own hN hiN hy hG B hi.h hsw hfn hs⟩
theorem VJ {i:Nat}{x:Str}{e:Expr}{npos apos cpos:Pos}(hK:X.K=W.K)(hN:X.N[i]?=some x)(hv:Vis X.env.scope x)(ha:JA X W [e] dA)
 (h:PE X (.Call (.Attribute (.Name x npos) "append" apos) [e] [] cpos) (tBM X.K "list" IZ (JN i) (dnA W dA))) (hs:swapsWith (.Call (.Attribute (.Name x npos) "append" apos) [e] [] cpos) none pos.line X.env=pure false:=by rfl) :
 JS X W (.Expr (.Call (.Attribute (.Name x npos) "append" apos) [e] [] cpos) pos) (J8w i dA):=⟨ZP hK hN hv ha.h h hs⟩
theorem DK {g:TG}{gd:D->Ev->(Ev->Prop)->Prop}{db:DS}{body:List Stmt}(hG:GD W g gd)(hp:PassesOwn (model X.prog X.w) X.A X.env X.xe)(hc:X.calm=true)(hi:JI X W true tg iter di)(hg:PG X tg g)(hb:JSs X W body db)
 (hs:∀ x,foldedSetIterable iter X.env x=pure x:=by intro _;rfl):JS X W (.For tg iter body [] pos) (J8t gd di db):=⟨Q2x hG hp hc hi.h hg hb.h hs⟩
theorem ST (i:Nat)(h:JSs X W sts d1):JSs X W sts (Q3v i d1):=⟨J8f i h.h⟩
theorem FQ {E:XK}{Ed:Addr->Prop}{C:Addr}(hE:EB W E Ed)(h:PS X st (fun _ _ H1=>E (.ref C) none H1)):JS X W st (J4r Ed C):=⟨J4i hE h⟩
end
section
variable {X:Cx}{W:Wd}{e:Expr}{es:List Expr}{pos p:Pos}{dl de:DE}{dA:DA}
theorem SX:JO X W none oNo:=⟨J8j ⟩
theorem SW (h:JE X W e de):JO X W (some e) (oPt de):=⟨J8i h.h⟩
theorem NG {lo hi:Option Expr}{dl dh:DO}{p2:Pos}(hr:SlR X (fun x lo hi H Q=>J1m W.K x lo hi H Q\/J1n W.K x lo hi H Q))(he:JE X W e de)(hl:JO X W lo dl)(hu:JO X W hi dh):JE X W (.Subscript e (.Slice lo hi none p2) pos) (dSl de dl dh):=⟨J4k hr he.h hl.h hu.h⟩
theorem J7q {spos:Pos}{x f:Str}{k:Nat}{ps:List Str}{pre:List D->Prop}{i:Nat}{pos':Pos}(hb0:W.b0=none)(hN:X.N.Nodup)(hi:X.N[i]?=some x)(hx:Loc X.env.scope x)(G:Callee X.prog X.w X.K X.mg X.base CX0 f k ps (NZ W.K W.B pre))(hr:Room k X.A)(hg:Gl X f)(ha:JA X W (e::es) dA)
 (hdb:(f==("__debug__" : Str))=false:=by decide) (he:starEach (e::es) X.env=(false,eval e X.env)::starEach es X.env:=by rfl) (hpl:(backTo pos (starEach es X.env)).any (·.1)=false:=by rfl)
 (hs:swapsWith (.Call (.Name f p) (e::es) [] pos) (some (.Name x pos')) spos.line X.env=pure false:=by rfl) (hf:X.fn x=true\/X.env.scope.names.lookup x=some .local:=by first|exact .inl rfl|exact .inr rfl|assumption) :
 JS X W (.Assign [.Name x pos'] (.Call (.Name f p) (e::es) [] pos) spos) (Q6x i pre dA):=⟨Q2y hb0 hN hi hx G hr hg ha.h hdb he hpl hs hf⟩
end
section
variable {X:Cx}{W:Wd}{a b:Expr}{rest:List Expr}{pos:Pos}{ta tb:DT}
theorem PK (ha:JT X W a ta)(hb:JW X W (.BoolOp .Or (b::rest) pos) tb):JT X W (.BoolOp .Or (a::b::rest) pos) (J8s ta tb):=⟨(J9r ha.h hb.h).pt⟩
end
theorem ZN {es:List Expr}{k}{pos:Pos}{env:Env}:∀ x,foldedSetIterable (.Tuple es k pos) env x=pure x:=fun _=>rfl
theorem GQ {X:Cx} {W:Wd} {N':List Str} {scope:Scope} {map:List (Option Nat)} {tg elt:Expr} {ifs:List Expr} {g:TG} {dt:DT} {de:DE} (calm:X.calm=true) (kind:scope.kind=.function) (loc:∀ x∈scope.names,x.2=.local->scope.names.lookup x.1=some .local) (free:(scope.names.all fun p=>!(p.2==NameKind.free)||(X.env.kindOf p.1==some .cell||X.env.kindOf p.1==some .free))=true) (cap:CapOk X scope map N') (keep:FG g map)
 (run:∀ cells C fp s H,PG (J9 X N' scope cells C fp s H) tg g/\JIf (J9 X N' scope cells C fp s H) W ifs dt/\JE (J9 X N' scope cells C fp s H) W elt de):Blk X N' scope map tg elt ifs g (dnT W dt) (dn W de) :=
 ⟨calm,kind,loc,free,cap,keep,fun cells C fp s H _=>⟨(run cells C fp s H).1,(run cells C fp s H).2.1.h,(run cells C fp s H).2.2.h⟩⟩
theorem Fun.okD {P:Program}{w:World} {mg:Str->Option Value}{base:Heap}{x qual:Str}{st:Stmt}{f:Addr} {N ps:List Str}{k:Nat}{B:BagT}{Sd:DSp}(F:Fun K x qual st f fd)(S:FnScope N ps (J4 st))(len:∀ ds PP Ed,Sd ds PP Ed->ds.length=ps.length)
 (hbody:∀ (cdv:Value) (A:Around) (outer:List Env) (s:Shared) (H:Hp) (E:XK) (M:Addr->Prop) (bg:Option Addr) (ds:List D) (PP:D->Prop) (Ed:Addr->Prop),Room k (A.deeper (envOfC qual (J4 st) s.heap.objs.size f cdv))->Sd ds PP Ed ->
  ∃ d,JSs (AJ CX0 P w K mg base N qual (J4 st) f cdv A outer s H E).nox ⟨K,B,H,M,bg⟩ (AO st) d/\d { nx:=fun _=>PP .non,rt:=PP } (AE N ds)):FnOk P w K mg base CX0 (k+1) f fd ps (J7 K B Sd) :=
 F.ok S (J7.len len) fun cdv A outer s H vs Q E hr h=>by
  obtain ⟨M,bg,ds,PP,Ed,hS,hR,ho,hb,hd,hq,hx⟩:=h
  obtain ⟨d,J,q⟩:=hbody cdv A outer s H E M bg ds PP Ed hr hS
  exact ⟨_,J.h,run hR ho hb hd hq q⟩
theorem Fun.okDX {P:Program}{w:World} {mg:Str->Option Value}{base:Heap}{CX:CXT}{x qual:Str}{st:Stmt}{f:Addr} {N ps:List Str}{k:Nat}{B:BagT}{Sd:DSp}(F:Fun K x qual st f fd)(S:FnScope N ps (J4 st))(len:∀ ds PP Ed,Sd ds PP Ed->ds.length=ps.length)
 (hbody:∀ (cdv:Value) (A:Around) (outer:List Env) (s:Shared) (H:Hp) (E:XK) (M:Addr->Prop) (bg:Option Addr) (ds:List D) (PP:D->Prop) (Ed:Addr->Prop),Room k (A.deeper (envOfC qual (J4 st) s.heap.objs.size f cdv))->EB ⟨K,B,H,M,bg⟩ E Ed->Sd ds PP Ed ->
  ∃ d,JSs (AJ CX P w K mg base N qual (J4 st) f cdv A outer s H E) ⟨K,B,H,M,bg⟩ (AO st) d/\d { nx:=fun _=>PP .non,rt:=PP } (AE N ds)):FnOk P w K mg base CX (k+1) f fd ps (J7 K B Sd) :=
 F.okX S (J7.len len) fun cdv A outer s H vs Q E hr h=>by
  obtain ⟨M,bg,ds,PP,Ed,hS,hR,ho,hb,hd,hq,hx⟩:=h
  obtain ⟨d,J,q⟩:=hbody cdv A outer s H E M bg ds PP Ed hr (fun C H' e k o=>hx C H' e k o) hS
  exact ⟨_,J.h,run hR ho hb hd hq q⟩
theorem Fun.okL {P:Program}{w:World} {mg:Str->Option Value}{base:Heap}{x qual:Str}{st:Stmt}{f:Addr} {N:List Str}{p:Str}{k:Nat}(B:BagT)(F:Fun K x qual st f fd)(S:FnScope N [p] (J4 st))
 (hbody:∀ (cdv:Value) (A:Around) (outer:List Env) (s:Shared) (H:Hp) (E:XK) (ns:List Int),Room k (A.deeper (envOfC qual (J4 st) s.heap.objs.size f cdv))->ns.length<=63 ->
  ∃ d,JSs (AJ CX0 P w K mg base N qual (J4 st) f cdv A outer s H E).nox ⟨K,B,H,fun _=>False,none⟩ (AO st) d/\d { nx:=fun _=>D.non=.bl true,rt:=fun d=>d=.bl true } (AE N [.scr ns])) :
 FnOk P w K mg base CX0 (k+1) f fd [p] (fun vs H Q _=>∃ (a:Addr) (ns:List Int),vs=[.ref a]/\SqL K H a (ns.map V.int)/\ns.length<=63/\∀ H',Q (.bl true) H') :=
 F.ok S (fun vs H Q E h=>by obtain ⟨a,ns,rfl,_⟩:=h;rfl) fun cdv A outer s H vs Q E hr h=>by
  obtain ⟨a,ns,rfl,hS,hlen,k⟩:=h
  have hR:RepAs K (fun _=>False) none H [.scr ns] [.ref a]:=⟨.ref a,[],rfl,⟨a,rfl,hS.imp (fun q=>⟨id,q⟩) id⟩,rfl⟩
  obtain ⟨d,J,q⟩:=hbody cdv A outer s H E ns hr hlen
  exact ⟨_,J.h,run (P:=fun d=>d=.bl true) hR (fun p e=>by cases e) (fun p e=>by cases e) (fun c m=>m.elim) (fun d v H' hd r _ _=>by cases hd;cases (show _=_ from r);exact k H') q⟩
mutual
def Y5:D->Option PyData
 | .non=>some .none
 | .bl b=>some (.bool b)
 | .int i=>some (.int i)
 | .str x=>if PyData.strOk x then some (.str x) else none
 | .tup xs=>(CF xs).map .tuple
 | .lst xs=>(CF xs).map .list
 | .own xs=>(CF xs).map .list
 | .ty _=>none
 | .adr _=>none
 | .bag=>none
 | .frg _ d=>Y5 d
 | .scr _=>none
 | .dct _ _ _=>none
def CF:List D->Option (List PyData)
 | []=>some []
 | d::ds=>(Y5 d).bind fun p=>(CF ds).map (p::·)
end
mutual
theorem Y5.lay:∀ (d:D) (p:PyData),Y5 d=some p->p.canLay0=true
 | .non,p,h=>by cases h;rfl
 | .bl b,p,h=>by cases h;rfl
 | .int i,p,h=>by cases h;rfl
 | .str x,p,h=>by
   unfold Y5 at h
   split at h
   · cases h;unfold PyData.canLay0;assumption
   · cases h
 | .tup xs,p,h=>by
   unfold Y5 at h
   obtain ⟨ps,e,rfl⟩:=Option.map_eq_some_iff.mp h
   unfold PyData.canLay0
   exact CF.lay xs ps e
 | .lst xs,p,h=>by
   unfold Y5 at h
   obtain ⟨ps,e,rfl⟩:=Option.map_eq_some_iff.mp h
   unfold PyData.canLay0
   exact CF.lay xs ps e
 | .own xs,p,h=>by
   unfold Y5 at h
   obtain ⟨ps,e,rfl⟩:=Option.map_eq_some_iff.mp h
   unfold PyData.canLay0
   exact CF.lay xs ps e
 | .ty _,p,h=>by unfold Y5 at h;cases h
 | .adr _,p,h=>by unfold Y5 at h;cases h
 | .bag,p,h=>by unfold Y5 at h;cases h
 | .frg _ d,p,h=>by unfold Y5 at h;exact Y5.lay d p h
 | .scr _,p,h=>by unfold Y5 at h;cases h
 | .dct _ _ _,p,h=>by unfold Y5 at h;cases h
theorem CF.lay:∀ (ds:List D) (ps:List PyData),CF ds=some ps->PyData.canLayAll0 ps=true
 | [],ps,h=>by cases h;rfl
 | d::ds,ps,h=>by
   unfold CF at h
   obtain ⟨p,e1,h⟩:=Option.bind_eq_some_iff.mp h
   obtain ⟨qs,e2,rfl⟩:=Option.map_eq_some_iff.mp h
   unfold PyData.canLayAll0
   rw [Y5.lay d p e1,CF.lay ds qs e2];rfl
end
section
variable {X:Cx}{pins:List (Addr×Obj)}{σ:St}{H:Hp}{s:Shared}{M:Addr->Prop}
mutual
theorem HN (I:Inv X pins σ H s):∀ (d:D) (v:V) (u:Value) (p:PyData),Rep X.K M H d v->RelV v u->Y5 d=some p->∃ as,Reads s.heap u p as
 | .non,v,u,p,r,q,h=>by cases h;cases (show _=_ from r);cases (show u=Value.none from q);exact ⟨_,.none⟩
 | .bl b,v,u,p,r,q,h=>by cases h;cases (show _=_ from r);cases (show u=Value.bool b from q);exact ⟨_,.bool _⟩
 | .int i,v,u,p,r,q,h=>by
   cases h;cases (show _=_ from r)
   obtain ⟨t,rfl⟩:=(show ∃ t,u=Value.int i t from q)
   exact ⟨_,.int _ _⟩
 | .str x,v,u,p,r,q,h=>by
   unfold Y5 at h
   split at h
   · cases h;cases (show _=_ from r)
     obtain ⟨t,rfl⟩:=(show ∃ t,u=Value.str x t from q)
     exact ⟨_,.str _ _⟩
   · cases h
 | .tup xs,v,u,p,r,q,h=>by
   unfold Y5 at h
   obtain ⟨ps,e,rfl⟩:=Option.map_eq_some_iff.mp h
   obtain ⟨a,vs,rfl,z,rs⟩:=r
   cases (show u=Value.ref a from q)
   obtain ⟨its,r1,⟨o,h1,h2,n,h3⟩,_⟩:=I.tuple z.sq
   obtain ⟨as,ra⟩:=EF I xs vs its ps rs r1 e
   exact ⟨as,.tuple h1 h2 h3 (by simpa using ra)⟩
 | .lst xs,v,u,p,r,q,h=>by
   unfold Y5 at h
   obtain ⟨ps,e,rfl⟩:=Option.map_eq_some_iff.mp h
   obtain ⟨a,vs,rfl,z,rs⟩:=r
   cases (show u=Value.ref a from q)
   obtain ⟨its,r1,⟨o,n,h1,h2,_,h3⟩,_⟩:=I.list (SqL.of z.2)
   obtain ⟨as,ra⟩:=EF I xs vs its ps rs r1 e
   exact ⟨a::as,.list h1 h2 h3 (by simpa using ra)⟩
 | .own xs,v,u,p,r,q,h=>r.elim
 | .ty _,_,_,p,_,_,h=>by unfold Y5 at h;cases h
 | .adr _,_,_,p,_,_,h=>by unfold Y5 at h;cases h
 | .bag,_,_,p,_,_,h=>by unfold Y5 at h;cases h
 | .frg _ _,_,_,p,r,_,h=>r.elim
 | .scr _,_,_,p,_,_,h=>by unfold Y5 at h;cases h
 | .dct _ _ _,_,_,p,_,_,h=>by unfold Y5 at h;cases h
theorem EF (I:Inv X pins σ H s):∀ (ds:List D) (vs:List V) (us:List Value) (ps:List PyData),Reps X.K M H ds vs->Vals vs us->CF ds=some ps->∃ as,ReadsAll s.heap us ps as
 | [],vs,us,ps,r,q,h=>by
   cases h
   cases (show vs=[] from r)
   cases q
   exact ⟨[],.nil⟩
 | d::ds,vs,us,ps,r,q,h=>by
   unfold CF at h
   obtain ⟨p,e1,h⟩:=Option.bind_eq_some_iff.mp h
   obtain ⟨qs,e2,rfl⟩:=Option.map_eq_some_iff.mp h
   obtain ⟨v,rv,rfl,r1,r2⟩:=r
   cases q with
   | cons q1 q2 =>
     obtain ⟨as,a1⟩:=HN I d v _ p r1 q1 e1
     obtain ⟨bs,a2⟩:=EF I ds rv _ qs r2 q2 e2
     exact ⟨as++bs,.cons a1 a2⟩
end
end
def J9f (K:Fg)(M:Addr->Prop)(H:Hp):D->V->Prop
 | .own xs,v=>∃ a vs,v=.ref a/\H a=some (.lst vs)/\Reps K M H xs vs
 | .frg _ d,v=>∃ M',Rep K M' H d v
 | d,v=>Rep K M H d v
theorem RepX.g {W:Wd} {H:Hp}{d:D}{v:V}{p:PyData}(h:RepX W M b H d v)(e:Y5 d=some p):J9f W.K M H d v:=by
 cases d
 case own xs=>obtain ⟨a,vs,rfl,_,_,_,_,hh,r⟩:=h;exact ⟨a,vs,rfl,hh,r⟩
 case bag=>unfold Y5 at e;cases e
 case frg f d=>exact ⟨_,h.2.2⟩
 all_goals exact h
theorem EG {X:Cx}{pins:List (Addr×Obj)}{σ:St}{H:Hp}{s:Shared} (I:Inv X pins σ H s){d:D}{v:V}{u:Value}{p:PyData}(r:J9f X.K M H d v)(q:RelV v u)(h:Y5 d=some p):∃ as,Reads s.heap u p as:=by
 cases d
 case own xs =>
  obtain ⟨a,vs,rfl,hh,r⟩:=r
  unfold Y5 at h
  obtain ⟨ps,e,rfl⟩:=Option.map_eq_some_iff.mp h
  cases (show u=Value.ref a from q)
  obtain ⟨its,r1,⟨o,n,h1,h2,_,h3⟩,_⟩:=I.list (SqL.of hh)
  obtain ⟨as,ra⟩:=EF I xs vs its ps r r1 e
  exact ⟨a::as,.list h1 h2 h3 (by simpa using ra)⟩
 case frg f d =>
  obtain ⟨M',r⟩:=r
  exact HN (M:=M') I d _ _ _ r q (by unfold Y5 at h;exact h)
 all_goals exact HN I _ _ _ _ r q h
def Q1e (K:Fg)(neg:Bool):R2:=fun x y H Q=>∃ M dx dy p q,J9f K M H dx x/\J9f K M H dy y/\Y5 dx=some p/\Y5 dy=some q/\min p.depth q.depth<=60/\Q (.bl (PyData.eqv p q != neg)) H
theorem J2j {X:Cx}(K:Fg)(hK:X.K=K)(hu:X.A.units+64<cLine):OpR X (compareOp .Eq) (Q1e K false):=by
 subst hK
 intro pins s σ H x y v u Q I rx ry h
 obtain ⟨M,dx,dy,p,q,r1,r2,e1,e2,hd,hq⟩:=h
 obtain ⟨as,a1⟩:=EG I r1 rx e1
 obtain ⟨bs,a2⟩:=EG I r2 ry e2
 refine SeqAt.compareEq_reads a1 a2 (Y5.lay _ _ e1) (Y5.lay _ _ e2) (by omega) ?_
 exact ⟨.bl _,H,I,rfl,by simpa using hq⟩
theorem J2e {X:Cx}(K:Fg)(hK:X.K=K)(hu:X.A.units+64<cLine):OpR X (compareOp .NotEq) (Q1e K true):=by
 subst hK
 intro pins s σ H x y v u Q I rx ry h
 obtain ⟨M,dx,dy,p,q,r1,r2,e1,e2,hd,hq⟩:=h
 obtain ⟨as,a1⟩:=EG I r1 rx e1
 obtain ⟨bs,a2⟩:=EG I r2 ry e2
 refine SeqAt.compareNe_reads a1 a2 (Y5.lay _ _ e1) (Y5.lay _ _ e2) (by omega) ?_
 exact ⟨.bl _,H,I,rfl,by simpa using hq⟩
inductive EqG (neg:Bool)(x y:D)(P:D->Prop):Prop
 | mk (p q:PyData) (e1:Y5 x=some p) (e2:Y5 y=some q) (hd:min p.depth q.depth<=60) (h:P (.bl (PyData.eqv p q != neg))):EqG neg x y P
def Q7w (neg:Bool):D->D->(D->Prop)->Prop:=fun x y P=>EqG neg x y P
theorem PH {W:Wd}{neg:Bool}:OpD W (Q1e W.K neg) (Q7w neg):=by
 intro M b H x y v u P Q hs rx ry ho k
 obtain ⟨p,q,e1,e2,hd,hp⟩:=ho
 exact ⟨M,x,y,p,q,rx.g e1,ry.g e2,e1,e2,hd,k _ _ H hp (show _=_ from rfl) (Kp.refl _ _) hs.ok⟩
mutual
def BE:Nat->D->Bool
 | _,.non=>true
 | _,.bl _=>true
 | _,.int _=>true
 | _,.str x=>PyData.strOk x
 | n+1,.tup xs=>DB n xs
 | n+1,.lst xs=>DB n xs
 | n+1,.own xs=>DB n xs
 | n,.frg _ d=>BE n d
 | _,_=>false
def DB:Nat->List D->Bool
 | _,[]=>true
 | n,d::ds=>BE n d&&DB n ds
end
mutual
theorem PN:∀ (n:Nat) (d:D),BE n d=true->∃ p,Y5 d=some p/\p.depth<=n/\PyData.eqv p p=true
 | n,.non,h=>⟨_,rfl,Nat.zero_le _,rfl⟩
 | n,.bl b,h=>⟨_,rfl,Nat.zero_le _,by simp [PyData.eqv]⟩
 | n,.int i,h=>⟨_,rfl,Nat.zero_le _,by simp [PyData.eqv]⟩
 | n,.str x,h=>by
   have h:PyData.strOk x=true:=by cases n<;>simpa [BE] using h
   exact ⟨.str x,by unfold Y5;rw [if_pos h],Nat.zero_le _,by simp [PyData.eqv]⟩
 | 0,.tup xs,h=>by simp [BE] at h
 | 0,.lst xs,h=>by simp [BE] at h
 | 0,.own xs,h=>by simp [BE] at h
 | n+1,.tup xs,h=>by
   obtain ⟨ps,e,hd,hq⟩:=FD n xs (by simpa [BE] using h)
   exact ⟨.tuple ps,by unfold Y5;rw [e];rfl,by unfold PyData.depth;omega,by unfold PyData.eqv;exact hq⟩
 | n+1,.lst xs,h=>by
   obtain ⟨ps,e,hd,hq⟩:=FD n xs (by simpa [BE] using h)
   exact ⟨.list ps,by unfold Y5;rw [e];rfl,by unfold PyData.depth;omega,by unfold PyData.eqv;exact hq⟩
 | n+1,.own xs,h=>by
   obtain ⟨ps,e,hd,hq⟩:=FD n xs (by simpa [BE] using h)
   exact ⟨.list ps,by unfold Y5;rw [e];rfl,by unfold PyData.depth;omega,by unfold PyData.eqv;exact hq⟩
 | n,.ty _,h=>by cases n<;>simp [BE] at h
 | n,.adr _,h=>by cases n<;>simp [BE] at h
 | n,.bag,h=>by cases n<;>simp [BE] at h
 | n,.frg _ d,h=>by
   obtain ⟨p,e,h1,h2⟩:=PN n d (by cases n<;>simpa [BE] using h)
   exact ⟨p,by unfold Y5;exact e,h1,h2⟩
 | n,.scr _,h=>by cases n<;>simp [BE] at h
 | n,.dct _ _ _,h=>by cases n<;>simp [BE] at h
theorem FD:∀ (n:Nat) (ds:List D),DB n ds=true->∃ ps,CF ds=some ps/\PyData.depthAll ps<=n/\PyData.eqvAll ps ps=true
 | n,[],h=>⟨[],rfl,Nat.zero_le _,rfl⟩
 | n,d::ds,h=>by
   unfold DB at h
   obtain ⟨h1,h2⟩:=(Bool.and_eq_true _ _).mp h
   obtain ⟨p,e1,d1,q1⟩:=PN n d h1
   obtain ⟨ps,e2,d2,q2⟩:=FD n ds h2
   exact ⟨p::ps,by unfold CF;rw [e1,e2];rfl,by unfold PyData.depthAll;omega,by unfold PyData.eqvAll;rw [q1,q2];rfl⟩
end
theorem TL {x y:D}{neg:Bool}{P:D->Prop}(n:Nat)(h:BE n x=true)(e:Y5 y=Y5 x)(hn:n<=60)(hp:P (.bl (!neg))):EqG neg x y P:=by
 obtain ⟨p,e1,d1,q1⟩:=PN n x h
 refine ⟨p,p,e1,e.trans e1,by omega,?_⟩
 rw [q1]
 simpa using hp
theorem J4l {X:Cx}{W:Wd}{x:Str}{d:D}{pos:Pos}(hg:Gl X x)(hm:∃ a,X.mg x=some (.ref a)/\∀ M H,Rep W.K M H d (.ref a))(hd:(x==("__debug__" : Str))=false:=by decide):PE X (.Name x pos) (dn W (dC d)):=by
 obtain ⟨a,h,r⟩:=hm
 exact J8o (J1w hg h hd) r
theorem HW {X:Cx}{W:Wd}{x:Str}{d:D}{pos:Pos}(hg:Gl X x)(hm:∃ a,X.mg x=some (.ref a)/\∀ M H,Rep W.K M H d (.ref a))(hd:(x==("__debug__" : Str))=false:=by decide):JE X W (.Name x pos) (dC d):=⟨J4l hg hm hd⟩
theorem J3q {X:Cx}{W:Wd}{x:Str}{k:Nat}{ps:List Str}{S:DSp}{p pos:Pos}(G:Callee X.prog X.w X.K X.mg X.base CX0 x k ps (J7 W.K W.B S))(hr:Room k X.A)(hg:Gl X x)(hdb:(x==("__debug__" : Str))=false:=by decide):JE X W (.Call (.Name x p) [] [] pos) (LH S (fun _=>False) J5f) :=
 ⟨(J6v G hr hg hdb).mono fun σ H Q hh=>by
   have:=OE (W:=W) (S:=S) (dA:=J5f) FE σ H Q hh
   obtain ⟨pn,M,b,ρ,P,st,h,k⟩:=this
   exact k [] [] H h (show _=_ from rfl) (Kp.refl _ _) st.ok⟩
section
variable {e:Expr}{p:Pos}{d:DE}{x:Str}{ps:List Str}
def bor:D->D
 | .own xs=>.lst xs
 | .frg _ d=>d
 | d=>d
theorem J8b {xs:List D}{neg:Bool}{P:D->Prop}(n:Nat)(h:DB n xs=true)(hp:P (.bl (xs.isEmpty != neg))):EqG neg (.own xs) (.lst []) P:=by
 obtain ⟨ps,e,hd,hq⟩:=FD n xs h
 refine ⟨.list ps,.list [],by unfold Y5;rw [e];rfl,rfl,Nat.le_trans (Nat.min_le_right _ _) (by decide),?_⟩
 have:PyData.eqv (.list ps) (.list [])=xs.isEmpty:=by
  cases xs with
  | nil=>cases e;rfl
  | cons x xs =>
    unfold CF at e
    obtain ⟨p,e1,e⟩:=Option.bind_eq_some_iff.mp e
    obtain ⟨qs,e2,rfl⟩:=Option.map_eq_some_iff.mp e
    rfl
 rw [this]
 exact hp
end
abbrev DSO:=List D->(List D->Prop)->(Addr->Prop)->Prop
def Y9 (K:Fg)(B:BagT)(S:DSO):Sp:=fun vs H Q E=>∃ (M:Addr->Prop) (b:Option Addr) (ds:List D) (P:List D->Prop) (Ed:Addr->Prop),S ds P Ed/\RepAs K M b H ds vs/\okB B b H/\(∀ p,b=some p->M p)/\(∀ c,M c->∃ o,H c=some o) /\
 (∀ xs a us H',P xs->H a=none->H' a=some (.lst us)->Reps K (fun c=>M c\/c=a) H' xs us->Kp b H H'->okB B b H'->Q (.ref a) H')/\∀ C H',Ed C->Kp b H H'->okB B b H'->E (.ref C) none H'
theorem Y9.len {B:BagT}{S:DSO}{n:Nat}(h:∀ ds P Ed,S ds P Ed->ds.length=n):∀ vs H Q E,Y9 K B S vs H Q E->vs.length=n:=fun vs H Q E ⟨M,b,ds,P,Ed,hS,hr,_⟩=>by rw [hr.length];exact h _ _ _ hS
theorem Q5h {B:BagT} {N:List Str}{ds:List D}{vs:List V}{H:Hp}{Q:VK}{P:List D->Prop}{d:DS}(hr:RepAs K M b H ds vs)(ho:okB B b H)(hb:∀ p,b=some p->M p)(hd:∀ c,M c->∃ o,H c=some o)(hq:∀ xs a us H',P xs->H a=none->H' a=some (.lst us)->Reps K (fun c=>M c\/c=a) H' xs us->Kp b H H'->okB B b H'->Q (.ref a) H')
 (h:d { nx:=fun _=>False,rt:=fun _=>False,ro:=P } (AE N ds)):sn ⟨K,B,H,M,b⟩ d { nx:=fun _ H'=>Q .non H',rt:=Q } (DF N vs) H :=
 ⟨[],M,b,AE N ds,{ nx:=fun _=>False,rt:=fun _=>False,ro:=P },J4e hr ho hb hd,⟨fun _ _ _ _ _ _ h=>h.elim,fun _ _ _ h=>h.elim,fun _ _ _ _ _ _ h=>h.elim,fun _ _ _ _ _ _ h=>h.elim,fun xs a us H' hp h0 _ hh r k o=>hq xs a us H' hp h0 hh r k o⟩,h⟩
theorem Fun.okDO {P:Program}{w:World} {mg:Str->Option Value}{base:Heap}{x qual:Str}{st:Stmt}{f:Addr} {N ps:List Str}{k:Nat}{B:BagT}{Sd:DSO}(F:Fun K x qual st f fd)(S:FnScope N ps (J4 st))(len:∀ ds PP Ed,Sd ds PP Ed->ds.length=ps.length)
 (hbody:∀ (cdv:Value) (A:Around) (outer:List Env) (s:Shared) (H:Hp) (E:XK) (M:Addr->Prop) (bg:Option Addr) (ds:List D) (PP:List D->Prop) (Ed:Addr->Prop),Room k (A.deeper (envOfC qual (J4 st) s.heap.objs.size f cdv))->Sd ds PP Ed ->
  ∃ d,JSs (AJ CX0 P w K mg base N qual (J4 st) f cdv A outer s H E).nox ⟨K,B,H,M,bg⟩ (AO st) d/\d { nx:=fun _=>False,rt:=fun _=>False,ro:=PP } (AE N ds)):FnOk P w K mg base CX0 (k+1) f fd ps (Y9 K B Sd) :=
 F.ok S (Y9.len len) fun cdv A outer s H vs Q E hr h=>by
  obtain ⟨M,bg,ds,PP,Ed,hS,hR,ho,hb,hd,hq,hx⟩:=h
  obtain ⟨d,J,q⟩:=hbody cdv A outer s H E M bg ds PP Ed hr hS
  exact ⟨_,J.h,Q5h hR ho hb hd hq q⟩
section
variable {X:Cx}{W:Wd}{e a b c tg iter l:Expr}{es:List Expr}{pos p:Pos}{d de:DE}{dA di:DA}{dt:DT}{x:Str}{k:Nat}{ps:List Str}{S:DSO}
theorem Sta.fresh0 {pn:List (D×V)} {b:Option Addr}{H:Hp}{σ:St}{ρ:Ev}{p:Addr}(s:Sta W pn M b H σ ρ)(h:H p=none):W.H0 p=none/\¬ W.M0 p:=by
 have hbp:b≠some p:=fun z=>by
  obtain ⟨o,e⟩:=W.B.dm p H (s.ok p z)
  rw [h] at e;cases e
 refine ⟨?_,fun z=>s.toHs.new h (s.m0 p z)⟩
 cases q:W.H0 p with
 | none=>rfl
 | some o =>
   by_cases z:W.b0=some p
   · rcases s.new with y|⟨y,_⟩
     · exact absurd (y.trans z) hbp
     · rw [y] at z;cases z
   · have:=s.kp p o z q
     rw [h] at this;cases this
theorem J6i {pn:List (D×V)} {b:Option Addr}{H:Hp}{σ:St}{ρ:Ev}{p:Addr}{E:Ends}{F:DEnds}{xs:List D}{vs:List V}(s:Sta W pn M b H σ ρ)(l:Link W pn E F)(h:H p=none)(r:Reps W.K M H xs vs)(hx:F.ro xs):E.rt (.ref p) (upd H p (.lst vs)):=by
 obtain ⟨h0,m0⟩:=s.fresh0 h
 have s':=s.step (Kp.upd (o:=HO.lst vs) h) (s.toHs.okU h)
 exact l.ro xs p vs _ hx h0 m0 Q5 (Reps.keep (fun c o _ e=>Same.upd h c o e) _ _ (Reps.avoid (fun c z=>z.elim (fun y=>.inl (s.m0 c y)) fun y=>.inr (by rw [y];exact h)) _ _ r)) s'.kp s'.ok0
def Q6r (map:List (Option Nat))(gd:D->Ev->(Ev->Prop)->Prop)(di:DA)(dt:DT)(de:DE):DS:=fun F ρ=>di ρ fun items=>items.length<=1000/\compI gd dt de (ES ρ map) items fun acc=>F.ro acc
theorem J3k {elt iter tg:Expr}{ifs:List Expr}{scope:Scope}{N':List Str}{map:List (Option Nat)}{g:TG}{gd:D->Ev->(Ev->Prop)->Prop}{cpos:Pos}(hG:GD W g gd)(B:Blk X N' scope map tg elt ifs g (dnT W dt) (dn W de))(hi:JI X W false tg iter di)
 (hs:∀ x,foldedSetIterable iter X.env x=pure x:=by intro _;rfl):JS X W (.Return (some (.ListComp elt [⟨tg,iter,ifs,0⟩] scope cpos)) pos) (Q6r map gd di dt de):=⟨(CU (OX B hi.h hs)).mono fun E σ H hh=>hh.elim fun pn M b ρ F s l h=>by
 refine ⟨pn,M,b,ρ,_,s.toSta,h,fun items J need H1 hx hp hI hn k1 o1=>?_⟩
 have s1:=s.step k1 o1
 refine EM hG (s1.toSta.capt map) hp hI (fun q hq=>(hn q hq).1) hx.1 hx.2 fun ds acc H' hP r hl k2 o2 q hq=>?_
 exact J6i (s1.step k2 o2).toSta l hq r hP⟩
mutual
def noL:D->Bool
 | .tup xs=>EK xs
 | .lst _=>false
 | .own _=>false
 | .bag=>false
 | .frg _ _=>false
 | .scr _=>false
 | .dct _ _ _=>false
 | .non=>true
 | .bl _=>true
 | .int _=>true
 | .str _=>true
 | .ty _=>true
 | .adr _=>true
def EK:List D->Bool
 | []=>true
 | d::ds=>noL d&&EK ds
end
theorem noLs_all:∀ {ds:List D},(∀ d∈ds,noL d=true)->EK ds=true
 | [],_=>by unfold EK;rfl
 | d::ds,h=>by
   unfold EK
   rw [h d (List.mem_cons_self ..),noLs_all fun e he=>h e (List.mem_cons_of_mem _ he)];rfl
section
variable {K:Fg}{M M':Addr->Prop}{H:Hp}
mutual
theorem Rep.unbor (k:∀ c,M c->M' c\/∃ o,H c=some o/\∀ vs,o≠.tup vs):∀ (d:D) (v:V),noL d=true->Rep K M' H d v->Rep K M H d v
 | .non,_,_,h=>h
 | .bl _,_,_,h=>h
 | .int _,_,_,h=>h
 | .str _,_,_,h=>h
 | .ty _,_,_,h=>h
 | .adr _,_,_,h=>h
 | .tup xs,v,n,h=>by
   obtain ⟨a,vs,e,z,r⟩:=h
   refine ⟨a,vs,e,z.imp (fun q=>⟨fun m=>?_,q.2⟩) id,Reps.unbor k xs vs (by unfold noL at n;exact n) r⟩
   rcases k a m with y|⟨us,y,nt⟩
   · exact q.1 y
   · rw [q.2] at y;cases y;exact nt _ rfl
 | .lst _,_,n,_=>by unfold noL at n;cases n
 | .own _,_,n,_=>by unfold noL at n;cases n
 | .bag,_,n,_=>by unfold noL at n;cases n
 | .frg _ _,_,n,_=>by unfold noL at n;cases n
 | .scr _,_,n,_=>by unfold noL at n;cases n
 | .dct _ _ _,_,n,_=>by unfold noL at n;cases n
theorem Reps.unbor (k:∀ c,M c->M' c\/∃ o,H c=some o/\∀ vs,o≠.tup vs):∀ (ds:List D) (vs:List V),EK ds=true->Reps K M' H ds vs->Reps K M H ds vs
 | [],_,_,h=>h
 | d::ds,vs,n,h=>by
   obtain ⟨v,r,e,h1,h2⟩:=h
   unfold EK at n
   obtain ⟨n1,n2⟩:=(Bool.and_eq_true _ _).mp n
   exact ⟨v,r,e,Rep.unbor k d v n1 h1,Reps.unbor k ds r n2 h2⟩
end
end
def BorAt:List D->List V->Addr->Prop
 | .own _::ds,v::vs,c=>v=.ref c\/BorAt ds vs c
 | .frg f _::ds,_::vs,c=>c∈f.ads\/BorAt ds vs c
 | _::ds,_::vs,c=>BorAt ds vs c
 | _,_,_=>False
theorem BorAt.lst {b:Option Addr}{H:Hp}{c:Addr}:∀ (ds:List D) (vs:List V),RepXs W M b H ds vs->BorAt ds vs c->b≠some c/\∃ o,H c=some o/\∀ vs,o≠.tup vs
 | [],vs,h,q=>by cases (show vs=[] from h);exact q.elim
 | d::ds,vs,h,q=>by
   obtain ⟨v,r,rfl,h1,h2⟩:=h
   cases d
   case own xs =>
    rcases q with z|z
    · obtain ⟨a,us,e,m1,m2,m3,m4,hh,r'⟩:=h1
      rw [z] at e;cases e
      exact ⟨m2,_,hh,fun _ y=>by cases y⟩
    · exact BorAt.lst ds r h2 z
   case frg f d =>
    rcases q with z|z
    · exact ⟨(h1.1 c z).2.1,f.nt _ _ _ h1.2.1 c z⟩
    · exact BorAt.lst ds r h2 z
   all_goals exact BorAt.lst ds r h2 q
theorem RepXs.bor2 {M M':Addr->Prop}{b:Option Addr}{H:Hp}(sub:∀ c,M' c->M c):∀ (ds:List D) (vs:List V),(∀ c,BorAt ds vs c->¬ M' c)->RepXs W M b H ds vs->RepAs W.K M' b H (ds.map L2.bor) vs
 | [],_,_,h=>h
 | d::ds,vs,nb,h=>by
   obtain ⟨v,r,rfl,h1,h2⟩:=h
   have av:∀ c,M' c->M c\/H c=none:=fun c hc=>.inl (sub c hc)
   have nb2:∀ c,BorAt ds r c->¬ M' c:=fun c hc=>nb c (by cases d<;>first|exact hc|exact .inr hc)
   refine ⟨v,r,rfl,?_,RepXs.bor2 sub ds r nb2 h2⟩
   cases d
   case own xs =>
    obtain ⟨a,us,rfl,m1,m2,m3,m4,hh,r'⟩:=h1
    exact ⟨a,us,rfl,⟨nb a (.inl rfl),hh⟩,Reps.avoid av _ _ r'⟩
   case bag=>exact h1
   case frg f d =>
    have r:=Rep.avoid (M':=M') (fun c hc=>.inl ⟨sub c hc,fun m=>nb c (.inl m) hc⟩) _ _ h1.2.2
    show Q4n W.K _ b H d v
    cases d<;>first|exact r|exact r.elim
   all_goals exact Rep.avoid av _ _ h1
theorem J4z {pn:List (D×V)} {b:Option Addr}{H1:Hp}{σ:St}{ρ:Ev}{xs:List D}{vs:List V}{P:List D->Prop}{Q:VK}(st1:Sta W pn M b H1 σ ρ)(rx:RepXs W M b H1 xs vs)(hS:S (xs.map bor) (fun ys=>EK ys=true/\P ys) (fun _=>False))
 (k:∀ ys a us H',P ys->H1 a=none->H' a=some (.lst us)->Reps W.K M H' ys us->Kp b H1 H'->okB W.B b H'->Q (.ref a) H'):Y9 W.K W.B S vs H1 Q E0:=by
 refine ⟨fun c=>M c/\¬ BorAt xs vs c,b,xs.map bor,_,fun _=>False,hS,RepXs.bor2 (fun c h=>h.1) _ _ (fun c h z=>z.2 h) rx,st1.ok,fun p h=>⟨st1.bagM p h,fun z=>(BorAt.lst xs vs rx z).1 h⟩,fun c hc=>st1.dom c hc.1,fun ys a us H' hp h0 hh r k2 o2=>?_,fun C H' hC=>hC.elim⟩
 refine k ys a us H' hp.2 h0 hh (Reps.unbor (fun c m=>?_) _ _ hp.1 (Reps.avoid (fun c m=>.inl (.inl m)) _ _ r)) k2 o2
 by_cases z:BorAt xs vs c
 · obtain ⟨nb,us',e,nt⟩:=BorAt.lst xs vs rx z
   exact .inr ⟨us',k2 c _ nb e,nt⟩
 · exact .inl ⟨m,z⟩
def Q4b (S:DSO)(dA:DA):DE:=fun ρ P=>dA ρ fun ds=>S (ds.map bor) (fun ys=>EK ys=true/\P (.lst ys)) (fun _=>False)
theorem KU (G:Callee X.prog X.w X.K X.mg X.base CX0 x k ps (Y9 W.K W.B S))(hr:Room k X.A)(hg:Gl X x)(ha:JA X W (e::es) dA)(hdb:(x==("__debug__" : Str))=false:=by decide) (he:starEach (e::es) X.env=(false,eval e X.env)::starEach es X.env:=by rfl) (hpl:(backTo pos (starEach es X.env)).any (·.1)=false:=by rfl) :
 JE X W (.Call (.Name x p) (e::es) [] pos) (Q4b S dA):=⟨(GJ G hr hg ha.h hdb he hpl).mono fun σ H Q hh=>hh.elim fun pn M b ρ P st h k=>by
 refine ⟨pn,M,b,ρ,_,st,h,fun xs vs H1 hx rx k1 o1=>?_⟩
 have st1:=st.step k1 o1
 show Y9 W.K W.B S (vs++[]) H1 Q E0
 rw [List.append_nil]
 exact J4z (P:=fun ys=>P (.lst ys)) st1 rx hx fun ys a us H' hp h0 hh r k2 o2=>k _ _ H' hp ⟨a,us,rfl,⟨st1.toHs.new h0,hh⟩,r⟩ (k1.trans k2) o2⟩
end
theorem HT.cat_tup0 {prog:Program} {A:Around}{E:Value->Shared->Prop}{s:Shared}{t b:Addr}{ws:List Value}{Q:Value->Shared->Prop}(ht:IsTup s.heap t ([]:List Value).toArray)(hb:IsTup s.heap b ws.toArray)(h1:Q (.ref b) s):wpAny (model prog w) A (binaryOp .Add (.ref t) (.ref b)) Q E s:=by
 obtain ⟨⟨cls,dd,data,sl⟩,ho,hc,n,hd⟩:=id ht
 obtain ⟨⟨cls2,dd2,data2,sl2⟩,ho2,hc2,n2,hd2⟩:=id hb
 simp only at hc hd hc2 hd2
 subst hc hd hc2 hd2
 exact concat_meets ⟨_,ho,rfl⟩ ⟨_,ho2,rfl⟩ noFill_tuple_add seq_tuple_add PySem.F.slot_tuple_add PySem.F.entry_tuple_add (PySem.F.args_tuple_add_2 _ _)
  (tuple_addW0 t b _ ws.toArray n n2 dd dd2 sl sl2 rfl) ⟨ho,ho2,h1⟩
def J1o (K:Fg):R2:=fun x y H Q=>(∃ a b ys,x=.ref a/\y=.ref b/\SqT K H a []/\SqT K H b ys/\Q (.ref b) H)\/J9j K x y H Q
theorem J2k {X:Cx}(K:Fg)(h:X.K=K):OpR X (binaryOp .Add) (J1o K):=by
 subst h
 intro pins s σ H x y v u Q I rx ry h
 rcases h with ⟨a,b,ys,rfl,rfl,ha,hb,q⟩|h
 · cases rx
   cases ry
   obtain ⟨its,r1,p1,_⟩:=I.tuple ha
   obtain ⟨its2,r2,p2,_⟩:=I.tuple hb
   cases r1
   exact HT.cat_tup0 p1 p2 ⟨.ref b,H,I,rfl,q⟩
 · exact J7b pins s σ H x y v u Q I rx ry h
def Q1v:D->D->(D->Prop)->Prop
 | .tup xs,.tup ys,P=>xs.length+ys.length<=1000/\P (.tup (xs++ys))
 | _,_,_=>False
theorem J2s {W:Wd}:OpD W (J1o W.K) Q1v:=by
 intro M b H x y v u P Q hs rx ry ho k
 cases x<;>first|exact ho.elim|skip
 cases y<;>first|exact ho.elim|skip
 rename_i xs ys
 have rx0:=rx
 have ry0:=ry
 obtain ⟨a1,vs,rfl,h1,r1⟩:=rx
 obtain ⟨a2,us,rfl,h2,r2⟩:=ry
 obtain ⟨hl,hp⟩:=ho
 by_cases n1:xs=[]
 · subst n1
   cases (show vs=[] from r1)
   exact .inl ⟨a1,a2,us,rfl,rfl,h1.sq,h2.sq,k _ _ H hp ry0 (Kp.refl _ _) hs.ok⟩
 · refine .inr ⟨a1,a2,vs,us,rfl,rfl,h1.sq,h2.sq,r1.ne n1,by rw [r1.length,r2.length];exact Nat.le_trans hl Y1,fun z=>?_,fun _ p hp'=>k _ _ _ hp (FP hs (Reps.append r1 r2) hp') (Kp.upd hp') (hs.okU hp')⟩
   have:ys=[]:=by
    have:=r2.length
    rw [z] at this
    exact List.length_eq_zero_iff.mp this.symm
   subst this
   rw [List.append_nil] at hp
   exact k _ _ H hp rx0 (Kp.refl _ _) hs.ok
theorem Fun.okDXO {P:Program}{w:World} {mg:Str->Option Value}{base:Heap}{CX:CXT}{x qual:Str}{st:Stmt}{f:Addr} {N ps:List Str}{k:Nat}{B:BagT}{Sd:DSO}(F:Fun K x qual st f fd)(S:FnScope N ps (J4 st))(len:∀ ds PP Ed,Sd ds PP Ed->ds.length=ps.length)
 (hbody:∀ (cdv:Value) (A:Around) (outer:List Env) (s:Shared) (H:Hp) (E:XK) (M:Addr->Prop) (bg:Option Addr) (ds:List D) (PP:List D->Prop) (Ed:Addr->Prop),Room k (A.deeper (envOfC qual (J4 st) s.heap.objs.size f cdv))->EB ⟨K,B,H,M,bg⟩ E Ed->Sd ds PP Ed ->
  ∃ d,JSs (AJ CX P w K mg base N qual (J4 st) f cdv A outer s H E) ⟨K,B,H,M,bg⟩ (AO st) d/\d { nx:=fun _=>False,rt:=fun _=>False,ro:=PP } (AE N ds)):FnOk P w K mg base CX (k+1) f fd ps (Y9 K B Sd) :=
 F.okX S (Y9.len len) fun cdv A outer s H vs Q E hr h=>by
  obtain ⟨M,bg,ds,PP,Ed,hS,hR,ho,hb,hd,hq,hx⟩:=h
  obtain ⟨d,J,q⟩:=hbody cdv A outer s H E M bg ds PP Ed hr (fun C H' e k o=>hx C H' e k o) hS
  exact ⟨_,J.h,Q5h hR ho hb hd hq q⟩
section
variable {X:Cx}{W:Wd}{e a b c:Expr}{es:List Expr}{pos p:Pos}{dA:DA}{x:Str}{k:Nat}{ps:List Str}{S:DSO}
theorem J0a {pn:List (D×V)} {b:Option Addr}{H1:Hp}{σ:St}{ρ:Ev}{xs:List D}{vs:List V}{P:List D->Prop}{Q:VK}{E:XK}{Ed:Addr->Prop}(hE:EB W E Ed)(st1:Sta W pn M b H1 σ ρ)(rx:RepXs W M b H1 xs vs)(hS:S (xs.map bor) (fun ys=>EK ys=true/\P ys) Ed)
 (k:∀ ys a us H',P ys->H1 a=none->H' a=some (.lst us)->Reps W.K M H' ys us->Kp b H1 H'->okB W.B b H'->Q (.ref a) H'):Y9 W.K W.B S vs H1 Q E:=by
 refine ⟨fun c=>M c/\¬ BorAt xs vs c,b,xs.map bor,_,Ed,hS,RepXs.bor2 (fun c h=>h.1) _ _ (fun c h z=>z.2 h) rx,st1.ok,fun p h=>⟨st1.bagM p h,fun z=>(BorAt.lst xs vs rx z).1 h⟩,fun c hc=>st1.dom c hc.1,fun ys a us H' hp h0 hh r k2 o2=>?_,fun C H' hC k2 o2=>?_⟩
 · refine k ys a us H' hp.2 h0 hh (Reps.unbor (fun c m=>?_) _ _ hp.1 (Reps.avoid (fun c m=>.inl (.inl m)) _ _ r)) k2 o2
   by_cases z:BorAt xs vs c
   · obtain ⟨nb,us',e,nt⟩:=BorAt.lst xs vs rx z
     exact .inr ⟨us',k2 c _ nb e,nt⟩
   · exact .inl ⟨m,z⟩
 · have st2:=st1.step k2 o2
   exact hE C H' hC st2.kp st2.ok0
def J8v (S:DSO)(Ed:Addr->Prop)(dA:DA):DE:=fun ρ P=>dA ρ fun ds=>S (ds.map bor) (fun ys=>EK ys=true/\P (.lst ys)) Ed
theorem NH {CX:CXT}{E:XK}{Ed:Addr->Prop}(hE:EB W E Ed)(hp:DD CX X E)(G:Callee X.prog X.w X.K X.mg X.base CX x k ps (Y9 W.K W.B S))(hr:Room k X.A)(hg:Gl X x)(ha:JA X W (e::es) dA)(hdb:(x==("__debug__" : Str))=false:=by decide) (he:starEach (e::es) X.env=(false,eval e X.env)::starEach es X.env:=by rfl) (hpl:(backTo pos (starEach es X.env)).any (·.1)=false:=by rfl) :
 JE X W (.Call (.Name x p) (e::es) [] pos) (J8v S Ed dA):=⟨(OW hp G hr hg ha.h hdb he hpl).mono fun σ H Q hh=>hh.elim fun pn M b ρ P st h k=>by
 refine ⟨pn,M,b,ρ,_,st,h,fun xs vs H1 hx rx k1 o1=>?_⟩
 have st1:=st.step k1 o1
 show Y9 W.K W.B S (vs++[]) H1 Q E
 rw [List.append_nil]
 exact J0a (P:=fun ys=>P (.lst ys)) hE st1 rx hx fun ys a us H' hp h0 hh r k2 o2=>k _ _ H' hp ⟨a,us,rfl,⟨st1.toHs.new h0,hh⟩,r⟩ (k1.trans k2) o2⟩
end
section
theorem J1c {σ:St}{i:Nat}{v:V}(e:σ[i]?=some (some v)):σ.set i (some v)=σ:=by
 apply List.ext_getElem?
 intro n
 by_cases z:i=n
 · subst z;rw [List.getElem?_set,e];simp;exact (List.getElem?_eq_some_iff.mp e).1
 · rw [List.getElem?_set_ne z]
end
section
theorem TM {xs:List D}{neg:Bool}{P:D->Prop}(n:Nat)(h:DB n xs=true)(hp:P (.bl (xs.isEmpty != neg))):EqG neg (.lst xs) (.lst []) P:=by
 obtain ⟨a,b,e1,e2,r,r2⟩:=J8b n h hp
 exact ⟨a,b,by unfold Y5 at e1 ⊢;exact e1,e2,r,r2⟩
end
section
variable {X:Cx}{W:Wd}{pos:Pos}{dA:DA}
def Q3w (i:Nat)(dA:DA):DS:=fun F ρ=>match ρ[i]? with
 | some (some (.own ys))=>dA ρ fun xs=>(match xs with | [.lst zs]=>ys.length+zs.length<=1000/\F.nx (ρ.set i (some (.own (ys++zs))))|_=>False)
 | _=>False
theorem Q0j {i:Nat}:∀ E σ H,sn W (Q3w i dA) E σ H->J0p (tBM W.K "list" OT (JN i) (dnA W dA)) E σ H:=fun E σ H hh=>hh.elim fun pn M b ρ F s l h=>by
 unfold Q3w at h
 split at h
 case h_2=>exact h.elim
 case h_1 ys e =>
  obtain ⟨a,vs,ea,nb,hh,r⟩:=HR s.toSta e
  refine ⟨.ref a,ea,.inl ⟨rfl,vs,SqL.of hh⟩,pn,M,b,ρ,_,s.toSta,h,fun xs us H' hx rx k o=>?_⟩
  match xs,hx with
  | [.lst zs],hx =>
    obtain ⟨u,rfl,ru⟩:=rx1 rx
    obtain ⟨a2,ws,rfl,⟨n2,h2⟩,r2⟩:=(show ∃ a vs,u=.ref a/\(¬ M a/\H' a=some (.lst vs))/\Reps W.K M H' zs vs from ru)
    have s':=s.step k o
    obtain ⟨a',vs',ea',nb',hh',r'⟩:=HR s'.toSta e
    rw [ea] at ea';cases ea'
    exact ⟨a,a2,vs',ws,rfl,rfl,hh',h2,by rw [r'.length,r2.length];exact Nat.le_trans hx.1 Y1,l.nx _ _ _ _ _ (s'.setOwn i e ea (Reps.append r' r2)) hx.2⟩
theorem KS {i:Nat}{x:Str}{e:Expr}{npos apos cpos:Pos}(hK:X.K=W.K)(ha:JA X W [e] dA)
 (h:PE X (.Call (.Attribute (.Name x npos) "extend" apos) [e] [] cpos) (tBM X.K "list" OT (JN i) (dnA W dA))) (hs:swapsWith (.Call (.Attribute (.Name x npos) "extend" apos) [e] [] cpos) none pos.line X.env=pure false:=by rfl) :
 JS X W (.Expr (.Call (.Attribute (.Name x npos) "extend" apos) [e] [] cpos) pos) (Q3w i dA):=⟨(WN (by rw [hK] at h;exact h) hs).mono Q0j⟩
end
section
variable {κ:Type} [DecidableEq κ]
def JM (kvs:List (κ×V))(k:κ):Option V:=(kvs.find? fun kv=>decide (kv.1=k)).map (·.2)
def J6n (kvs:List (κ×V))(k:κ)(v:V):List (κ×V) :=
 if (kvs.any fun kv=>decide (kv.1=k))=true then kvs.map (fun kv=>if kv.1=k then (kv.1,v) else kv) else kvs++[(k,v)]
theorem QU {p:κ×V}{r:List (κ×V)}{k:κ}(e:p.1=k):JM (p::r) k=some p.2:=by simp [JM,List.find?_cons,e]
theorem QV {p:κ×V}{r:List (κ×V)}{k:κ}(e:¬ p.1=k):JM (p::r) k=JM r k:=by simp [JM,List.find?_cons,e]
theorem KV.val {kvs:List (κ×V)}{vs:List (κ×Value)}(r:KV kvs vs)(k:κ):J5m (JM kvs k) (valueAt vs k):=by
 unfold KV at r
 induction r with
 | nil=>exact True.intro
 | @cons p q ps qs h t ih =>
   obtain ⟨h1,h2⟩:=h
   by_cases e:p.1=k
   · have e':q.1=k:=h1.symm.trans e
     have b:valueAt (q::qs) k=some q.2:=by simp [valueAt,List.find?_cons,e']
     rw [QU e,b];exact h2
   · have e':¬ q.1=k:=fun z=>e (h1.trans z)
     have b:valueAt (q::qs) k=valueAt qs k:=by simp [valueAt,List.find?_cons,e']
     rw [QV e,b];exact ih
theorem KV.any {kvs:List (κ×V)}{vs:List (κ×Value)}(r:KV kvs vs)(k:κ):(kvs.any fun kv=>decide (kv.1=k))=vs.any fun kv=>decide (kv.1=k):=by
 unfold KV at r
 induction r with
 | nil=>rfl
 | cons h t ih=>rw [List.any_cons,List.any_cons,ih,h.1]
theorem KV.keys {kvs:List (κ×V)}{vs:List (κ×Value)}(r:KV kvs vs):kvs.map (·.1)=vs.map (·.1):=by
 unfold KV at r
 induction r with
 | nil=>rfl
 | cons h t ih=>rw [List.map_cons,List.map_cons,ih,h.1]
theorem KV.length {kvs:List (κ×V)}{vs:List (κ×Value)}(r:KV kvs vs):kvs.length=vs.length:=Paired.length r
end
abbrev KT (H:Hp):List (List Key×V)->List (List Key×Addr×Value)->Prop:=Paired fun p q=>p.1=q.1/\H q.2.1=some (.tup (p.1.map kV))/\RelV p.2 q.2.2
theorem KT.val {H:Hp}{kvs:List (List Key×V)}{xs:List (List Key×Addr×Value)}(r:KT H kvs xs)(k:List Key):J5m (JM kvs k) ((atKey xs k).map (·.2)):=by
 induction r with
 | nil=>exact True.intro
 | @cons p q ps qs h t ih =>
   obtain ⟨h1,_,h2⟩:=h
   by_cases e:p.1=k
   · have e':q.1=k:=h1.symm.trans e
     have b:atKey (q::qs) k=some q.2:=by simp [atKey,List.find?_cons,e']
     rw [QU e,b];exact h2
   · have e':¬ q.1=k:=fun z=>e (h1.trans z)
     have b:atKey (q::qs) k=atKey qs k:=by simp [atKey,List.find?_cons,e']
     rw [QV e,b];exact ih
def DGet (H:Hp)(a:Addr)(y:V)(r:Option V):Prop :=
 (∃ kvs k,Rd H a (.dK kvs)/\y=kV k/\r=JM kvs k)\/∃ kvs k b,Rd H a (.dT kvs)/\y=.ref b/\H b=some (.tup (k.map kV))/\r=JM kvs k
def DPut (H:Hp)(a:Addr)(y v:V)(H':Hp):Prop :=
 (∃ kvs k,H a=some (.dK kvs)/\y=kV k/\kvs.length<sizeLine/\H'=upd H a (.dK (J6n kvs k v))) \/
 ∃ kvs k b,H a=some (.dT kvs)/\y=.ref b/\H b=some (.tup (k.map kV))/\kvs.length<sizeLine/\H'=upd H a (.dT (J6n kvs k v))
theorem DGet.k {H:Hp}{a:Addr}{kvs:List (Key×V)}{k:Key}(e:H a=some (.dK kvs)):DGet H a (kV k) (JM kvs k):=.inl ⟨kvs,k,.inl e,rfl,rfl⟩
theorem DGet.t {H:Hp}{a b:Addr}{kvs:List (List Key×V)}{k:List Key}(e:H a=some (.dT kvs))(eb:H b=some (.tup (k.map kV))):DGet H a (.ref b) (JM kvs k):=.inr ⟨kvs,k,b,.inl e,rfl,eb,rfl⟩
theorem DPut.k {H:Hp}{a:Addr}{kvs:List (Key×V)}{k:Key}{v:V}(e:H a=some (.dK kvs))(hl:kvs.length<sizeLine):DPut H a (kV k) v (upd H a (.dK (J6n kvs k v))):=.inl ⟨kvs,k,e,rfl,hl,rfl⟩
theorem DPut.t {H:Hp}{a b:Addr}{kvs:List (List Key×V)}{k:List Key}{v:V}(e:H a=some (.dT kvs))(eb:H b=some (.tup (k.map kV)))(hl:kvs.length<sizeLine) :
 DPut H a (.ref b) v (upd H a (.dT (J6n kvs k v))):=.inr ⟨kvs,k,b,e,rfl,eb,hl,rfl⟩
section
variable {X:Cx}{pins:List (Addr×Obj)}{σ:St}{H:Hp}{s:Shared}{a:Addr}
theorem Inv.big (I:Inv X pins σ H s):sysModules<s.heap.objs.size:=by
 have h:mainGlobals<s.heap.objs.size:=(I.mod.glob.keeps I.bk).lt
 exact Nat.lt_trans (by decide) h
theorem XJ {h':Heap}{t':Nat}{ob:HO}(I:Inv X pins σ H s)(mu:Mut (H a))(hs:Heap.SameBut a s.heap h')(he:∃ q,h'.get? a=some q)(new:ObjOk X.prog X.w (upd H a ob) h' a ob) :
 Inv X pins σ (upd H a ob) { s with heap:=h',toks:=t' } :=
 I.write (x:=a) (e:=a) mu (.inl rfl) (fun b q hb z=>(hs.2 b hb).trans z) he new
end
def OG:List (TE×TE)->St->Hp->(List (V×V)->Hp->Prop)->Prop
 | [],_,H,Q=>Q [] H
 | (tk,tv)::r,σ,H,Q=>tk σ H fun x H1=>tv σ H1 fun y H2=>OG r σ H2 fun ps H3=>Q ((x,y)::ps) H3
abbrev VV:List (V×V)->List (Value×Value)->Prop:=Paired fun p q=>RelV p.1 q.1/\RelV p.2 q.2
def PPs (X:Cx)(pos:Pos)(keys:List (Option Expr))(values:List Expr)(trs:List (TE×TE)):Prop :=
 ∀ (pins:List (Addr×Obj)) (s:Shared) (σ:St) (H:Hp) (Q:List (V×V)->Hp->Prop),Inv X pins σ H s->OG trs σ H Q ->
  wpAny (model X.prog X.w) X.A (evalPairs (pairTrees keys values X.env pos)) (fun vs s'=>∃ ps H',Inv X pins σ H' s'/\VV ps vs/\Q ps H') X.xe s
theorem JB {X:Cx}{pos:Pos}:PPs X pos [] [] []:=fun pins s σ H Q I h=>pairTrees_nil_walk ⟨[],H,I,.nil,h⟩
theorem AH {X:Cx}{pos:Pos}{k v:Expr}{ks:List (Option Expr)}{vs:List Expr}{tk tv:TE}{trs:List (TE×TE)}(hk:PE X k tk)(hv:PE X v tv)(hr:PPs X pos ks vs trs) :
 PPs X pos (some k::ks) (v::vs) ((tk,tv)::trs):=fun pins s σ H Q I h =>
 pairTrees_cons_walk (thn (hk pins s σ H _ I h) fun u s1 ⟨x,H1,I1,rx,q1⟩=>thn (hv pins s1 σ H1 _ I1 q1) fun w2 s2 ⟨y,H2,I2,ry,q2⟩ =>
  thn (hr pins s2 σ H2 _ I2 q2) fun ws s3 ⟨ps,H3,I3,rel,q3⟩=>⟨(x,y)::ps,H3,I3,.cons ⟨rx,ry⟩ rel,q3⟩)
structure M2 (X:Cx)(o:Expr)(m:Str)(apos:Pos)(e f:Expr)(cpos:Pos):Prop where
 base:attributeBase o m X.env (eval o X.env)=eval o X.env
 few:((backTo cpos (starEach [e,f] X.env)).all (fun x=>!x.1)&&(backToKw cpos (keywordEach [] X.env)).all (fun x=>x.1.isSome)
  && decide (([e,f]:List Expr).length+([]:List Keyword).length+(if ([]:List Keyword).isEmpty then 0 else 1)<30))=true
 line:(apos.endLine==cpos.line)=true
 trees:backTo cpos (starEach [e,f] X.env)=[(false,eval e X.env),(false,eval f X.env)]
abbrev Ens:=List (List Int×Addr×Value)
abbrev tiK (P:Program)(w:World):=tupleKind (intKind P w)
theorem NI:∀ {ns:List Int} {us:List Value},Vals (ns.map V.int) us->ItemsAre (intKind P w) ns us
 | [],_,h=>by cases h;exact .nil
 | n::ns,_,h=>by
   cases h with
   | cons h t =>
     obtain ⟨t',rfl⟩:=h
     exact .cons (by simp [intKind,Value.isInt]) (NI t)
def IM (K:Fg)(H:Hp)(es:Ens):Prop:=∀ e∈es,SqT K H e.2.1 (e.1.map V.int)
section
variable {X:Cx}{pins:List (Addr×Obj)}{σ:St}{H:Hp}{s:Shared}{a b:Addr}{es:Ens}{ep:Nat}{ns:List Int}
theorem Inv.tkey (I:Inv X pins σ H s)(h:SqT X.K H b (ns.map V.int)):(tiK X.prog X.w).is s.heap ns b:=by
 obtain ⟨its,r,⟨o,h1,h2,n,h3⟩,_⟩:=I.tuple h
 exact ⟨o,its.toArray,n,h1,h2,h3,NI r⟩
theorem Inv.dct (I:Inv X pins σ H s)(h:H a=some (DOb a es ep))(hk:IM X.K H es):((a==sysModules)=false/\es.length<=sizeLine)/\s.heap.DictOfH (tiK X.prog X.w) a es:=by
 obtain ⟨⟨⟨h1,h2,h3⟩,o,ds,e1,e2,e3,e4⟩,_⟩:=I.hok a _ h
 exact ⟨⟨h1,h2⟩,o,ds,ep,e1,e2,e3,e4,fun x hx=>I.tkey (hk x hx),h3⟩
theorem QN {H:Hp}{h:Heap}(h1:(a==sysModules)=false)(h2:es.length<=sizeLine)(h3:(es.map (·.1)).Nodup){o:Obj}{ds:Array DictEntry}(e1:h.get? a=some o)(e2:o.ExactDict)(e3:o.data=.dict ds ep)(e4:ds.toList=es.map Q3x):ObjOk P w H h a (DOb a es ep) :=
 ⟨⟨⟨h1,h2,h3⟩,o,ds,e1,e2,e3,e4⟩,⟨o,e1⟩,fun g1 g2 ⟨q,o,ds,f1,f2⟩ k=>⟨q,o,ds,k o f1,f2⟩⟩
theorem EZ (es:Ens)(k:List Int)(b:Addr)(v:Value):(storedH es k b v).length<=es.length+1:=by
 unfold storedH
 split
 · rw [List.length_map];omega
 · simp
def Q1d (K:Fg):R2:=fun x y H Q=>∃ a b es ep ns p v,x=.ref a/\y=.ref b/\H a=some (DOb a es ep)/\IM K H es/\SqT K H b (ns.map V.int)/\atKey es ns=some p/\RelV v p.2/\Q v H
theorem Q2j (hu:X.A.units+1<cLine):IxR X (Q1d X.K):=by
 intro value slice pins s σ H x y v u Q I rx ry h hs
 obtain ⟨a,b,es,ep,ns,p,z,rfl,rfl,hd,hk,hb,hp,rz,q⟩:=h
 cases rx;cases ry
 obtain ⟨⟨h1,h2⟩,dd⟩:=I.dct hd hk
 exact tail_any dd.typeIs PySem.F.slot_dict_getitem.lookup (wpAny_getItem_heap (tupleKind_room_in1 hu) (I.tkey hb) dd hp ⟨z,H,I.tok _,rz,q⟩) hs
def J9i (K:Fg):V->V->V->Hp->(Hp->Prop)->Prop:=fun o i v H Q=>∃ a b es ep ns,o=.ref a/\i=.ref b/\H a=some (DOb a es ep)/\IM K H es/\SqT K H b (ns.map V.int)/\es.length<sizeLine/\∀ u ep',RelV v u->Q (upd H a (DOb a (storedH es ns b u) ep'))
theorem J6f (K:Fg)(hK:X.K=K)(hu:X.A.units+64<cLine):Q4o X (J9i K):=by
 subst hK
 intro pins s σ H o i v ov iv u Q I ro ri rv h
 obtain ⟨a,b,es,ep,ns,rfl,rfl,hd,hk,hb,hl,q⟩:=h
 cases ro;cases ri
 obtain ⟨⟨h1,h2⟩,dd⟩:=I.dct hd hk
 refine wpAny_setItem_heap (hsz:=h2) (tupleKind_room_in1 (by omega)) (I.tkey hb) dd fun h' dd' hs=>?_
 obtain ⟨o,ds,ep',e1,e2,e3,e4,_,e5⟩:=dd'
 exact ⟨_,XJ I (by rw [hd];exact True.intro) hs ⟨o,e1⟩ (QN h1 (Nat.le_trans (EZ es ns b u) hl) e5 e1 e2 e3 e4),q u ep' rv⟩
def Q5c:TE:=fun _ H Q=>∀ p,H p=none->Q (.ref p) (upd H p (DOb p [] 0))
theorem J6x {pos:Pos}:PE X (.Dict [] [] pos) Q5c:=fun pins s σ H Q I h =>
 wpAny_Dict_empty ⟨.ref s.heap.objs.size,_,I.laid (a:=s.heap.objs.size) (o:=DOb s.heap.objs.size [] 0) (t':=s.toks) (fun _ _ q=>Heap.get?_push_of_some _ q) (Nat.le_refl _) (QN (beq_eq_false_iff_ne.mpr (Ne.symm (Nat.ne_of_lt I.big))) (Nat.zero_le _) List.nodup_nil (Heap.get?_push_size _ rfl) ⟨rfl,rfl,rfl⟩ rfl rfl),rfl,h _ (I.hok.fresh (Nat.le_refl _))⟩
def J0q (K:Fg)(td ty tx:TE):TE:=fun σ H Q=>td σ H fun x H1=>∃ a es ep,x=.ref a/\H1 a=some (DOb a es ep)/\IM K H1 es/\ty σ H1 fun y H2=>tx σ H2 fun z H3=>∃ b ns,y=.ref b/\H3 a=some (DOb a es ep)/\IM K H3 es/\SqT K H3 b (ns.map V.int) /\
 (atKey es ns=none->Q z H3)/\∀ p,atKey es ns=some p->∃ v,RelV v p.2/\Q v H3
theorem SA {o e f:Expr}{apos cpos:Pos}{td ty tx:TE}(hu:X.A.units+1<cLine)(ho:PE X o td)(he:PE X e ty)(hf:PE X f tx)(m:M2 X o "get" apos e f cpos):PE X (.Call (.Attribute o "get" apos) [e,f] [] cpos) (J0q X.K td ty tx):=by
 intro pins s σ H Q I h
 refine wpAny_Call_method m.base m.few m.line PySem.F.plainAttrs_dict PySem.F.slot_dict_get PySem.F.type_dict_get (thn (ho pins s σ H _ I h) fun u s1 hx=>?_)
 obtain ⟨x,H1,I1,rx,a,es,ep,rfl,hd,hk,q1⟩:=hx
 cases rx
 obtain ⟨_,dd1⟩:=I1.dct hd hk
 refine ⟨dd1.typeIs,dictOfH_noDict dd1,?_⟩
 rw [m.trees]
 refine Calls.callWith_builtin rfl (Calls.evalArgs_plain (Calls.spliced_cons (thn (he pins s1 σ H1 _ I1 q1) fun iv s2 hy=>?_)))
 obtain ⟨y,H2,I2,ry,q2⟩:=hy
 refine Calls.spliced_cons (thn (hf pins s2 σ H2 _ I2 q2) fun fv s3 hz=>Calls.spliced_nil ?_)
 obtain ⟨z,H3,I3,rz,b,ns,rfl,hd3,hk3,hb,qn,qs⟩:=hz
 cases ry
 obtain ⟨⟨h1,h2⟩,dd⟩:=I3.dct hd3 hk3
 refine call_meetsIn PySem.F.slot_dict_get dd.typeIs PySem.F.entry_dict_get (PySem.F.args_dict_get_3 _ _ _) (meetsH_dict_get_default (tiK X.prog X.w) a b h1 fv) ⟨tupleKind_room_in1 hu,ns,es,I3.tkey hb,dd,?_⟩
 cases hat:atKey es ns with
 | none=>exact ⟨z,H3,I3.tok _,rz,qn hat⟩
 | some p=>obtain ⟨v,rv,qv⟩:=qs p hat;exact ⟨v,H3,I3.tok _,rv,qv⟩
end
theorem SqT.upd_ext {H:Hp}{a b:Addr}{xs:List V}{φ:Heap->Prop}{o:HO}(e:H a=some (.ext φ))(h:SqT K H b xs):SqT K (upd H a o) b xs:=by
 rcases h with (h|⟨u,h⟩)|h
 · exact .inl (.inl (by rw [Q3 (WS h e (fun z=>nomatch z))];exact h))
 · exact .inl (.inr ⟨u,by rw [Q3 (WS h e (fun z=>nomatch z))];exact h⟩)
 · exact .inr h
section
variable {X:Cx}{pins:List (Addr×Obj)}{σ:St}{H:Hp}{s:Shared}{a b:Addr}{es:Ens}{ep:Nat}{ns:List Int}{A:Around}{E:Value->Shared->Prop}{r:Value}
theorem J4o {Q:Unit->Shared->Prop}(hu:A.units<cLine)(I:Inv X pins σ H s)(e:H a=some (DOb a es ep))(hk:IM X.K H es)(hb:SqT X.K H b (ns.map V.int))(l:es.length<sizeLine)(h:∀ s' ep',Inv X pins σ (upd H a (DOb a (storedH es ns b r) ep')) s'->Q () s') :
 wpAny (model X.prog X.w) A (dictSet a (.ref b) r) Q E s:=by
 obtain ⟨⟨h1,h2⟩,dd⟩:=I.dct e hk
 refine wpAny_dictSet_heap (hsz:=h2) hu (I.tkey hb) dd fun h' dd' hs=>?_
 obtain ⟨o,ds,ep',e1,e2,e3,e4,_,e5⟩:=dd'
 exact h _ ep' (XJ I (by rw [e];exact True.intro) hs ⟨o,e1⟩ (QN h1 (Nat.le_trans (EZ es ns b r) l) e5 e1 e2 e3 e4))
def MA (more:List (List Int×Addr×V))(us:List Value):Ens:=List.zipWith (fun x u=>(x.1,x.2.1,u)) more us
theorem IK {Q:PUnit->Shared->Prop}(hu:A.units<cLine):∀ (more:List (List Int×Addr×V)) (ws:List (Value×Value)) (es:Ens) (ep:Nat) (H:Hp) (s:Shared),Inv X pins σ H s->H a=some (DOb a es ep)->IM X.K H es->(∀ x∈more,SqT X.K H x.2.1 (x.1.map V.int))->es.length+more.length<=sizeLine->(more.map (·.1)).Nodup->(∀ x∈more,atKey es x.1=none)->VV (more.map fun x=>(.ref x.2.1,x.2.2)) ws ->
 (∀ s' us ep',Vals (more.map (·.2.2)) us->Inv X pins σ (upd H a (DOb a (es++MA more us) ep')) s'->Q PUnit.unit s')->wpAny (model X.prog X.w) A (storeAll a ws) Q E s
 | [],ws,es,ep,H,s,I,e,hk,hm,hl,nd,hn,rel,h=>by
   cases rel
   unfold storeAll
   refine wpAny_pure (h s [] ep .nil ?_)
   have:upd H a (DOb a (es++MA [] []) ep)=H:=by
    funext c
    by_cases z:c=a
    · subst z;rw [Q5,show es++MA [] []=es from List.append_nil es];exact e.symm
    · rw [Q3 z]
   rw [this];exact I
 | x::more,ws,es,ep,H,s,I,e,hk,hm,hl,nd,hn,rel,h=>by
   rw [List.map_cons] at rel
   cases rel with
   | @cons p q ps qs h1 t =>
     obtain ⟨q1,q2⟩:=q
     cases (show q1=Value.ref x.2.1 from h1.1)
     unfold storeAll
     rw [List.forIn_cons]
     refine wpAny_bind (wpAny_bind ?_)
     rw [List.map_cons,List.nodup_cons] at nd
     rw [List.length_cons] at hl
     have est:=storedH_new (hn x (List.mem_cons_self ..)) x.2.1 q2
     refine J4o (ns:=x.1) hu I e hk (hm x (List.mem_cons_self ..)) (by omega) fun s' ep' I'=>wpAny_pure ?_
     rw [est] at I'
     refine IK hu more qs (es++[(x.1,x.2.1,q2)]) ep' _ s' I' Q5 (fun y hy=>?_) (fun y hy=>?_) (by rw [List.length_append,List.length_singleton];omega) nd.2 (fun y hy=>?_) t fun s2 us ep2 hv I2=>h s2 (q2::us) ep2 (.cons h1.2 hv) ?_
     · rcases List.mem_append.mp hy with z|z
       · exact (hk y z).upd_ext e
       · rw [List.mem_singleton.mp z];exact (hm x (List.mem_cons_self ..)).upd_ext e
     · exact (hm y (List.mem_cons_of_mem _ hy)).upd_ext e
     · have q:=hn y (List.mem_cons_of_mem _ hy)
       have ne:¬ x.1=y.1:=fun z=>nd.1 (List.mem_map.mpr ⟨y,hy,z.symm⟩)
       unfold atKey at q ⊢
       rw [Option.map_eq_none_iff] at q ⊢
       rw [List.find?_append,q]
       simp [ne]
     · rw [WB,List.append_assoc] at I2;exact I2
end
def Q0v (K:Fg)(trs:List (TE×TE)):TE:=fun σ H Q=>∀ p,H p=none->OG trs σ (upd H p (DOb p [] 0)) fun ps H2=>H2 p=some (DOb p [] 0)/\∃ more:List (List Int×Addr×V),ps=more.map (fun x=>(.ref x.2.1,x.2.2))/\(∀ x∈more,SqT K H2 x.2.1 (x.1.map V.int))/\more.length<=15 /\
 (more.map (·.1)).Nodup/\∀ us ep,Vals (more.map (·.2.2)) us->Q (.ref p) (upd H2 p (DOb p (MA more us) ep))
theorem J1x {X:Cx}{pos:Pos}{keys:List (Option Expr)}{values:List Expr}{trs:List (TE×TE)}(hu:X.A.units<cLine)(h:PPs X pos keys values trs)(hall:keys.all (·.isSome)=true)(hl:keys.length=values.length)(h0:keys≠[])
 (h15:keys.length<=15):PE X (.Dict keys values pos) (Q0v X.K trs):=by
 intro pins s σ H Q I q
 have hn:=I.hok.fresh (Nat.le_refl s.heap.objs.size)
 have I1:=I.laid (a:=s.heap.objs.size) (o:=DOb s.heap.objs.size [] 0) (h':=s.heap.push { cls:=.type "dict",data:=.dict #[] }) (t':=s.toks) (fun _ _ q=>Heap.get?_push_of_some _ q) (Nat.le_refl _) (QN (beq_eq_false_iff_ne.mpr (Ne.symm (Nat.ne_of_lt I.big))) (Nat.zero_le _) List.nodup_nil (Heap.get?_push_size _ rfl) ⟨rfl,rfl,rfl⟩ rfl rfl)
 refine wpAny_Dict_any hall hl h0 h15 (thn (h pins _ σ _ _ I1 (q _ hn)) fun ws s2 hx=>?_)
 obtain ⟨ps,H2,I2,rel,e,more,rfl,hk,lk,nd,q2⟩:=hx
 refine IK hu more ws [] 0 H2 s2 I2 e (fun _ z=>by cases z) hk (by rw [List.length_nil,sizeLine_eq];omega) nd (fun _ _=>rfl) rel fun s' us ep hv I'=>?_
 exact ⟨.ref s.heap.objs.size,_,I',rfl,q2 us ep hv⟩
def Y8:List (List Int)->List D->List Int->Option D
 | k::ks,x::xs,n=>if k=n then some x else Y8 ks xs n
 | _,_,_=>none
theorem LM {e:List Int×Addr×Value}{es:Ens}{n:List Int}:atKey (e::es) n=if e.1=n then some e.2 else atKey es n:=by
 unfold atKey
 rw [List.find?_cons]
 by_cases z:e.1=n
 · simp [z]
 · simp [z]
theorem FT {H:Hp}:∀ {es:Ens} {ks:List (List Int)} {vs:List V} {xs:List D} (n:List Int),es.map (·.1)=ks->Vals vs (es.map (·.2.2))->Reps K M H xs vs ->
 match Y8 ks xs n with|some d=>∃ p v,atKey es n=some p/\RelV v p.2/\Rep K M H d v|none=>atKey es n=none
 | [],ks,vs,xs,n,e,hv,r=>by
   subst e
   unfold Y8;rfl
 | e::es,ks,vs,[],n,ek,hv,r=>by
   rw [show vs=[] from r] at hv
   cases hv
 | e::es,ks,vs,x::xs,n,ek,hv,r=>by
   subst ek
   obtain ⟨v,vs,rfl,rx,rr⟩:=r
   rw [List.map_cons] at hv
   cases hv with
   | cons h1 h2 =>
   have ih:=FT (ks:=es.map (·.1)) (xs:=xs) n rfl h2 rr
   rw [LM,List.map_cons]
   unfold Y8
   by_cases z:e.1=n
   · rw [if_pos z,if_pos z]
     exact ⟨e.2,v,rfl,h1,rx⟩
   · rw [if_neg z,if_neg z]
     exact ih
theorem DctE.keys {H:Hp}{es:Ens}{ks:List (List Int)}{vs:List V}(h:DctE K M H es ks vs):IM K H es:=fun e m=>(h.2.1 e m).sq
section
variable {X:Cx}{W:Wd}{e f:Expr}{es:List Expr}{pos:Pos}{dA:DA}{df:DE}
def J4u (i:Nat)(dA:DA)(df:DE):DE:=fun ρ P=>match ρ[i]? with
 | some (some (.dct t ks xs))=>dA ρ fun ys=>(match CA ys with|some ns=>ys.length<=1000/\df ρ fun z=>plain z=true/\P ((Y8 ks xs ns).getD z)|none=>False)
 | _=>False
theorem J5u {i:Nat}(hK:X.K=W.K):∀ σ H Q,dn W (J4u i dA df) σ H Q->J0q X.K (JN i) (J5w (dnA W dA)) (dn W df) σ H Q:=fun σ H Q hh=>hh.elim fun pn M b ρ P st h k=>by
 rw [hK]
 unfold J4u at h
 split at h
 case h_2=>exact h.elim
 case h_1 t ks xs e =>
  obtain ⟨v,ev,a,us,rfl,⟨nm,hd,hE⟩,rr⟩:=st.env i _ e
  refine ⟨.ref a,ev,a,t.1,t.2,rfl,hd,hE.keys,pn,M,b,ρ,_,st,h,fun ys vs H1 hy ry k1 o1=>?_⟩
  split at hy
  case h_2=>exact hy.elim
  case h_1 ns en =>
   have ey:=CA.eq en
   subst ey
   have st1:=st.step k1 o1
   have rr1:=ry.reps _ _ (by simp [List.all_map,L2.plain])
   have evs:=rr1.ints
   subst evs
   refine ⟨by rw [rr1.length];exact Nat.le_trans hy.1 Y1,fun p hp=>?_⟩
   have kp:Kp b H1 (upd H1 p (.tup (ns.map V.int))):=Kp.upd hp
   have okp:=st1.toHs.okU (o:=.tup (ns.map V.int)) hp
   refine ⟨pn,M,b,ρ,_,st1.step kp okp,hy.2,fun z u H3 hz rz k3 o3=>?_⟩
   have kk:Kp b H H3:=(k1.trans kp).trans k3
   have nb:∀ c o,¬ M c->H c=some o->H3 c=some o:=fun c o n q=>kk c o (fun z=>n (st.bagM c z)) q
   have npb:b≠some p:=fun z=>by
    obtain ⟨o,q⟩:=W.B.dm p H1 (st1.ok p z)
    rw [hp] at q;cases q
   have ht:H3 p=some (.tup (ns.map V.int)):=k3 p _ npb Q5
   have hE3:=hE.keep nb
   have q:=FT (ks:=ks) ns hE3.1 hE3.2.2 (Reps.keep nb _ _ rr)
   refine ⟨p,ns,rfl,nb a _ nm hd,hE3.keys,.inl (.inl ht),fun hn=>?_,fun p hs=>?_⟩
   · cases ef:Y8 ks xs ns with
     | none=>rw [ef] at hz;exact k _ _ H3 hz.2 rz kk o3
     | some d=>rw [ef] at q;obtain ⟨p,v,e1,_⟩:=q;rw [hn] at e1;cases e1
   · cases ef:Y8 ks xs ns with
     | none=>rw [ef] at q;rw [show atKey t.1 ns=none from q] at hs;cases hs
     | some d =>
       rw [ef] at q hz
       obtain ⟨p',v,e1,rv,r1⟩:=q
       rw [hs] at e1;cases e1
       exact ⟨v,rv,k _ _ H3 hz.2 r1.x kk o3⟩
theorem J3r {i:Nat}{x:Str}{k:Nat}{npos apos cpos tpos:Pos}(hK:X.K=W.K)(hu:X.A.units+64<cLine)(ha:JA X W es dA)(hf:JE X W f df)(hN:X.N[i]?=some x)(hv:Vis X.env.scope x)(m:M2 X (.Name x npos) "get" apos (.Tuple es k tpos) f cpos) (hd:(x==("__debug__" : Str))=false:=by decide)
 (hcd:(x==("__classdict__" : Str))=false:=by decide):JE X W (.Call (.Attribute (.Name x npos) "get" apos) [.Tuple es k tpos,f] [] cpos) (J4u i dA df) :=
 ⟨(SA (by omega) (OV hN hv hd hcd) (BM ha.h) hf.h m).mono (J5u hK)⟩
def VP:List (DA×DE)->Ev->(List (List Int×Int)->Prop)->Prop
 | [],_,P=>P []
 | (dk,dv)::r,ρ,P=>dk ρ fun ys=>match CA ys with
   | some ns=>ys.length<=1000/\dv ρ fun z=>(match z with|.int n=>VP r ρ fun ps=>P ((ns,n)::ps)|_=>False)
   | none=>False
def Q6w (ps:List (DA×DE)):DE:=fun ρ P=>VP ps ρ fun kx=>((kx.map (·.1)).Nodup/\kx.length<=15)/\∀ t,P (.dct t (kx.map (·.1)) (kx.map fun p=>.int p.2))
theorem QW {pn:List (D×V)} {σ:St}{ρ:Ev}{Qp:List (V×V)->Hp->Prop}:∀ (ps:List (DA×DE)) (H:Hp) (P:List (List Int×Int)->Prop),Sta W pn M b H σ ρ->VP ps ρ P ->
 (∀ (more:List (List Int×Addr×V)) (kx:List (List Int×Int)) H',P kx->more.map (·.1)=kx.map (·.1)->more.map (·.2.2)=kx.map (fun p=>.int p.2)->(∀ x∈more,¬ M x.2.1/\H' x.2.1=some (.tup (x.1.map V.int)))->Kp b H H'->okB W.B b H'->Qp (more.map fun x=>(.ref x.2.1,x.2.2)) H') ->
 OG (ps.map fun p=>(J5w (dnA W p.1),dn W p.2)) σ H Qp
 | [],H,P,st,h,k=>k [] [] H h rfl rfl (fun x hx=>by cases hx) (Kp.refl _ _) st.ok
 | (dk,dv)::ps,H,P,st,h,k=>by
   rw [List.map_cons]
   refine ⟨pn,M,b,ρ,_,st,h,fun ys vs H1 hy ry k1 o1=>?_⟩
   split at hy
   case h_2=>exact hy.elim
   case h_1 ns en =>
    have ey:=CA.eq en
    subst ey
    have st1:=st.step k1 o1
    have rr1:=ry.reps _ _ (by simp [List.all_map,L2.plain])
    have evs:=rr1.ints
    subst evs
    refine ⟨by rw [rr1.length];exact Nat.le_trans hy.1 Y1,fun p hp=>?_⟩
    have kp:Kp b H1 (upd H1 p (.tup (ns.map V.int))):=Kp.upd hp
    have okp:=st1.toHs.okU (o:=.tup (ns.map V.int)) hp
    have nM:=st1.toHs.new hp
    have npb:b≠some p:=fun z=>nM (st.bagM p z)
    refine ⟨pn,M,b,ρ,_,st1.step kp okp,hy.2,fun z u H3 hz rz k3 o3=>?_⟩
    cases z<;>first|exact hz.elim|skip
    rename_i n
    cases (show _=_ from rz)
    refine QW ps H3 _ ((st1.step kp okp).step k3 o3) hz fun more kx H' hP e1 e2 hk k4 o4=>?_
    refine k ((ns,p,.int n)::more) ((ns,n)::kx) H' hP (by rw [List.map_cons,List.map_cons,e1]) (by rw [List.map_cons,List.map_cons,e2]) (fun x hx=>?_) (((k1.trans kp).trans k3).trans k4) o4
    rcases List.mem_cons.mp hx with z|z
    · subst z
      exact ⟨nM,k4 p _ npb (k3 p _ npb Q5)⟩
    · exact hk x z
theorem J2w {more:List (List Int×Addr×V)}{us:List Value}(h:Vals (more.map (·.2.2)) us):us.length=more.length:=by
 have:=h.length;simpa using this.symm
theorem MY:∀ {more:List (List Int×Addr×V)} {us:List Value},us.length=more.length->(MA more us).map (·.1)=more.map (·.1)/\(MA more us).map (·.2.2)=us/\∀ e∈MA more us,∃ x∈more,e.1=x.1/\e.2.1=x.2.1
 | [],[],_=>⟨rfl,rfl,fun _ h=>by cases h⟩
 | x::more,[],h=>by simp at h
 | [],u::us,h=>by simp at h
 | x::more,u::us,h=>by
   obtain ⟨i1,i2,i3⟩:=MY (more:=more) (us:=us) (by simpa using h)
   rw [show MA (x::more) (u::us)=(x.1,x.2.1,u)::MA more us from rfl]
   refine ⟨by rw [List.map_cons,List.map_cons,i1],by rw [List.map_cons,i2],fun e m=>?_⟩
   rcases List.mem_cons.mp m with z|z
   · subst z;exact ⟨x,List.mem_cons_self ..,rfl,rfl⟩
   · obtain ⟨y,hy,q⟩:=i3 e z;exact ⟨y,List.mem_cons_of_mem _ hy,q⟩
theorem Reps.of_ints {H:Hp}:∀ (kx:List (List Int×Int)),Reps K M H (kx.map fun p=>.int p.2) (kx.map fun p=>V.int p.2)
 | []=>rfl
 | y::kx=>⟨_,_,rfl,rfl,Reps.of_ints kx⟩
theorem HC {keys:List (Option Expr)}{values:List Expr}(ps:List (DA×DE))(hK:X.K=W.K)(hu:X.A.units+64<cLine)(h:PPs X pos keys values (ps.map fun p=>(J5w (dnA W p.1),dn W p.2)))(hall:keys.all (·.isSome)=true:=by rfl)(hl:keys.length=values.length:=by rfl)(h0:keys≠[]:=by intro z;cases z)
 (h15:keys.length<=15:=by decide):JE X W (.Dict keys values pos) (Q6w ps):=⟨(J1x (by omega) h hall hl h0 h15).mono fun σ H Q hh=>hh.elim fun pn M b ρ P st h k=>by
 rw [hK]
 intro p hp
 have kp:Kp b H (upd H p (DOb p [] 0)):=Kp.upd hp
 have okp:=st.toHs.okU (o:=DOb p [] 0) hp
 have nM:=st.toHs.new hp
 have npb:b≠some p:=fun z=>nM (st.bagM p z)
 refine QW ps _ _ (st.step kp okp) h fun more kx H' hP e1 e2 hk k4 o4=>?_
 have hd:=k4 p _ npb Q5
 have hlen:more.length=kx.length:=by have:=congrArg List.length e1;simpa using this
 refine ⟨hd,more,rfl,fun x hx=>.inl (.inl (hk x hx).2),by rw [hlen];exact hP.1.2,by rw [e1];exact hP.1.1,fun us ep hv=>?_⟩
 obtain ⟨n1,n2,n3⟩:=MY (J2w hv)
 refine k _ _ _ (hP.2 (MA more us,ep)) ⟨p,more.map (·.2.2),rfl,⟨nM,Q5,by rw [n1,e1],fun e m=>?_,by rw [n2];exact hv⟩,by rw [e2];exact Reps.of_ints kx⟩ (fun c o n q=>?_) fun q e=>?_
 · obtain ⟨x,hx,q1,q2⟩:=n3 e m
   rw [q1,q2]
   refine .inl ⟨(hk x hx).1,?_⟩
   rw [Q3 (WS (hk x hx).2 hd (fun z=>nomatch z))]
   exact (hk x hx).2
 · have ne:c≠p:=fun z=>by rw [z,hp] at q;cases q
   rw [Q3 ne]
   exact k4 c o n (kp c o n q)
 · refine W.B.st q H' _ (o4 q e) fun o eo=>?_
   rw [Q3 (show q≠p from fun z=>npb (by rw [<- z];exact e))]
   exact eo⟩
end
theorem Reps.erase {H:Hp}:∀ {ds:List D} {vs:List V} (j:Nat),Reps K M H ds vs->Reps K M H (ds.eraseIdx j) (vs.eraseIdx j)
 | [],_,_,h=>by cases (show _=_ from h);exact rfl
 | d::ds,_,0,h=>by
   obtain ⟨v,r,rfl,h1,h2⟩:=h
   exact h2
 | d::ds,_,j+1,h=>by
   obtain ⟨v,r,rfl,h1,h2⟩:=h
   exact ⟨v,_,rfl,h1,Reps.erase j h2⟩
section
variable {X:Cx}{W:Wd}{tg e:Expr}{pos:Pos}{dA:DA}
def J4s (i:Nat)(gd:D->Ev->(Ev->Prop)->Prop)(dA:DA):DS:=fun F ρ=>match ρ[i]? with
 | some (some (.own ys))=>dA ρ fun xs=>(match xs with
   | [.int k]=>(0<=k/\k<ys.length/\ys.length<=1000)/\(ys[k.toNat]?).elim False fun y=>gd y (ρ.set i (some (.own (ys.eraseIdx k.toNat)))) F.nx
   | _=>False)
 | _=>False
theorem J5t {i:Nat}{g:TG}{gd:D->Ev->(Ev->Prop)->Prop}(hG:GD W g gd):∀ E σ H,sn W (J4s i gd dA) E σ H->J5z (tBM W.K "list" UT (JN i) (dnA W dA)) g E σ H:=fun E σ H hh=>hh.elim fun pn M b ρ F s l h=>by
 unfold J4s at h
 split at h
 case h_2=>exact h.elim
 case h_1 ys e =>
  obtain ⟨a,vs,ea,nb,hh,r⟩:=HR s.toSta e
  refine ⟨.ref a,ea,.inl ⟨rfl,vs,SqL.of hh⟩,pn,M,b,ρ,_,s.toSta,h,fun xs us H' hx rx k o=>?_⟩
  match xs,hx with
  | [.int n],hx =>
    obtain ⟨u,rfl,ru⟩:=rx1 rx
    cases (show _=_ from ru)
    obtain ⟨⟨h0,h1,h2⟩,hx⟩:=hx
    have s':=s.step k o
    obtain ⟨a',vs',ea',nb',hh',r'⟩:=HR s'.toSta e
    rw [ea] at ea';cases ea'
    have hl:=r'.length
    cases ey:ys[n.toNat]? with
    | none=>rw [ey] at hx;exact hx.elim
    | some y =>
      rw [ey] at hx
      obtain ⟨v,ev,rv⟩:=r'.get ey
      have st2:=s'.setOwn i e ea (r'.erase n.toNat)
      have rv2:Rep W.K M (upd H' a (.lst (vs'.eraseIdx n.toNat))) y v:=Rep.keep (fun c oo nn q=>by
       obtain ⟨v0,e1,a',us,evv,m1,_⟩:=s'.env i _ e
       rw [ea] at e1;cases e1;cases evv
       rw [Q3 (show c≠a from fun z=>nn (by rw [z];exact m1))]
       exact q) _ _ rv
      have pl:plain y=true:=by
       cases y<;>first|rfl|exact rv.elim
      refine ⟨a,vs',n,n.toNat,v,rfl,rfl,hh',by omega,by omega,?_,ev,?_⟩
      · have hn:n.toNat<vs'.length:=by rw [hl];omega
        have e1:(if n<0 then n+(vs'.length:Int) else n)=n:=if_neg (by omega)
        have hz:n<(vs'.length:Int):=by omega
        unfold seqIndex?
        simp [e1,h0,hz]
      · exact hG pn M b _ σ _ y v _ _ st2.toSta rv2.x pl hx fun ρ' σ' hq st3 ho=>l.nx _ _ _ _ _ (st2.of st3 ho) hq
theorem J3l {i:Nat}{x:Str}{g:TG}{gd:D->Ev->(Ev->Prop)->Prop}{npos apos cpos:Pos}(hK:X.K=W.K)(hG:GD W g gd)(ha:JA X W [e] dA)(hg:PG X tg g)
 (h:PE X (.Call (.Attribute (.Name x npos) "pop" apos) [e] [] cpos) (tBM X.K "list" UT (JN i) (dnA W dA))) (hs:swapsWithSole [tg] (.Call (.Attribute (.Name x npos) "pop" apos) [e] [] cpos) pos.line X.env=pure false:=by rfl) (hw:swappedStores [tg] (.Call (.Attribute (.Name x npos) "pop" apos) [e] [] cpos) X.env=pure none:=by rfl)
 (h1:(assignEach [tg] X.env).map (·.2)=[assign tg X.env]:=by rfl):JS X W (.Assign [tg] (.Call (.Attribute (.Name x npos) "pop" apos) [e] [] cpos) pos) (J4s i gd dA):=⟨(KF (by rw [hK] at h;exact h) hg hs hw h1).mono (J5t hG)⟩
end
def NJ:Nat->List (Option Nat)->Bool
 | _,[]=>true
 | n,none::m=>NJ (n+1) m
 | n,some i::m=>(i==n)&&NJ (n+1) m
theorem FR:∀ {m:List (Option Nat)} {n:Nat},NJ n m=true->∀ j i:Nat,m[j]?=some (some i)->i=n+j
 | [],_,_,j,i,e=>by simp at e
 | none::m,n,h,0,i,e=>by simp at e
 | none::m,n,h,j+1,i,e=>by
   have:=FR (n:=n+1) h j i (by simpa using e)
   omega
 | some a::m,n,h,j,i,e=>by
   unfold NJ at h
   rw [Bool.and_eq_true,beq_iff_eq] at h
   cases j with
   | zero=>simp at e;omega
   | succ j =>
     have:=FR h.2 j i (by simpa using e)
     omega
def DL:List (Option Nat)->List (Option Nat)->Bool
 | [],[]=>true
 | none::m,_::n=>DL m n
 | some _::m,some _::n=>DL m n
 | _,_=>false
theorem FZ:∀ {m n:List (Option Nat)},DL m n=true->m.length=n.length
 | [],[],_=>rfl
 | none::m,_::n,h=>congrArg Nat.succ (FZ (m:=m) (n:=n) (by unfold DL at h;exact h))
 | some _::m,some _::n,h=>congrArg Nat.succ (FZ (m:=m) (n:=n) (by unfold DL at h;exact h))
 | [],_::_,h=>by cases h
 | none::_,[],h=>by cases h
 | some _::_,[],h=>by cases h
 | some _::_,none::_,h=>by cases h
theorem GA:∀ {m n:List (Option Nat)},DL m n=true->∀ j i:Nat,m[j]?=some (some i)->∃ i',n[j]?=some (some i')
 | [],[],_,j,i,e=>by simp at e
 | none::m,_::n,h,0,i,e=>by simp at e
 | none::m,_::n,h,j+1,i,e=>by
   obtain ⟨i',q⟩:=GA (m:=m) (n:=n) (by unfold DL at h;exact h) j i (by simpa using e)
   exact ⟨i',by simpa using q⟩
 | some _::m,some b::n,h,0,i,e=>⟨b,rfl⟩
 | some _::m,some _::n,h,j+1,i,e=>by
   obtain ⟨i',q⟩:=GA (m:=m) (n:=n) (by unfold DL at h;exact h) j i (by simpa using e)
   exact ⟨i',by simpa using q⟩
 | [],_::_,h,_,_,_=>by cases h
 | none::_,[],h,_,_,_=>by cases h
 | some _::_,[],h,_,_,_=>by cases h
 | some _::_,none::_,h,_,_,_=>by cases h
theorem LK {σ:St}{map:List (Option Nat)}{j:Nat}{v:V}(e:(capt σ map)[j]?=some (some v)):∃ i,map[j]?=some (some i)/\σ[i]?=some (some v):=by
 unfold capt at e
 rw [List.getElem?_map] at e
 cases hm:map[j]? with
 | none=>rw [hm] at e;cases e
 | some o =>
   rw [hm] at e
   cases o with
   | none=>simp at e
   | some i =>
     refine ⟨i,rfl,?_⟩
     have e':(σ[i]?).join=some v:=by simpa using e
     cases q:σ[i]? with
     | none=>rw [q] at e';cases e'
     | some o'=>rw [q] at e';exact congrArg some e'
theorem J8y {σ:St}{map:List (Option Nat)}{j i:Nat}{v:V}(hm:map[j]?=some (some i))(e:σ[i]?=some (some v)):(capt σ map)[j]?=some (some v):=by
 unfold capt
 rw [List.getElem?_map,hm]
 simp [e]
structure DOk (X:Cx)(P0:List (Addr×Obj))(D:Addr):Prop where
 loc:D≠X.env.locals
 fs:D∉X.fs
 cell:∀ x c,X.env.cells.lookup x=some c->c≠D
 sz:X.s₀.heap.objs.size<=D
 pn:∀ p∈X.pn++P0,p.1≠D
structure Blk2 (X:Cx)(N':List Str)(scope:Scope)(map mp2:List (Option Nat))(tg tg2 iter2 elt:Expr)(ifs:List Expr)(g:TG)(wi2:TI)(g2:TG)(tt:TT)(te:TE):Prop where
 calm:X.calm=true
 kind:scope.kind=.function
 loc:∀ x∈scope.names,x.2=.local->scope.names.lookup x.1=some .local
 free:(scope.names.all fun p=>!(p.2==NameKind.free)||(X.env.kindOf p.1==some .cell||X.env.kindOf p.1==some .free))=true
 cap:CapOk X scope map N'
 keep:FG g map
 keep2:FG g2 mp2
 ids:NJ 0 mp2=true
 sub:DL map mp2=true
 fold:∀ env x,foldedSetIterable iter2 env x=pure x
 run:∀ cells C fp s H,PG (J9 X N' scope cells C fp s H).nox tg g/\PI (J9 X N' scope cells C fp s H).nox tg2 iter2 wi2/\PG (J9 X N' scope cells C fp s H).nox tg2 g2/\PIf (J9 X N' scope cells C fp s H).nox ifs tt/\PE (J9 X N' scope cells C fp s H).nox elt te
section
variable {X:Cx}{elt tg tg2 iter2:Expr}{ifs:List Expr}{scope:Scope}{N':List Str}{map mp2:List (Option Nat)}{wi2:TI}{g g2:TG}{tt:TT}{te:TE}
theorem Blk2.one (B:Blk2 X N' scope map mp2 tg tg2 iter2 elt ifs g wi2 g2 tt te):Blk X N' scope map tg elt ifs (fun _ _ _ _=>False) (fun _ _ _=>False) (fun _ _ _=>False) :=
 ⟨B.calm,B.kind,B.loc,B.free,B.cap,fun _ _ _ _ z=>z.elim,fun _ _ _ _ _ _=>⟨fun _ _ _ _ _ _ _ _ _ z=>z.elim,fun _ _ _ _ _ _ z=>z.elim,fun _ _ _ _ _ _ z=>z.elim⟩⟩
theorem Blk2.clos {pins:List (Addr×Obj)}{σ:St}{H:Hp}{s:Shared}(B:Blk2 X N' scope map mp2 tg tg2 iter2 elt ifs g wi2 g2 tt te)(I:Inv X pins σ H s) :
 ∃ cl,closureFor scope X.env=pure cl/\(∀ x c,cl.lookup x=some c->X.env.cells.lookup x=some c)/\∀ x,(x,NameKind.free)∈scope.names->(cl.lookup x).isSome=true:=B.one.clos I
end
theorem PV (elt:Expr)(g1:Comprehension)(target iter:Expr)(ifs:List Expr)(scope:Scope)(pos:Pos)(it acc:Value)(env:Env) :
 compTurn (.SetComp elt [g1,⟨target,iter,ifs,0⟩] scope pos) 1 it acc env=(do
  standAt iter.pos
  match <- pyNext it with
  | none=>pure (.done .next)
  | some v =>
    letOwnedTupleGo target it v
    assign target env v
    let mut ok:=true
    for c in ifs do
     if ok then ok <- isTrue c env (eval c env)
    if ok then
     (do let v <- eval elt env;standAt elt.pos;let _ <- call (.builtin "set.add") [acc,v])
    again (.compLoop (.SetComp elt [g1,⟨target,iter,ifs,0⟩] scope pos) 1 it acc env)):=by rfl
theorem MC (elt target iter target' iter':Expr)(ifs:List Expr)(scope:Scope)(pos:Pos)(it acc:Value)(env:Env) :
 compTurn (.SetComp elt [⟨target,iter,[],0⟩,⟨target',iter',ifs,0⟩] scope pos) 0 it acc env=(do
  standAt iter.pos
  match <- pyNext it with
  | none=>pure (.done .next)
  | some v =>
    letOwnedTupleGo target it v
    assign target env v
    let mut ok:=true
    for c in ([]:List Expr) do
     if ok then ok <- isTrue c env (eval c env)
    if ok then
     let x <- eval iter' env
     standAt iter'.pos
     let x <- foldedSetIterable iter' env x
     let _ <- runOwn (.compStart (.SetComp elt [⟨target,iter,[],0⟩,⟨target',iter',ifs,0⟩] scope pos) 1 (<- holding [x] (pyIter x)) acc env) env
    again (.compLoop (.SetComp elt [⟨target,iter,[],0⟩,⟨target',iter',ifs,0⟩] scope pos) 0 it acc env)):=by rfl
theorem QA {prog:Program}{w:World}{A:Around}{R:Result->Shared->Prop}{s:Shared}{elt target iter:Expr}{g1:Comprehension}{ifs:List Expr}{scope:Scope}{pos:Pos}{it acc:Value}{env:Env}(J:Nat->Shared->Prop)
 (turn:∀ n s,J n s->wpAny (model prog w) A (pyNext it) (fun r s₁=>match r with
  | none=>R (.ok .next) s₁
  | some v=>wpAny (model prog w) A (letOwnedTupleGo target it v) (fun _ s₁'=>wpAny (model prog w) A (assign target env v) (fun _ s₂=>wpAny (model prog w) A (QY ifs env) (fun ok s₃ =>
   if ok=true then wpAny (model prog w) A (eval elt env) (fun x s₄=>wpAny (model prog w) A (call (.builtin "set.add") [acc,x]) (fun _ s₅=>∃ m,m<n/\J m s₅) (notedBy (model prog w) A env fun e s'=>R (.error e) s') s₄)
    (notedBy (model prog w) A env fun e s'=>R (.error e) s') s₃
   else ∃ m,m<n/\J m s₃) (notedBy (model prog w) A env fun e s'=>R (.error e) s') s₂) (notedBy (model prog w) A env fun e s'=>R (.error e) s') s₁') (notedBy (model prog w) A env fun e s'=>R (.error e) s') s₁)
   (notedBy (model prog w) A env fun e s'=>R (.error e) s') s) (n:Nat) (h:J n s) :
 codeAny (model prog w) A (.compLoop (.SetComp elt [g1,⟨target,iter,ifs,0⟩] scope pos) 1 it acc env) R s:=by
 refine codeAny_loop rfl J (fun n s hJ=>?_) n h
 show wpAny _ _ (Sem.onRaise (compTurn (.SetComp elt [g1,⟨target,iter,ifs,0⟩] scope pos) 1 it acc env) fun x=>do noteFrame x env;theTreesLotGoes x) _ _ _
 refine wpAny_noted ?_
 rw [PV]
 refine wpAny_bind (wpAny_standAt (wpAny_bind (thn (turn n s hJ) fun r s₁ h₁=>?_)))
 cases r with
 | none=>exact wpAny_pure h₁
 | some v =>
   refine wpAny_bind (thn h₁ fun _ s₁' h₁'=>wpAny_bind (thn h₁' fun _ s₂ h₂=>wpAny_bind (thn h₂ fun ok s₃ h₃=>?_)))
   cases ok with
   | true=>exact wpAny_bind (wpAny_bind (thn h₃ fun x s₄ h₄=>wpAny_bind (wpAny_standAt (wpAny_bind (thn h₄ fun _ s₅ h₅=>wpAny_pure (wpAny_pure ⟨rfl,h₅⟩))))))
   | false=>exact wpAny_pure ⟨rfl,h₃⟩
theorem MD {prog:Program}{w:World}{A:Around}{R:Result->Shared->Prop}{s:Shared}{elt target iter:Expr}{g1:Comprehension}{ifs:List Expr}{scope:Scope}{pos:Pos}{it acc:Value}{env:Env}
 (h0:codeAny (model prog w) A (.compLoop (.SetComp elt [g1,⟨target,iter,ifs,0⟩] scope pos) 1 it acc env) R s)
 (h:wpAny (model prog w) A (pyIter it) (fun it' s'=>codeAny (model prog w) A (.compLoop (.SetComp elt [g1,⟨target,iter,ifs,0⟩] scope pos) 1 it' acc env) R s')
  (notedBy (model prog w) A env fun x s'=>R (.error x) s') s) :
 codeAny (model prog w) A (.compStart (.SetComp elt [g1,⟨target,iter,ifs,0⟩] scope pos) 1 it acc env) R s:=by
 refine codeAny_of_tree ?_
 show wpAny _ _ ((compStart (.SetComp elt [g1,⟨target,iter,ifs,0⟩] scope pos) 1 it acc env).onRaise (fun x=>do noteFrame x env;standAt theWindowsPlace)) _ _ s
 refine wpAny_notedAt ?_
 unfold compStart
 show wpAny _ _ (ask >>= _) _ _ s
 refine wpAny_bind (wpAny_askSetting (wpAny_ite ?_))
 split
 · first
    | exact wpAny_bind (wpAny_pure (wpAny_pure (And.intro rfl h0)))
    | exact wpAny_pure (And.intro rfl h0)
 · first
    | exact wpAny_bind (wpAny_rule (wpAny_bind (wpAny_standAt (wpAny_bind (wpAny_mono h (fun it' s' h'=>wpAny_pure (And.intro rfl h')) fun _ _ x=>x)))))
    | (refine wpAny_bind (wpAny_rule ?_);show wpAny _ _ (standAt iter.pos >>= _) _ _ s;exact wpAny_bind (wpAny_standAt (wpAny_bind (wpAny_mono h (fun it' s' h'=>wpAny_pure (And.intro rfl h')) fun _ _ x=>x))))
theorem ME {prog:Program}{w:World}{A:Around}{R:Result->Shared->Prop}{s:Shared}{elt target iter target' iter':Expr}{ifs:List Expr}{scope:Scope}{pos:Pos}{it acc:Value}{env:Env}(J:Nat->Shared->Prop)
 (hs:∀ x,foldedSetIterable iter' env x=pure x)
 (turn:∀ n s,J n s->wpAny (model prog w) A (pyNext it) (fun r s₁=>match r with
  | none=>R (.ok .next) s₁
  | some v=>wpAny (model prog w) A (letOwnedTupleGo target it v) (fun _ s₁'=>wpAny (model prog w) A (assign target env v) (fun _ s₂=>wpAny (model prog w) A (eval iter' env) (fun x s₃=>wpAny (model prog w) A (pyIter x) (fun it' s₄ =>
   codeAny (model prog w) A (.compStart (.SetComp elt [⟨target,iter,[],0⟩,⟨target',iter',ifs,0⟩] scope pos) 1 it' acc env) (fun r s'=>r=.ok .next/\∃ m,m<n/\J m s') s₄)
    (fun _ _=>False) s₃) (fun _ _=>False) s₂) (fun _ _=>False) s₁') (fun _ _=>False) s₁)
   (fun _ _=>False) s) (n:Nat) (h:J n s) :
 codeAny (model prog w) A (.compLoop (.SetComp elt [⟨target,iter,[],0⟩,⟨target',iter',ifs,0⟩] scope pos) 0 it acc env) R s:=by
 refine codeAny_loop rfl J (fun n s hJ=>?_) n h
 show wpAny _ _ (Sem.onRaise (compTurn (.SetComp elt [⟨target,iter,[],0⟩,⟨target',iter',ifs,0⟩] scope pos) 0 it acc env) fun x=>do noteFrame x env;theTreesLotGoes x) _ _ _
 refine wpAny_noted ?_
 rw [MC]
 refine wpAny_bind (wpAny_standAt (wpAny_bind (wpAny_mono (turn n s hJ) (fun r s₁ h₁=>?_) fun _ _ z=>False.elim z)))
 cases r with
 | none=>exact wpAny_pure h₁
 | some v =>
   refine wpAny_bind (wpAny_mono h₁ (fun _ s₁' h₁'=>wpAny_bind (wpAny_mono h₁' (fun _ s₂ h₂=>wpAny_bind (wpAny_tests_nil ?_)) fun _ _ z=>False.elim z)) fun _ _ z=>False.elim z)
   refine wpAny_bind (wpAny_mono h₂ (fun x s₃ h₃=>?_) fun _ _ z=>False.elim z)
   refine wpAny_bind (wpAny_standAt (wpAny_bind (wpAny_of_eq (hs x) (wpAny_bind (wpAny_holding (wpAny_mono h₃ (fun it' s₄ h₄=>?_) fun _ _ z=>False.elim z))))))
   refine wpAny_bind (wpAny_runOwn (codeAny_mono h₄ fun r s' q=>?_))
   obtain ⟨rfl,q⟩:=q
   exact wpAny_pure ⟨rfl,q⟩
theorem PX {prog:Program}{w:World}{A:Around}{R:Result->Shared->Prop}{s:Shared}{elt target iter:Expr}{g1:Comprehension}{ifs:List Expr}{scope:Scope}{pos:Pos}{it acc:Value}{env:Env}
 (h0:codeAny (model prog w) A (.compLoop (.SetComp elt [⟨target,iter,ifs,0⟩,g1] scope pos) 0 it acc env) R s)
 (h:wpAny (model prog w) A (pyIter it) (fun it' s'=>codeAny (model prog w) A (.compLoop (.SetComp elt [⟨target,iter,ifs,0⟩,g1] scope pos) 0 it' acc env) R s')
  (notedBy (model prog w) A env fun x s'=>R (.error x) s') s) :
 codeAny (model prog w) A (.compStart (.SetComp elt [⟨target,iter,ifs,0⟩,g1] scope pos) 0 it acc env) R s:=by
 refine codeAny_of_tree ?_
 show wpAny _ _ ((compStart (.SetComp elt [⟨target,iter,ifs,0⟩,g1] scope pos) 0 it acc env).onRaise (fun x=>do noteFrame x env;standAt theWindowsPlace)) _ _ s
 refine wpAny_notedAt ?_
 unfold compStart
 show wpAny _ _ (ask >>= _) _ _ s
 refine wpAny_bind (wpAny_askSetting (wpAny_ite ?_))
 split
 · first
    | exact wpAny_bind (wpAny_pure (wpAny_pure (And.intro rfl h0)))
    | exact wpAny_pure (And.intro rfl h0)
 · first
    | exact wpAny_bind (wpAny_rule (wpAny_bind (wpAny_standAt (wpAny_bind (wpAny_mono h (fun it' s' h'=>wpAny_pure (And.intro rfl h')) fun _ _ x=>x)))))
    | (refine wpAny_bind (wpAny_rule ?_);show wpAny _ _ (standAt iter.pos >>= _) _ _ s;exact wpAny_bind (wpAny_standAt (wpAny_bind (wpAny_mono h (fun it' s' h'=>wpAny_pure (And.intro rfl h')) fun _ _ x=>x))))
def okA (acc:List V):Prop:=(∃ ns:List Int,acc=ns.map V.int)/\acc.length<=2000
def SG (prog:Program)(w:World)(acc:List V)(o:Obj):Prop:=∃ ns es ep t,acc=ns.map V.int/\ISo prog w ns o es ep t
theorem SG.nc {prog:Program} {acc:List V}{o:Obj}(h:SG prog w acc o)(v:Option Value):o.data≠.cell v:=fun z=>by
 obtain ⟨ns,es,ep,t,_,I⟩:=h
 rw [I.da] at z
 cases z
def SOb (prog:Program)(w:World)(ns:List Int)(D:Addr):HO:=.ext fun h=>ISet prog w ns D h
theorem Q1a {prog:Program} {A:Around}{E:Value->Shared->Prop}{s:Shared}{D:Addr}{o:Obj}{acc:List V}{y:V}{v:Value}{Q:Value->Shared->Prop}(g:s.heap.get? D=some o)(S:SG prog w acc o)(ok:okA (acc++[y]))(r:RelV y v)
 (fin:∀ h' o' tk,Heap.SameBut D s.heap h'->h'.get? D=some o'->SG prog w (acc++[y]) o'->Q .none { s with heap:=h',toks:=tk }):wpAny (model prog w) A (call (.builtin "set.add") [.ref D,v]) Q E s:=by
 obtain ⟨ns,es,ep,t,e,I⟩:=S
 obtain ⟨⟨ms,em⟩,hl⟩:=ok
 subst e
 obtain ⟨n,rfl⟩:∃ n,y=.int n:=by
  have:y∈ms.map V.int:=by rw [<- em];simp
  obtain ⟨n,_,q⟩:=List.mem_map.mp this
  exact ⟨n,q.symm⟩
 obtain ⟨k,rfl⟩:∃ k,v=.int n k:=r
 refine J3x ⟨o,es,ep,t,g,I⟩ (by rw [List.length_append,List.length_map] at hl;simp only [List.length_cons,List.length_nil] at hl;omega) fun h' sb h=>?_
 obtain ⟨o',es',ep',t',g',I'⟩:=h
 exact fin h' o' _ sb g' ⟨ns++[n],es',ep',t',by rw [List.map_append];rfl,I'⟩
theorem VM {X:Cx}{P0:List (Addr×Obj)}{σ:St}{map:List (Option Nat)}{H1:Hp}{s:Shared}{D:Addr}{acc0:List V}{o0:Obj}{tg elt iter:Expr}{g1:Comprehension}{ifs:List Expr}{scope:Scope}{pos:Pos}{fp:List Addr}{it:Addr}{tn:Nat->Heap->Prop}{J:It}{g:TG}{tt:TT}{te:TE}{W:Nat->Nat->List V->Hp->Prop}{m0:Nat}{Fin:List V->Hp->Prop}
 (calm:X.calm=true) (d:DOk X P0 D) (I:Inv X P0 (capt σ map) H1 s) (hD:H1 D=none) (oD:s.heap.get? D=some o0) (rv:SG X.prog X.w acc0 o0)
 (T:Turn X.prog X.w X.K tg J fp it tn) (st:tn 0 s.heap) (hf:∀ b∈fp,DV X P0 H1 b) (nD:∀ b∈fp,b≠D)
 (pg:PG X tg g) (pif:PIf X ifs tt) (pel:PE X elt te) (nx:X.xe=fun _ _=>False) (keep:FG g map) (w0:W 0 m0 acc0 H1) (ht:LN J g tt te (capt σ map) Fin W) (hW:∀ i m acc H,W i m acc H->okA acc) :
 codeAny (model X.prog X.w) X.A (.compLoop (.SetComp elt [g1,⟨tg,iter,ifs,0⟩] scope pos) 1 (.ref it) (.ref D) X.env) (fun r s'=>r=.ok .next/\∃ acc o H',Inv X P0 (capt σ map) H' s'/\H' D=none/\s'.heap.get? D=some o/\SG X.prog X.w acc o/\Fin acc H') s:=by
 refine QA (fun n s'=>∃ i acc H' o,Inv X P0 (capt σ map) H' s'/\tn i s'.heap/\(∀ b∈fp,H' b=none)/\H' D=none/\s'.heap.get? D=some o/\SG X.prog X.w acc o/\W i n acc H') ?_ m0 ⟨0,acc0,H1,o0,I,st,fun b hb=>(hf b hb).1,hD,oD,rv,w0⟩
 rintro n s5 ⟨i,acc,H5,oS,I5,st5,fr5,hD5,oD5,rv5,w5⟩
 have pinD:Inv X ((D,oS)::P0) (capt σ map) H5 s5:=I5.pins_of fun p hp=>by
  rcases List.mem_cons.mp hp with e|e
  · subst e;exact ⟨oD5,hD5,d.loc,d.fs,fun v=>rv5.nc v⟩
  · exact I5.pin p (List.mem_append_right _ e)
 have f4:∀ {H':Hp},(∀ b∈fp,H' b=none)->∀ b∈fp,DV X ((D,oS)::P0) H' b:=fun {H'} hn b hb=>by
  obtain ⟨_,f1,f2,f3,f4,f5⟩:=hf b hb
  refine ⟨hn b hb,f1,f2,f3,f4,fun p hp=>?_⟩
  rcases List.mem_append.mp hp with z|z
  · exact f5 p (List.mem_append_left _ z)
  · rcases List.mem_cons.mp z with e|e
    · rw [e];exact (nD b hb).symm
    · exact f5 p (List.mem_append_right _ e)
 have err:∀ {Z:Prop} e s',X.xe e s'->Z:=fun {Z} e s' z=>by rw [nx] at z;exact z.elim
 rcases ht i n acc H5 w5 with ⟨stop,hsz,fin⟩|⟨go,hsz,NN,hNN,step⟩
 · refine thn (T.done X rfl rfl rfl calm i _ s5 (capt σ map) H5 _ pinD (f4 fr5) st5 stop) fun r s6 ⟨hr,I6⟩=>?_
   subst hr
   have pD:=I6.pin (D,oS) (List.mem_append_right _ List.mem_cons_self)
   exact ⟨rfl,acc,oS,H5,I6.pins_of (fun p hp=>I6.pin p (List.mem_append_right _ (List.mem_cons_of_mem _ hp))),pD.2.1,pD.1,rv5,fin⟩
 · refine thn (T.item X rfl rfl rfl calm i _ s5 (capt σ map) H5 _ pinD (f4 fr5) st5 go) fun r s6 ⟨u,hr,h6⟩=>?_
   subst hr
   refine thn h6 fun _ s7 ⟨x,H7,I7,r7,y7,st7,fr7⟩=>?_
   have I7':=I7.pinned (f4 fr7) (T.obj _ _ st7)
   have stp:=keep _ _ _ _ (step x H7 y7)
   refine wpAny_mono (pg _ s7 (capt σ map) H7 x u _ I7' r7 stp) (fun _ s8 ⟨σ8,H8,I8,⟨kl,k8⟩,q8⟩=>?_) fun e s' z=>err e s' z
   refine wpAny_mono (pif _ s8 σ8 H8 _ I8 q8) (fun b s9 ⟨H9,I9,q9⟩=>?_) fun e s' z=>err e s' z
   have wk:∀ {σa:St} {Ha:Hp} {sa:Shared},σa=σ8->Inv X (((D,oS)::P0)++DU fp s7.heap) σa Ha sa ->
    Inv X P0 (capt σ map) Ha sa/\tn (i+1) sa.heap/\(∀ b∈fp,Ha b=none)/\Ha D=none/\sa.heap.get? D=some oS:=fun {σa Ha sa} ea Ia=>by
    subst ea
    refine ⟨(Ia.pins_of (pins':=P0) fun p hp=>Ia.pin p (List.mem_append_right _ (List.mem_append_left _ (List.mem_cons_of_mem _ hp)))).weak kl.symm fun j v e=>?_,T.keep _ _ _ st7 fun b hb o e=>(Ia.pin (b,o) (List.mem_append_right _ (List.mem_append_right _ (Z5 hb e)))).1,fun b hb=>?_,?_,?_⟩
    · obtain ⟨i',hm,_⟩:=LK e
      rw [k8 j i' hm];exact e
    · obtain ⟨o,e,d⟩:=T.obj _ _ st7 b hb
      exact (Ia.pin (b,o) (List.mem_append_right _ (List.mem_append_right _ (Z5 hb e)))).2.1
    · exact (Ia.pin (D,oS) (List.mem_append_right _ (List.mem_append_left _ List.mem_cons_self))).2.1
    · exact (Ia.pin (D,oS) (List.mem_append_right _ (List.mem_append_left _ List.mem_cons_self))).1
   cases b with
   | false =>
     rw [if_neg Bool.false_ne_true] at q9 ⊢
     obtain ⟨m',hm',w9⟩:=hNN _ _ q9
     obtain ⟨a1,a2,a3,a4,a5⟩:=wk rfl I9
     exact ⟨m',hm',i+1,acc,H9,oS,a1,a2,a3,a4,a5,rv5,w9⟩
   | true =>
     rw [if_pos rfl] at q9 ⊢
     refine wpAny_mono (pel _ s9 σ8 H9 _ I9 q9) (fun v s10 ⟨y,H10,I10,r10,q10⟩=>?_) fun e s' z=>err e s' z
     obtain ⟨m',hm',w10⟩:=hNN _ _ q10
     obtain ⟨a1,a2,a3,a4,a5⟩:=wk rfl I10
     refine Q1a a5 rv5 (hW _ _ _ _ w10) r10 fun h11 o' tk sb11 e11 sg11=>?_
     exact ⟨m',hm',i+1,acc++[y],H10,o',a1.turned (t':=tk) (it:=D) (fun b o hb e=>(sb11.2 b hb).trans e) a4 d.loc (.inr d.sz) d.cell d.pn,T.keep _ _ _ a2 fun b hb o e=>(sb11.2 b (nD b hb)).trans e,a3,a4,e11,sg11,w10⟩
theorem ISo.new {prog:Program}:ISo prog w [] (Q1z (!w.params.followText "set-order")) #[] 0 (.fresh 0 0 (!w.params.followText "set-order")):=⟨⟨rfl,rfl,rfl⟩,rfl,fun e he=>by simp at he,List.nodup_nil,fun z=>Iff.rfl,Nat.le_refl 0,rfl,Tb.fresh w⟩
theorem YW {prog:Program}{w:World}{A:Around}{E:Value->Shared->Prop}{s:Shared}{Q:Value->Shared->Prop}(h:Q (.ref s.heap.objs.size) { s with heap:=s.heap.push (Q1z (!w.params.followText "set-order")) }):wpAny (model prog w) A (newSet (.type "set")) Q E s:=by
 unfold newSet setsByText
 refine wpAny_bind (wpAny_bind (wpAny_askSetting (wpAny_pure ?_)))
 dsimp only
 simp only [newObj]
 exact wpAny_bind (wpAny_alloc (wpAny_pure h))
def VX (J:It)(g:TG)(mp2:List (Option Nat))(wi2:TI)(g2:TG)(tt:TT)(te:TE)(σc:St)(Fin:List V->Hp->Prop)(W:Nat->Nat->List V->Hp->Prop):Prop :=
 ∀ i m acc H2,W i m acc H2->(J.stop i H2/\Fin acc H2) \/
  (J.go i H2/\∃ N:List V->Hp->Prop,(∀ acc' H',N acc' H'->∃ m',m'<m/\W (i+1) m' acc' H')/\∀ x H3,J.yld i H2 x H3->g x σc H3 fun σ4 H4=>wi2 σ4 H4 fun J2 H5=>∃ W2:Nat->Nat->List V->Hp->Prop,(∀ i m acc H,W2 i m acc H->okA acc)/\(∃ m,W2 0 m acc H5)/\LN J2 g2 tt te (capt σ4 mp2) N W2)
section
variable {X:Cx}{elt iter tg tg2 iter2:Expr}{ifs:List Expr}{scope:Scope}{pos:Pos}{N':List Str}{map mp2:List (Option Nat)}{wi wi2:TI}{g g2:TG}{tt:TT}{te:TE}
theorem J5c {pins:List (Addr×Obj)}{σ:St}{H1:Hp}{s2:Shared}{cl:List (Str×Addr)}{fp:List Addr}{it:Addr}{tn:Nat->Heap->Prop}{J:It}{E:Value->Shared->Prop}(I:Inv X pins σ H1 s2)(B:Blk2 X N' scope map mp2 tg tg2 iter2 elt ifs g wi2 g2 tt te)
 (hsub:∀ x c,cl.lookup x=some c->X.env.cells.lookup x=some c) (hhas:∀ x,(x,NameKind.free)∈scope.names->(cl.lookup x).isSome=true)
 (T:Turn X.prog X.w X.K tg J fp it tn) (st:tn 0 s2.heap) (hf:∀ b∈fp,DV X pins H1 b) {Fin:List V->Hp->Prop} {W:Nat->Nat->List V->Hp->Prop} {m0:Nat} (w0:W 0 m0 [] H1) (ht:VX J g mp2 wi2 g2 tt te (capt σ map) Fin W)
 {RR:Value->Addr->Result->Shared->Prop}
 (hOk:∀ D C ns acc H' s' m,acc=ns.map V.int->Inv X pins σ (upd H' D (SOb X.prog X.w ns D)) s'->H' D=none->s'.heap.Ns C m->upd H' D (SOb X.prog X.w ns D) C=none->C≠X.env.locals->X.s₀.heap.objs.size<=C->(∀ x c,X.env.cells.lookup x=some c->c≠C)->(∀ p∈X.pn++pins,p.1≠C)->Fin acc H'->RR (.ref D) C (.ok .next) s') :
 wpAny (model X.prog X.w) X.A (newSet (.type "set")) (fun acc s3=>wpAny (model X.prog X.w) X.A (newFunctionEnv scope X.env.globals cl [] X.env.qual none .none (some X.env)) (fun cenv s4 =>
  codeAny (model X.prog X.w) X.A (.compStart (.SetComp elt [⟨tg,iter,[],0⟩,⟨tg2,iter2,ifs,0⟩] scope pos) 0 (.ref it) acc { cenv with scope:=relabel scope X.env }) (RR acc cenv.locals) s4) E s3) E s2:=by
 have fo:∀ b∈fp,∃ o,s2.heap.get? b=some o:=fun b hb=>by obtain ⟨o,e,_⟩:=T.obj 0 _ st b hb;exact ⟨o,e⟩
 refine YW ?_
 generalize hoN:Q1z (!X.w.params.followText "set-order")=oN
 have sgN:SG X.prog X.w [] oN:=⟨[],#[],0,_,rfl,by rw [<- hoN];exact ISo.new⟩
 have frN:oN.isFreed=false:=by rw [<- hoN];rfl
 generalize hH2:s2.heap.push oN=H2
 have szD:H2.objs.size=s2.heap.objs.size+1:=by rw [<- hH2,Heap.size_push]
 have kD:∀ b o,s2.heap.get? b=some o->H2.get? b=some o:=fun b o e=>hH2▸Heap.get?_push_of_some _ e
 simp only [newFunctionEnv,Option.isSome_some,if_true]
 refine wpAny_bind (wpAny_alloc ?_)
 refine wpAny_bind (wpAny_layCells _ (fun name kind cells=>by cases hkc:kind==NameKind.cell<;>simp [hkc]) _ _ _ _ ?_)
 dsimp only
 generalize hH3:H2.push { cls:=.type "dict",dict:=none,data:=.dict #[] }=h3
 have sz3:h3.objs.size=H2.objs.size+1:=by rw [<- hH3,Heap.size_push]
 have kC:∀ b o,H2.get? b=some o->h3.get? b=some o:=fun b o e=>hH3▸Heap.get?_push_of_some _ e
 have nsC:h3.Ns H2.objs.size fun _=>none:=hH3▸Heap.Ns.new H2 (.type "dict")
 refine wpAny_bind (wpAny_pure (wpAny_pure ?_))
 show codeAny _ _ (.compStart (.SetComp elt [⟨tg,iter,[],0⟩,⟨tg2,iter2,ifs,0⟩] scope pos) 0 (.ref it) (.ref s2.heap.objs.size) (compEnvC scope (cellsFrom h3.objs.size scope.names cl) H2.objs.size X.env)) _ _
 generalize hX':(J9 X N' scope (cellsFrom h3.objs.size scope.names cl) H2.objs.size fp s2 H1).nox=X'
 have I4:Inv X' [] (capt σ map) H1 { s2 with heap:=pushCells h3 scope.names }:=hX'▸(QI I B.one.m hsub hhas hf fo H2.objs.size h3 (by rw [szD];exact Nat.le_succ _) (fun b o e=>kC b o (kD b o e)) (by rw [sz3];exact Nat.lt_succ_self _) nsC s2.toks).wish _
 obtain ⟨pg,pi2,pg2,pif,pel⟩:=B.run (cellsFrom h3.objs.size scope.names cl) H2.objs.size fp s2 H1
 rw [hX'] at pg pi2 pg2 pif pel
 have eprog:X'.prog=X.prog:=by rw [<- hX'];rfl
 have ew:X'.w=X.w:=by rw [<- hX'];rfl
 have eK:X'.K=X.K:=by rw [<- hX'];rfl
 have eA:X'.A=X.A:=by rw [<- hX'];rfl
 have ecalm:X'.calm=true:=by rw [<- hX'];exact B.calm
 have eenv:X'.env=compEnvC scope (cellsFrom h3.objs.size scope.names cl) H2.objs.size X.env:=by rw [<- hX'];rfl
 have exe:X'.xe=fun _ _=>False:=by rw [<- hX']
 have es0:X'.s₀=s2:=by rw [<- hX'];rfl
 have eH0:X'.H₀=H1:=by rw [<- hX'];rfl
 have eex:X'.ex=fp:=by rw [<- hX'];rfl
 have efs:X'.fs=frs X.stack:=by rw [<- hX'];rfl
 have epn:X'.pn=[]:=by rw [<- hX'];rfl
 have eL:X'.env.locals=H2.objs.size:=by rw [eenv];rfl
 generalize hDd:s2.heap.objs.size=D at *
 have fD:∀ b∈fp,b≠D:=fun b hb=>by obtain ⟨o,e⟩:=fo b hb;exact Nat.ne_of_lt (hDd▸Heap.lt_size e)
 have nfsD:D∉X'.fs:=fun hb=>by
  rw [efs] at hb
  have h1:=I.stkSub D hb
  rcases List.mem_cons.mp h1 with z|z
  · have:=I.lt;rw [hDd,<- z] at this;exact Nat.lt_irrefl _ this
  · exact I.nofs (by rw [hDd];exact Nat.le_refl _) z
 have ncD:∀ x c,X'.env.cells.lookup x=some c->c≠D:=fun x c e z=>by
  rw [eenv] at e
  rcases NS _ _ _ x c e with q|q
  · obtain ⟨v,o,ho,_⟩:=I.cell x c (hsub x c q)
    have:=Heap.lt_size ho
    rw [hDd,z] at this
    exact Nat.lt_irrefl _ this
  · rw [z,sz3,szD] at q
    exact absurd (Nat.lt_of_lt_of_le (Nat.lt_succ_of_lt (Nat.lt_succ_self D)) q) (Nat.lt_irrefl _)
 have f4:∀ {H':Hp} {pl:List (Addr×Obj)},(∀ b∈fp,H' b=none)->(∀ p∈pl,p.1=D)->∀ b∈fp,DV X' pl H' b:=fun {H' pl} hn hpl b hb=>by
  have q:=hf b hb
  refine ⟨hn b hb,?_,?_,.inl (by rw [eex];exact hb),fun x c e=>?_,fun p hp=>?_⟩
  · rw [eL]
    obtain ⟨o,e⟩:=fo b hb
    have:=Heap.lt_size e
    rw [hDd] at this
    intro z
    rw [z,szD] at this
    exact absurd (Nat.lt_of_succ_lt this) (Nat.lt_irrefl _)
  · have:=I4.ok.exfs b (by rw [eex];exact hb)
    exact this
  · exact (I4.ok.exf b (by rw [eex];exact hb)).2 x c e
  · rw [epn] at hp
    have hp:p∈pl:=by simpa using hp
    rw [hpl p hp]
    exact (fD b hb).symm
 have hD4:(pushCells h3 scope.names).get? D=some oN:=pushCells_keeps _ _ _ _ (kC _ _ (by rw [<- hH2,<- hDd];exact Heap.get?_push_size _ frN))
 have loop:codeAny (model X.prog X.w) X.A (.compLoop (.SetComp elt [⟨tg,iter,[],0⟩,⟨tg2,iter2,ifs,0⟩] scope pos) 0 (.ref it) (.ref D) (compEnvC scope (cellsFrom h3.objs.size scope.names cl) H2.objs.size X.env)) (RR (.ref D) H2.objs.size) { s2 with heap:=pushCells h3 scope.names }:=by
  refine ME (fun n s'=>∃ i acc H' o,Inv X' [] (capt σ map) H' s'/\tn i s'.heap/\(∀ b∈fp,H' b=none)/\H' D=none/\s'.heap.get? D=some o/\SG X.prog X.w acc o/\W i n acc H') (B.fold _) ?_ m0
   ⟨0,[],H1,oN,I4,T.keep _ _ _ st fun b hb o e=>pushCells_keeps _ _ _ _ (kC _ _ (kD _ _ e)),fun b hb=>(hf b hb).1,I.hok.fresh (by rw [hDd];exact Nat.le_refl _),hD4,sgN,w0⟩
  rintro n s5 ⟨i,acc,H5,oS,I5,st5,fr5,hD5,oD5,rv5,w5⟩
  have pinD:Inv X' [(D,oS)] (capt σ map) H5 s5:=I5.pins_of fun p hp=>by
   have e:p=(D,oS):=by simpa using hp
   subst e
   refine ⟨oD5,hD5,?_,nfsD,fun v=>rv5.nc v⟩
   rw [eL,szD]
   exact Nat.ne_of_lt (Nat.lt_succ_self _)
  have plD:∀ p∈[(D,oS)],p.1=D:=fun p hp=>by
   have e:p=(D,oS):=by simpa using hp
   rw [e]
  have err:∀ {Z:Prop} e s',X'.xe e s'->Z:=fun {Z} e s' z=>by rw [exe] at z;exact z.elim
  rcases ht i n acc H5 w5 with ⟨stop,fin⟩|⟨go,NN,hNN,step⟩
  · have dn:=T.done X' eprog ew eK ecalm i _ s5 (capt σ map) H5 (fun _ _=>False) pinD (f4 fr5 plD) st5 stop
    rw [eA] at dn
    refine thn dn fun r s6 ⟨hr,I6⟩=>?_
    subst hr
    obtain ⟨oD6,hD6,_⟩:=I6.pin (D,_) (by rw [epn];exact List.mem_cons_self)
    obtain ⟨m,nsm,_⟩:=I6.loc
    rw [eL] at nsm
    have un:=I6.base
    rw [efs,eex,eH0,es0] at un
    have hok:=I6.hok
    rw [eprog,ew] at hok
    have os6:=I6.os
    rw [es0] at os6
    have fC:H5 H2.objs.size=none:=by rw [<- eL];exact I6.free
    have nDC:H2.objs.size≠D:=by rw [szD];exact Nat.ne_of_gt (Nat.lt_succ_self _)
    obtain ⟨ns,es,ep,t,eacc,IS⟩:=id rv5
    refine hOk D H2.objs.size ns acc H5 s6 m eacc (I.call' (ch:=fp) os6 ?_ ?_ I6.bare fun b hb=>?_) hD5 nsm (by rw [Q3 nDC];exact fC) ?_ ?_ ?_ ?_ fin
    · refine ⟨un.keep,un.slot,fun b o e n hx=>?_,un.there,fun b xs e=>?_,fun b o u e=>?_,fun b ps e=>?_⟩
      · rw [Q3 (Nat.ne_of_lt (hDd▸Heap.lt_size e))]
        exact un.free b o e n hx
      · have:=un.tups b xs e
        rw [Q3 (Q4 this hD5)]
        exact this
      · have:=un.frzs b o u e
        rw [Q3 (Q4 this hD5)]
        exact this
      · obtain ⟨more,this⟩:=un.tbls b ps e
        exact ⟨more,by rw [Q3 (Q4 this hD5)];exact this⟩
    · intro b o e
      by_cases hb:b=D
      · subst hb
        rw [Q5] at e
        cases e
        exact ⟨⟨oS,es,ep,t,oD6,IS⟩,⟨oS,oD6⟩,fun h1 h2 ⟨o,es,ep,t,g,I⟩ k=>⟨o,es,ep,t,k o g,I⟩⟩
      · rw [Q3 hb] at e
        exact (hok b o e).stay (fun _ _ _ q=>q) (fun c q=>by rw [Q3 (Q4 q hD5)];exact q) fun c xs q=>by rw [Q3 (Q4 q hD5)];exact q
    · obtain ⟨f0,f1,f2,f3,f4',f5⟩:=hf b hb
      exact ⟨f3,f1,f4',f5⟩
    · have:=I.lt
      rw [hDd] at this
      intro z
      rw [<- z,szD] at this
      exact absurd (Nat.lt_of_succ_lt this) (Nat.lt_irrefl _)
    · have:=I.sz
      rw [hDd] at this
      omega
    · intro x c e z
      obtain ⟨v,o,ho,_⟩:=I.cell x c e
      have:=Heap.lt_size ho
      rw [hDd,z,szD] at this
      exact absurd (Nat.lt_of_succ_lt this) (Nat.lt_irrefl _)
    · intro p hp z
      have:=Heap.lt_size (I.pin p hp).1
      rw [hDd,z,szD] at this
      exact absurd (Nat.lt_of_succ_lt this) (Nat.lt_irrefl _)
  · have im:=T.item X' eprog ew eK ecalm i _ s5 (capt σ map) H5 (fun _ _=>False) pinD (f4 fr5 plD) st5 go
    rw [eA] at im
    refine thn im fun r s6 ⟨u,hr,h6⟩=>?_
    subst hr
    refine thn h6 fun _ s7 ⟨x,H7,I7,r7,y7,st7,fr7⟩=>?_
    have I7':=I7.pinned (f4 fr7 plD) (T.obj _ _ st7)
    have stp:=B.keep _ _ _ _ (step x H7 y7)
    have pgx:=pg _ s7 (capt σ map) H7 x u _ I7' r7 stp
    rw [eprog,ew,eA,eenv] at pgx
    refine wpAny_mono pgx (fun _ s8 ⟨σ8,H8,I8,⟨kl,k8⟩,q8⟩=>?_) fun e s' z=>err e s' z
    have pix:=pi2 _ s8 σ8 H8 _ I8 q8
    rw [eprog,ew,eA,eenv] at pix
    refine wpAny_mono pix (fun v s9 h9=>wpAny_mono h9 (fun itv s10 h10=>?_) fun e s' z=>err e s' z) fun e s' z=>err e s' z
    obtain ⟨it2,fp2,tn2,J2,H10,e,I10,T2,st10,f10,W2,ok2,⟨m2,w10⟩,tr2⟩:=h10
    subst e
    have pD10:=I10.pin (D,oS) (List.mem_append_right _ (List.mem_append_left _ List.mem_cons_self))
    have dk:DOk X' (DU fp s7.heap) D:=⟨by rw [eL,szD];exact Nat.ne_of_lt (Nat.lt_succ_self _),nfsD,ncD,by rw [es0,hDd];exact Nat.le_refl _,fun p hp=>by
     rw [epn] at hp
     exact fD p.1 (MX (by simpa using hp)).1⟩
    have len8:(capt σ8 mp2).length=σ8.length:=by
     have h1:=FZ B.sub
     have h2:(capt σ map).length=map.length:=by unfold capt;rw [List.length_map]
     have h3:(capt σ8 mp2).length=mp2.length:=by unfold capt;rw [List.length_map]
     omega
    have I11:Inv X' (DU fp s7.heap) (capt σ8 mp2) H10 s10:=(I10.pins_of (pins':=DU fp s7.heap) fun p hp=>I10.pin p (List.mem_append_right _ (List.mem_append_right _ hp))).weak len8 fun j v e=>by
     obtain ⟨i',hm,e'⟩:=LK e
     have:i'=j:=by have:=FR B.ids j i' hm;omega
     rw [<- this];exact e'
    have run:=VM (g1:=⟨tg,iter,[],0⟩) (iter:=iter2) (scope:=scope) (pos:=pos) (X:=X') (σ:=σ8) (map:=mp2) (by rw [ecalm]) dk I11 pD10.2.1 pD10.1 (by rw [eprog,ew];exact rv5) T2 st10 (fun b hb=>by
     obtain ⟨z0,z1,z2,z3,z4,z5⟩:=f10 b hb
     exact ⟨z0,z1,z2,z3,z4,fun p hp=>(List.mem_append.mp hp).elim (fun q=>z5 p (List.mem_append_left _ q)) fun q=>z5 p (List.mem_append_right _ (List.mem_append_right _ q))⟩) (fun b hb=>by
     obtain ⟨z0,z1,z2,z3,z4,z5⟩:=f10 b hb
     exact (z5 (D,oS) (List.mem_append_right _ (List.mem_append_left _ List.mem_cons_self))).symm) pg2 pif pel exe B.keep2 w10 tr2 ok2
    rw [eprog,ew,eA,eenv] at run
    have run':=codeAny_mono (R':=fun r s'=>r=.ok .next/\∃ m,m<n/\∃ i acc H' o,Inv X' [] (capt σ map) H' s'/\tn i s'.heap/\(∀ b∈fp,H' b=none)/\H' D=none/\s'.heap.get? D=some o/\SG X.prog X.w acc o/\W i m acc H') run fun r s' q=>by
     obtain ⟨rfl,acc',o',H',I',hD',oD',rv',nn⟩:=q
     obtain ⟨m',hm',w'⟩:=hNN _ _ nn
     refine ⟨rfl,m',hm',i+1,acc',H',o',(I'.pins_of (pins':=[]) fun p hp=>absurd hp (by simp)).weak (by rw [len8,kl]) fun j v e=>?_,T.keep _ _ _ st7 fun b hb o e=>(I'.pin (b,o) (List.mem_append_right _ (Z5 hb e))).1,fun b hb=>?_,hD',oD',rv',w'⟩
     · obtain ⟨i',hm,_⟩:=LK e
       obtain ⟨i2,hm2⟩:=GA B.sub j i' hm
       have:i2=j:=by have:=FR B.ids j i2 hm2;omega
       subst this
       exact J8y hm2 (by rw [k8 _ i' hm];exact e)
     · obtain ⟨o,e,d⟩:=T.obj _ _ st7 b hb
       exact (I'.pin (b,o) (List.mem_append_right _ (Z5 hb e))).2.1
    have sf:=fun Q E=>T2.self X'.A 0 s10 Q E st10
    rw [eprog,ew,eA] at sf
    exact MD run' (sf _ _ run')
 exact PX loop (T.self _ 0 _ _ _ (T.keep _ _ _ st fun b hb o e=>pushCells_keeps _ _ _ _ (kC _ _ (kD _ _ e))) loop)
def Q4x (wi:TI)(map mp2:List (Option Nat))(g:TG)(wi2:TI)(g2:TG)(tt:TT)(te:TE)(K:Program×World):TE:=fun σ H Q=>wi σ H fun J H1=>∃ W:Nat->Nat->List V->Hp->Prop,(∃ m,W 0 m [] H1) /\
 VX J g mp2 wi2 g2 tt te (capt σ map) (fun acc H'=>∀ D ns,acc=ns.map V.int->H' D=none->Q (.ref D) (upd H' D (SOb K.1 K.2 ns D))) W
theorem J6u (B:Blk2 X N' scope map mp2 tg tg2 iter2 elt ifs g wi2 g2 tt te)(hi:PI X tg iter wi)(hs:∀ x,foldedSetIterable iter X.env x=pure x:=by intro _;rfl):PE X (.SetComp elt [⟨tg,iter,[],0⟩,⟨tg2,iter2,ifs,0⟩] scope pos) (Q4x wi map mp2 g wi2 g2 tt te (X.prog,X.w)):=by
 intro pins s σ H Q I h
 obtain ⟨cl,hcl,hsub,hhas⟩:=B.clos I
 rw [arm_eval_SetComp]
 refine wpAny_comprehension_free (use:=none) rfl hs hcl B.kind B.loc (thn (hi pins s σ H _ I h) fun v s1 h1=>thn h1 fun itv s2 h2=>?_)
 obtain ⟨it,fp,tn,J,H2,e,I2,T,st2,f2,W,⟨m0,w0⟩,turn⟩:=h2
 subst e
 refine J5c (RR:=fun acc C=>compPost (model X.prog X.w) X.A X.xe none (EP X pins σ Q) acc C) I2 B hsub hhas T st2 f2 w0 turn fun D C ns acc H' s' m ea I' hD nsm fC c1 c2 c3 c4 fin=>?_
 refine ⟨m,nsm,fun h' sb=>⟨.ref D,_,?_,rfl,fin D ns ea hD⟩⟩
 exact I'.turned (t':=s'.toks) (fun b o hb e=>(sb.2 b hb).trans e) fC c1 (.inr c2) c3 c4
end
theorem ZW (ke ve target iter:Expr)(ifs:List Expr)(scope:Scope)(pos:Pos)(it:Value)(d:Addr)(env:Env) :
 compTurn (.DictComp ke ve [⟨target,iter,ifs,0⟩] scope pos) 0 it (.ref d) env=(do
  standAt iter.pos
  match <- pyNext it with
  | none=>pure (.done .next)
  | some v =>
    letOwnedTupleGo target it v
    assign target env v
    let mut ok:=true
    for c in ifs do
     if ok then ok <- isTrue c env (eval c env)
    if ok then
     (do
      let kv <- eval ke env
      let vv <- holding [kv] (eval ve env)
      standAt { ke.pos with endLine:=ve.pos.endLine,endCol:=ve.pos.endCol }
      holding [kv,vv] (dictSet d kv vv))
    again (.compLoop (.DictComp ke ve [⟨target,iter,ifs,0⟩] scope pos) 0 it (.ref d) env)):=by rfl
theorem MF {prog:Program}{w:World}{A:Around}{R:Result->Shared->Prop}{s:Shared}{ke ve target iter:Expr}{ifs:List Expr}{scope:Scope}{pos:Pos}{it:Value}{d:Addr}{env:Env}(J:Nat->Shared->Prop)
 (turn:∀ n s,J n s->wpAny (model prog w) A (pyNext it) (fun r s₁=>match r with
  | none=>R (.ok .next) s₁
  | some v=>wpAny (model prog w) A (letOwnedTupleGo target it v) (fun _ s₁'=>wpAny (model prog w) A (assign target env v) (fun _ s₂=>wpAny (model prog w) A (QY ifs env) (fun ok s₃ =>
   if ok=true then wpAny (model prog w) A (eval ke env) (fun x s₄=>wpAny (model prog w) A (eval ve env) (fun y s₅=>wpAny (model prog w) A (dictSet d x y) (fun _ s₆=>∃ m,m<n/\J m s₆) (notedBy (model prog w) A env fun e s'=>R (.error e) s') s₅) (notedBy (model prog w) A env fun e s'=>R (.error e) s') s₄)
    (notedBy (model prog w) A env fun e s'=>R (.error e) s') s₃
   else ∃ m,m<n/\J m s₃) (notedBy (model prog w) A env fun e s'=>R (.error e) s') s₂) (notedBy (model prog w) A env fun e s'=>R (.error e) s') s₁') (notedBy (model prog w) A env fun e s'=>R (.error e) s') s₁)
   (notedBy (model prog w) A env fun e s'=>R (.error e) s') s) (n:Nat) (h:J n s) :
 codeAny (model prog w) A (.compLoop (.DictComp ke ve [⟨target,iter,ifs,0⟩] scope pos) 0 it (.ref d) env) R s:=by
 refine codeAny_loop rfl J (fun n s hJ=>?_) n h
 show wpAny _ _ (Sem.onRaise (compTurn (.DictComp ke ve [⟨target,iter,ifs,0⟩] scope pos) 0 it (.ref d) env) fun x=>do noteFrame x env;theTreesLotGoes x) _ _ _
 refine wpAny_noted ?_
 rw [ZW]
 refine wpAny_bind (wpAny_standAt (wpAny_bind (thn (turn n s hJ) fun r s₁ h₁=>?_)))
 cases r with
 | none=>exact wpAny_pure h₁
 | some v =>
   refine wpAny_bind (thn h₁ fun _ s₁' h₁'=>wpAny_bind (thn h₁' fun _ s₂ h₂=>wpAny_bind (thn h₂ fun ok s₃ h₃=>?_)))
   cases ok with
   | true=>exact wpAny_bind (wpAny_bind (thn h₃ fun x s₄ h₄=>wpAny_bind (wpAny_holding (thn h₄ fun y s₅ h₅=>wpAny_bind (wpAny_standAt (wpAny_holding (thn h₅ fun _ s₆ h₆=>wpAny_pure ⟨rfl,h₆⟩)))))))
   | false=>exact wpAny_pure ⟨rfl,h₃⟩
theorem PY {prog:Program}{w:World}{A:Around}{R:Result->Shared->Prop}{s:Shared}{ke ve target iter:Expr}{ifs:List Expr}{scope:Scope}{pos:Pos}{it acc:Value}{env:Env}
 (h0:codeAny (model prog w) A (.compLoop (.DictComp ke ve [⟨target,iter,ifs,0⟩] scope pos) 0 it acc env) R s)
 (h:wpAny (model prog w) A (pyIter it) (fun it' s'=>codeAny (model prog w) A (.compLoop (.DictComp ke ve [⟨target,iter,ifs,0⟩] scope pos) 0 it' acc env) R s')
  (notedBy (model prog w) A env fun x s'=>R (.error x) s') s) :
 codeAny (model prog w) A (.compStart (.DictComp ke ve [⟨target,iter,ifs,0⟩] scope pos) 0 it acc env) R s:=by
 refine codeAny_of_tree ?_
 show wpAny _ _ ((compStart (.DictComp ke ve [⟨target,iter,ifs,0⟩] scope pos) 0 it acc env).onRaise (fun x=>do noteFrame x env;standAt theWindowsPlace)) _ _ s
 refine wpAny_notedAt ?_
 unfold compStart
 show wpAny _ _ (ask >>= _) _ _ s
 refine wpAny_bind (wpAny_askSetting (wpAny_ite ?_))
 split
 · first
    | exact wpAny_bind (wpAny_pure (wpAny_pure (And.intro rfl h0)))
    | exact wpAny_pure (And.intro rfl h0)
 · first
    | exact wpAny_bind (wpAny_rule (wpAny_bind (wpAny_standAt (wpAny_bind (wpAny_mono h (fun it' s' h'=>wpAny_pure (And.intro rfl h')) fun _ _ x=>x)))))
    | (refine wpAny_bind (wpAny_rule ?_);show wpAny _ _ (standAt iter.pos >>= _) _ _ s;exact wpAny_bind (wpAny_standAt (wpAny_bind (wpAny_mono h (fun it' s' h'=>wpAny_pure (And.intro rfl h')) fun _ _ x=>x))))
def DGo (prog:Program)(w:World)(acc:List (Int×V))(o:Obj):Prop:=∃ vs,KV acc vs/\o.IsDictOf (intKind prog w) vs
theorem DGo.nc {prog:Program} {acc:List (Int×V)}{o:Obj}(h:DGo prog w acc o)(v:Option Value):o.data≠.cell v:=fun z=>by
 obtain ⟨vs,_,es,ep,_,d,_⟩:=h
 rw [d] at z
 cases z
def IDb (prog:Program)(w:World)(acc:List (Int×V))(D:Addr):HO:=.ext fun h=>∃ o,h.get? D=some o/\DGo prog w acc o
theorem KV.keyz {κ:Type}:∀ {a:List (κ×V)} {b:List (κ×Value)},KV a b->b.map (·.1)=a.map (·.1):=fun {a b} h=>by
 induction h with
 | nil=>rfl
 | cons p _ ih=>rw [List.map_cons,List.map_cons,ih,p.1]
theorem KV.snoc {κ:Type}{k:κ}{y:V}{v:Value}(r:RelV y v):∀ {a:List (κ×V)} {b:List (κ×Value)},KV a b->KV (a++[(k,y)]) (b++[(k,v)]):=fun {a b} h=>by
 induction h with
 | nil=>exact .cons ⟨rfl,r⟩ .nil
 | cons p _ ih=>exact .cons p ih
theorem Q3c {prog:Program} {A:Around}{E:Value->Shared->Prop}{s:Shared}{D:Addr}{o:Obj}{acc:List (Int×V)}{k:Int}{t:Tok}{y:V}{v:Value}{Q:Unit->Shared->Prop}(g:s.heap.get? D=some o)(S:DGo prog w acc o)(hk:k∉acc.map (·.1))(hl:acc.length<=1000)(r:RelV y v)
 (fin:∀ h' o' tk,Heap.SameBut D s.heap h'->h'.get? D=some o'->DGo prog w (acc++[(k,y)]) o'->Q () { s with heap:=h',toks:=tk }):wpAny (model prog w) A (dictSet D (.int k t) v) Q E s:=by
 obtain ⟨vs,kv,dd⟩:=S
 have ks:=KV.keyz kv
 have len:vs.length=acc.length:=by have:=congrArg List.length ks;simpa using this
 have ns:stored vs k v=vs++[(k,v)]:=by
  unfold stored
  rw [if_neg]
  intro z
  obtain ⟨p,hp,e⟩:=List.any_eq_true.mp z
  exact hk (ks▸List.mem_map.mpr ⟨p,hp,of_decide_eq_true e⟩)
 refine wpAny_dictSet_pairs (knd:=intKind prog w) (k:=k) (by simp [intKind,Value.isInt]) (Heap.dictOf_iff.mpr ⟨o,g,dd⟩) (fun h' d' sb=>?_) (by rw [sizeLine_eq];omega)
 rw [ns] at d'
 obtain ⟨o',g',dd'⟩:=Heap.dictOf_iff.mp d'
 exact fin h' o' _ sb g' ⟨_,KV.snoc r kv,dd'⟩
structure BlkD (X:Cx)(N':List Str)(scope:Scope)(map:List (Option Nat))(tg ke ve:Expr)(ifs:List Expr)(g:TG)(tt:TT)(tk te:TE):Prop where
 m:BlkM X N' scope map tg ve ifs g tt te
 key:∀ cells C fp s H,LQ X C fp s H->PE (J9 X N' scope cells C fp s H) ke tk
def VY (J:It)(g:TG)(tt:TT)(tk te:TE)(σc:St)(Fin:List (Int×V)->Hp->Prop)(W:Nat->Nat->List (Int×V)->Hp->Prop):Prop :=
 ∀ i m acc H2,W i m acc H2->(J.stop i H2/\Fin acc H2) \/
  (J.go i H2/\∃ N:List (Int×V)->Hp->Prop,(∀ acc' H',N acc' H'->∃ m',m'<m/\W (i+1) m' acc' H')/\∀ x H3,J.yld i H2 x H3->g x σc H3 fun σ4 H4=>tt σ4 H4 fun b H5=>if b=true then tk σ4 H5 fun y H6=>∃ k,y=.int k/\k∉acc.map (·.1)/\acc.length<=1000/\te σ4 H6 fun v H7=>N (acc++[(k,v)]) H7 else N acc H5)
section
variable {X:Cx}{ke ve iter tg:Expr}{ifs:List Expr}{scope:Scope}{pos:Pos}{N':List Str}{map:List (Option Nat)}{wi:TI}{g:TG}{tt:TT}{tk te:TE}
theorem J5d {pins:List (Addr×Obj)}{σ:St}{H1:Hp}{s2:Shared}{cl:List (Str×Addr)}{fp:List Addr}{it:Addr}{tn:Nat->Heap->Prop}{J:It}{E:Value->Shared->Prop}(I:Inv X pins σ H1 s2)(BD:BlkD X N' scope map tg ke ve ifs g tt tk te)
 (hsub:∀ x c,cl.lookup x=some c->X.env.cells.lookup x=some c) (hhas:∀ x,(x,NameKind.free)∈scope.names->(cl.lookup x).isSome=true)
 {R:Cx->Prop} (hR:∀ cells C fp s H,R (J9 X N' scope cells C fp s H)) (T:TurnG R X.prog X.w X.K tg J fp it tn) (st:tn 0 s2.heap) (hf:∀ b∈fp,DV X pins H1 b) {Fin:List (Int×V)->Hp->Prop} {W:Nat->Nat->List (Int×V)->Hp->Prop} {m0:Nat} (w0:W 0 m0 [] H1) (ht:VY J g tt tk te (capt σ map) Fin W)
 {RR:Value->Addr->Result->Shared->Prop}
 (hOk:∀ D C acc H' s' m,Inv X pins σ (upd H' D (IDb X.prog X.w acc D)) s'->H' D=none->s'.heap.Ns C m->upd H' D (IDb X.prog X.w acc D) C=none->C≠X.env.locals->X.s₀.heap.objs.size<=C->(∀ x c,X.env.cells.lookup x=some c->c≠C)->(∀ p∈X.pn++pins,p.1≠C)->Fin acc H'->RR (.ref D) C (.ok .next) s')
 (hErr:∀ D C e s',J0d X C e s'->RR (.ref D) C (.error e) s') :
 wpAny (model X.prog X.w) X.A newDict (fun acc s3=>wpAny (model X.prog X.w) X.A (newFunctionEnv scope X.env.globals cl [] X.env.qual none .none (some X.env)) (fun cenv s4 =>
  codeAny (model X.prog X.w) X.A (.compStart (.DictComp ke ve [⟨tg,iter,ifs,0⟩] scope pos) 0 (.ref it) acc { cenv with scope:=relabel scope X.env }) (RR acc cenv.locals) s4) E s3) E s2:=by
 have B:=BD.m
 have fo:∀ b∈fp,∃ o,s2.heap.get? b=some o:=fun b hb=>by obtain ⟨o,e,_⟩:=T.obj 0 _ st b hb;exact ⟨o,e⟩
 refine wpAny_newObj_type ?_
 generalize hoN:({ cls:=.type "dict",dict:=none,data:=.dict #[] }:Obj)=oN
 have dgN:DGo X.prog X.w [] oN:=⟨[],.nil,by
  rw [<- hoN]
  obtain ⟨o,g,dd⟩:=Heap.dictOf_iff.mp (Heap.DictOf.new (knd:=intKind X.prog X.w) s2.heap)
  rw [Heap.get?_push_size _ rfl] at g
  cases g
  exact dd⟩
 have frN:oN.isFreed=false:=by rw [<- hoN];rfl
 generalize hH2:s2.heap.push oN=H2
 have szD:H2.objs.size=s2.heap.objs.size+1:=by rw [<- hH2,Heap.size_push]
 have kD:∀ b o,s2.heap.get? b=some o->H2.get? b=some o:=fun b o e=>hH2▸Heap.get?_push_of_some _ e
 simp only [newFunctionEnv,Option.isSome_some,if_true]
 refine wpAny_bind (wpAny_alloc ?_)
 refine wpAny_bind (wpAny_layCells _ (fun name kind cells=>by cases hkc:kind==NameKind.cell<;>simp [hkc]) _ _ _ _ ?_)
 dsimp only
 generalize hH3:H2.push { cls:=.type "dict",dict:=none,data:=.dict #[] }=h3
 have sz3:h3.objs.size=H2.objs.size+1:=by rw [<- hH3,Heap.size_push]
 have kC:∀ b o,H2.get? b=some o->h3.get? b=some o:=fun b o e=>hH3▸Heap.get?_push_of_some _ e
 have nsC:h3.Ns H2.objs.size fun _=>none:=hH3▸Heap.Ns.new H2 (.type "dict")
 refine wpAny_bind (wpAny_pure (wpAny_pure ?_))
 show codeAny _ _ (.compStart (.DictComp ke ve [⟨tg,iter,ifs,0⟩] scope pos) 0 (.ref it) (.ref s2.heap.objs.size) (compEnvC scope (cellsFrom h3.objs.size scope.names cl) H2.objs.size X.env)) _ _
 generalize hX':J9 X N' scope (cellsFrom h3.objs.size scope.names cl) H2.objs.size fp s2 H1=X'
 have I4:Inv X' [] (capt σ map) H1 { s2 with heap:=pushCells h3 scope.names }:=hX'▸QI I B hsub hhas hf fo H2.objs.size h3 (by rw [szD];exact Nat.le_succ _) (fun b o e=>kC b o (kD b o e)) (by rw [sz3];exact Nat.lt_succ_self _) nsC s2.toks
 obtain ⟨pg,pif,pel⟩:=B.run (cellsFrom h3.objs.size scope.names cl) H2.objs.size fp s2 H1 ⟨pins,σ,I,hf,by rw [szD];exact Nat.le_succ _⟩
 have pky:=BD.key (cellsFrom h3.objs.size scope.names cl) H2.objs.size fp s2 H1 ⟨pins,σ,I,hf,by rw [szD];exact Nat.le_succ _⟩
 rw [hX'] at pg pif pel pky
 have eprog:X'.prog=X.prog:=by rw [<- hX'];rfl
 have ew:X'.w=X.w:=by rw [<- hX'];rfl
 have eK:X'.K=X.K:=by rw [<- hX'];rfl
 have eA:X'.A=X.A:=by rw [<- hX'];rfl
 have ecalm:R X':=by rw [<- hX'];exact hR _ _ _ _ _
 have eenv:X'.env=compEnvC scope (cellsFrom h3.objs.size scope.names cl) H2.objs.size X.env:=by rw [<- hX'];rfl
 have exe:X'.xe=notedBy (model X.prog X.w) X.A (compEnvC scope (cellsFrom h3.objs.size scope.names cl) H2.objs.size X.env) (J0d X H2.objs.size):=by rw [<- hX'];rfl
 have es0:X'.s₀=s2:=by rw [<- hX'];rfl
 have eH0:X'.H₀=H1:=by rw [<- hX'];rfl
 have eex:X'.ex=fp:=by rw [<- hX'];rfl
 have efs:X'.fs=frs X.stack:=by rw [<- hX'];rfl
 have epn:X'.pn=[]:=by rw [<- hX'];rfl
 have eL:X'.env.locals=H2.objs.size:=by rw [eenv];rfl
 generalize hDd:s2.heap.objs.size=D at *
 have fD:∀ b∈fp,b≠D:=fun b hb=>by obtain ⟨o,e⟩:=fo b hb;exact Nat.ne_of_lt (hDd▸Heap.lt_size e)
 have nfsD:D∉X'.fs:=fun hb=>by
  rw [efs] at hb
  have h1:=I.stkSub D hb
  rcases List.mem_cons.mp h1 with z|z
  · have:=I.lt;rw [hDd,<- z] at this;exact Nat.lt_irrefl _ this
  · exact I.nofs (by rw [hDd];exact Nat.le_refl _) z
 have ncD:∀ x c,X'.env.cells.lookup x=some c->c≠D:=fun x c e z=>by
  rw [eenv] at e
  rcases NS _ _ _ x c e with q|q
  · obtain ⟨v,o,ho,_⟩:=I.cell x c (hsub x c q)
    have:=Heap.lt_size ho
    rw [hDd,z] at this
    exact Nat.lt_irrefl _ this
  · rw [z,sz3,szD] at q
    exact absurd (Nat.lt_of_lt_of_le (Nat.lt_succ_of_lt (Nat.lt_succ_self D)) q) (Nat.lt_irrefl _)
 have f4:∀ {H':Hp} {pl:List (Addr×Obj)},(∀ b∈fp,H' b=none)->(∀ p∈pl,p.1=D)->∀ b∈fp,DV X' pl H' b:=fun {H' pl} hn hpl b hb=>by
  have q:=hf b hb
  refine ⟨hn b hb,?_,?_,.inl (by rw [eex];exact hb),fun x c e=>?_,fun p hp=>?_⟩
  · rw [eL]
    obtain ⟨o,e⟩:=fo b hb
    have:=Heap.lt_size e
    rw [hDd] at this
    intro z
    rw [z,szD] at this
    exact absurd (Nat.lt_of_succ_lt this) (Nat.lt_irrefl _)
  · have:=I4.ok.exfs b (by rw [eex];exact hb)
    exact this
  · exact (I4.ok.exf b (by rw [eex];exact hb)).2 x c e
  · rw [epn] at hp
    have hp:p∈pl:=by simpa using hp
    rw [hpl p hp]
    exact (fD b hb).symm
 have hD4:(pushCells h3 scope.names).get? D=some oN:=pushCells_keeps _ _ _ _ (kC _ _ (by rw [<- hH2,<- hDd];exact Heap.get?_push_size _ frN))
 have loop:codeAny (model X.prog X.w) X.A (.compLoop (.DictComp ke ve [⟨tg,iter,ifs,0⟩] scope pos) 0 (.ref it) (.ref D) (compEnvC scope (cellsFrom h3.objs.size scope.names cl) H2.objs.size X.env)) (RR (.ref D) H2.objs.size) { s2 with heap:=pushCells h3 scope.names }:=by
  refine MF (fun n s'=>∃ i acc H' o,Inv X' [] (capt σ map) H' s'/\tn i s'.heap/\(∀ b∈fp,H' b=none)/\H' D=none/\s'.heap.get? D=some o/\DGo X.prog X.w acc o/\W i n acc H') ?_ m0
   ⟨0,[],H1,oN,I4,T.keep _ _ _ st fun b hb o e=>pushCells_keeps _ _ _ _ (kC _ _ (kD _ _ e)),fun b hb=>(hf b hb).1,I.hok.fresh (by rw [hDd];exact Nat.le_refl _),hD4,dgN,w0⟩
  rintro n s5 ⟨i,acc,H5,oS,I5,st5,fr5,hD5,oD5,rv5,w5⟩
  have pinD:Inv X' [(D,oS)] (capt σ map) H5 s5:=I5.pins_of fun p hp=>by
   have e:p=(D,oS):=by simpa using hp
   subst e
   refine ⟨oD5,hD5,?_,nfsD,fun v=>rv5.nc v⟩
   rw [eL,szD]
   exact Nat.ne_of_lt (Nat.lt_succ_self _)
  have plD:∀ p∈[(D,oS)],p.1=D:=fun p hp=>by
   have e:p=(D,oS):=by simpa using hp
   rw [e]
  have err:∀ e s',X'.xe e s'->notedBy (model X.prog X.w) X.A (compEnvC scope (cellsFrom h3.objs.size scope.names cl) H2.objs.size X.env) (fun e s'=>RR (.ref D) H2.objs.size (.error e) s') e s':=fun e s' he=>by
   rw [exe] at he
   exact wpAny_mono he (fun _ s'' q=>hErr D _ e s'' q) fun e'' s'' q=>hErr D _ e'' s'' q
  rcases ht i n acc H5 w5 with ⟨stop,fin⟩|⟨go,NN,hNN,step⟩
  · have dn:=T.done X' eprog ew eK ecalm i _ s5 (capt σ map) H5 (notedBy (model X.prog X.w) X.A (compEnvC scope (cellsFrom h3.objs.size scope.names cl) H2.objs.size X.env) fun e s'=>RR (.ref D) H2.objs.size (.error e) s') pinD (f4 fr5 plD) st5 stop
    rw [eA] at dn
    refine thn dn fun r s6 ⟨hr,I6⟩=>?_
    subst hr
    obtain ⟨oD6,hD6,_⟩:=I6.pin (D,_) (by rw [epn];exact List.mem_cons_self)
    obtain ⟨m,nsm,_⟩:=I6.loc
    rw [eL] at nsm
    have un:=I6.base
    rw [efs,eex,eH0,es0] at un
    have hok:=I6.hok
    rw [eprog,ew] at hok
    have os6:=I6.os
    rw [es0] at os6
    have fC:H5 H2.objs.size=none:=by rw [<- eL];exact I6.free
    have nDC:H2.objs.size≠D:=by rw [szD];exact Nat.ne_of_gt (Nat.lt_succ_self _)
    refine hOk D H2.objs.size acc H5 s6 m (I.call' (ch:=fp) os6 ?_ ?_ I6.bare fun b hb=>?_) hD5 nsm (by rw [Q3 nDC];exact fC) ?_ ?_ ?_ ?_ fin
    · refine ⟨un.keep,un.slot,fun b o e n hx=>?_,un.there,fun b xs e=>?_,fun b o u e=>?_,fun b ps e=>?_⟩
      · rw [Q3 (Nat.ne_of_lt (hDd▸Heap.lt_size e))]
        exact un.free b o e n hx
      · have:=un.tups b xs e
        rw [Q3 (Q4 this hD5)]
        exact this
      · have:=un.frzs b o u e
        rw [Q3 (Q4 this hD5)]
        exact this
      · obtain ⟨more,this⟩:=un.tbls b ps e
        exact ⟨more,by rw [Q3 (Q4 this hD5)];exact this⟩
    · intro b o e
      by_cases hb:b=D
      · subst hb
        rw [Q5] at e
        cases e
        exact ⟨⟨oS,oD6,rv5⟩,⟨oS,oD6⟩,fun h1 h2 ⟨o,g,I⟩ k=>⟨o,k o g,I⟩⟩
      · rw [Q3 hb] at e
        exact (hok b o e).stay (fun _ _ _ q=>q) (fun c q=>by rw [Q3 (Q4 q hD5)];exact q) fun c xs q=>by rw [Q3 (Q4 q hD5)];exact q
    · obtain ⟨f0,f1,f2,f3,f4',f5⟩:=hf b hb
      exact ⟨f3,f1,f4',f5⟩
    · have:=I.lt
      rw [hDd] at this
      intro z
      rw [<- z,szD] at this
      exact absurd (Nat.lt_of_succ_lt this) (Nat.lt_irrefl _)
    · have:=I.sz
      rw [hDd] at this
      omega
    · intro x c e z
      obtain ⟨v,o,ho,_⟩:=I.cell x c e
      have:=Heap.lt_size ho
      rw [hDd,z,szD] at this
      exact absurd (Nat.lt_of_succ_lt this) (Nat.lt_irrefl _)
    · intro p hp z
      have:=Heap.lt_size (I.pin p hp).1
      rw [hDd,z,szD] at this
      exact absurd (Nat.lt_of_succ_lt this) (Nat.lt_irrefl _)
  · have im:=T.item X' eprog ew eK ecalm i _ s5 (capt σ map) H5 (notedBy (model X.prog X.w) X.A (compEnvC scope (cellsFrom h3.objs.size scope.names cl) H2.objs.size X.env) fun e s'=>RR (.ref D) H2.objs.size (.error e) s') pinD (f4 fr5 plD) st5 go
    rw [eA] at im
    refine thn im fun r s6 ⟨u,hr,h6⟩=>?_
    subst hr
    refine thn h6 fun _ s7 ⟨x,H7,I7,r7,y7,st7,fr7⟩=>?_
    have I7':=I7.pinned (f4 fr7 plD) (T.obj _ _ st7)
    have stp:=B.keep _ _ _ _ (step x H7 y7)
    have pgx:=pg _ s7 (capt σ map) H7 x u _ I7' r7 stp
    rw [eprog,ew,eA,eenv] at pgx
    refine wpAny_mono pgx (fun _ s8 ⟨σ8,H8,I8,⟨kl,k8⟩,q8⟩=>?_) err
    have pix:=pif _ s8 σ8 H8 _ I8 q8
    rw [eprog,ew,eA,eenv] at pix
    refine wpAny_mono pix (fun b s9 ⟨H9,I9,q9⟩=>?_) err
    have wk:∀ {σa:St} {Ha:Hp} {sa:Shared},σa=σ8->Inv X' ([(D,oS)]++DU fp s7.heap) σa Ha sa ->
     Inv X' [] (capt σ map) Ha sa/\tn (i+1) sa.heap/\(∀ b∈fp,Ha b=none)/\Ha D=none/\sa.heap.get? D=some oS:=fun {σa Ha sa} ea Ia=>by
     subst ea
     refine ⟨(Ia.pins_of (pins':=[]) fun p hp=>absurd hp (by simp)).weak kl.symm fun j v e=>?_,T.keep _ _ _ st7 fun b hb o e=>(Ia.pin (b,o) (List.mem_append_right _ (List.mem_append_right _ (Z5 hb e)))).1,fun b hb=>?_,?_,?_⟩
     · have e':=e
       unfold capt at e'
       rw [List.getElem?_map] at e'
       cases hm:map[j]? with
       | none=>rw [hm] at e';cases e'
       | some o =>
         rw [hm] at e'
         cases o with
         | none=>simp at e'
         | some i'=>rw [k8 j i' hm];exact e
     · obtain ⟨o,e,d⟩:=T.obj _ _ st7 b hb
       exact (Ia.pin (b,o) (List.mem_append_right _ (List.mem_append_right _ (Z5 hb e)))).2.1
     · exact (Ia.pin (D,_) (List.mem_append_right _ (List.mem_append_left _ List.mem_cons_self))).2.1
     · exact (Ia.pin (D,_) (List.mem_append_right _ (List.mem_append_left _ List.mem_cons_self))).1
    cases b with
    | false =>
      rw [if_neg Bool.false_ne_true] at q9 ⊢
      obtain ⟨m',hm',w9⟩:=hNN _ _ q9
      obtain ⟨a1,a2,a3,a4,a5⟩:=wk rfl I9
      exact ⟨m',hm',i+1,acc,H9,oS,a1,a2,a3,a4,a5,rv5,w9⟩
    | true =>
      rw [if_pos rfl] at q9 ⊢
      have pkx:=pky _ s9 σ8 H9 _ I9 q9
      rw [eprog,ew,eA,eenv] at pkx
      refine wpAny_mono pkx (fun kv s10 ⟨y,H10,I10,r10,k,ey,hk,hlen,q10⟩=>?_) err
      subst ey
      obtain ⟨kt,rfl⟩:∃ t,kv=.int k t:=r10
      have pex:=pel _ s10 σ8 H10 _ I10 q10
      rw [eprog,ew,eA,eenv] at pex
      refine wpAny_mono pex (fun v s11 ⟨z,H11,I11,r11,q11⟩=>?_) err
      obtain ⟨m',hm',w11⟩:=hNN _ _ q11
      obtain ⟨a1,a2,a3,a4,a5⟩:=wk rfl I11
      refine Q3c a5 rv5 hk hlen r11 fun h12 o' tk12 sb12 e12 dg12=>?_
      refine ⟨m',hm',i+1,acc++[(k,z)],H11,o',a1.turned (t':=tk12) (it:=D) (fun b o hb e=>(sb12.2 b hb).trans e) a4 ?_ (.inr (by rw [es0,hDd];exact Nat.le_refl _)) ncD (fun p hp=>absurd hp (by rw [epn];simp)),T.keep _ _ _ a2 fun b hb o e=>(sb12.2 b (fD b hb)).trans e,a3,a4,e12,dg12,w11⟩
      rw [eL,szD]
      exact Nat.ne_of_lt (Nat.lt_succ_self _)
 exact PY loop (T.self _ 0 _ _ _ (T.keep _ _ _ st fun b hb o e=>pushCells_keeps _ _ _ _ (kC _ _ (kD _ _ e))) loop)
def Q0w (wi:TI)(map:List (Option Nat))(g:TG)(tt:TT)(tk te:TE)(K:Program×World):TE:=fun σ H Q=>wi σ H fun J H1=>∃ W:Nat->Nat->List (Int×V)->Hp->Prop,(∃ m,W 0 m [] H1) /\
 VY J g tt tk te (capt σ map) (fun acc H'=>∀ d,H' d=none->Q (.ref d) (upd H' d (IDb K.1 K.2 acc d))) W
theorem J1y (hc:X.calm=true)(B:BlkD X N' scope map tg ke ve ifs g tt tk te)(hi:PI X tg iter wi)(hs:∀ x,foldedSetIterable iter X.env x=pure x:=by intro _;rfl):PE X (.DictComp ke ve [⟨tg,iter,ifs,0⟩] scope pos) (Q0w wi map g tt tk te (X.prog,X.w)):=by
 intro pins s σ H Q I h
 obtain ⟨cl,hcl,hsub,hhas⟩:=(Blk.clos (X:=X) (tg:=tg) (elt:=ve) (ifs:=ifs) (g:=g) (tt:=tt) (te:=te) ⟨hc,B.m.kind,B.m.loc,B.m.free,B.m.cap,B.m.keep,B.m.run⟩ I)
 rw [arm_eval_DictComp]
 refine wpAny_comprehension_free (use:=none) rfl hs hcl B.m.kind B.m.loc (thn (hi pins s σ H _ I h) fun v s1 h1=>thn h1 fun itv s2 h2=>?_)
 obtain ⟨it,fp,tn,J,H2,e,I2,T,st2,f2,W,⟨m0,w0⟩,turn⟩:=h2
 subst e
 refine J5d (RR:=fun acc C=>compPost (model X.prog X.w) X.A X.xe none (EP X pins σ Q) acc C) I2 B hsub hhas (R:=fun X=>X.calm=true) (fun _ _ _ _ _=>hc) T.gen st2 f2 w0 turn (fun D C acc H' s' m I' hD nsm fC c1 c2 c3 c4 fin=>?_) fun D C e s' z=>z
 refine ⟨m,nsm,fun h' sb=>⟨.ref D,_,?_,rfl,fin D hD⟩⟩
 exact I'.turned (t':=s'.toks) (fun b o hb e=>(sb.2 b hb).trans e) fC c1 (.inr c2) c3 c4
end
theorem leM:2000000<=sizeLine:=by rw [sizeLine_eq];decide
section
variable {X:Cx}{W:Wd}{elt tg tg2 iter2:Expr}{ifs:List Expr}{scope:Scope}{N':List Str}{map mp2:List (Option Nat)}{g g2:TG}{di2:DA}{dt:DT}{de:DE}
theorem Q7a (calm:X.calm=true) (kind:scope.kind=.function) (loc:∀ x∈scope.names,x.2=.local->scope.names.lookup x.1=some .local) (free:(scope.names.all fun p=>!(p.2==NameKind.free)||(X.env.kindOf p.1==some .cell||X.env.kindOf p.1==some .free))=true) (cap:CapOk X scope map N') (keep:FG g map) (keep2:FG g2 mp2) (ids:NJ 0 mp2=true) (sub:DL map mp2=true)
 (run:∀ cells C fp s H,PG (J9 X N' scope cells C fp s H).nox tg g/\JI (J9 X N' scope cells C fp s H).nox W false tg2 iter2 di2/\PG (J9 X N' scope cells C fp s H).nox tg2 g2/\JIf (J9 X N' scope cells C fp s H).nox W ifs dt/\JE (J9 X N' scope cells C fp s H).nox W elt de)
 (fold:∀ env x,foldedSetIterable iter2 env x=pure x:=by intro _ _;rfl):Blk2 X N' scope map mp2 tg tg2 iter2 elt ifs g (dnI W false di2) g2 (dnT W dt) (dn W de) :=
 ⟨calm,kind,loc,free,cap,keep,keep2,ids,sub,fold,fun cells C fp s H=>by
  obtain ⟨a,b,c,d,e⟩:=run cells C fp s H
  exact ⟨a,b.h,c,d.h,e.h⟩⟩
end
theorem EY:∀ (N:Nat) (l:List Int),l.Nodup->(∀ z∈l,0<=z/\z<(N:Int))->l.length<=N
 | 0,l,_,h=>by
   cases l with
   | nil=>exact Nat.le_refl _
   | cons z l=>have:=h z (List.mem_cons_self ..);omega
 | N+1,l,hn,h=>by
   have:=EY N (l.erase (N:Int)) (hn.erase _) fun z hz=>by
    have m:=hn.mem_erase_iff.mp hz
    have:=h z m.2
    have:=m.1
    omega
   have e:=List.length_erase (a:=(N:Int)) (l:=l)
   split at e<;>omega
theorem OD {vs:List Value}{ks:List Int}(h:IntsAre vs ks):Vals (ks.map V.int) vs:=by
 induction h with
 | nil=>exact .nil
 | cons n t _ ih=>exact .cons ⟨t,rfl⟩ ih
theorem Inv.drew {X:Cx}{pins:List (Addr×Obj)}{σ:St}{H:Hp}{s:Shared}(I:Inv X pins σ H s)(d:Drawn):Inv X pins σ H { s with drawn:=d }:=⟨I.ok,I.os,I.bare,I.base,I.loc,I.cell,I.free,I.freeC,I.pin,I.hok,I.len⟩
section
variable {X:Cx}
theorem QF (hc:X.calm=true):BG X (.builtin "sorted") (fun xs H Q=>∃ (D:Addr) (ns:List Int) (N:Nat),xs=[.ref D]/\H D=some (SOb X.prog X.w ns D)/\(∀ z∈ns,0<=z/\z<(N:Int))/\N<64/\∀ (p:Addr) (ks:List Int),H p=none->ks.Pairwise (· < ·)->(∀ z,z∈ks↔z∈ns)->Q (.ref p) (upd H p (.lst (ks.map V.int)))):=by
 intro pins s σ H xs us Q I r h
 obtain ⟨D,ns,N,rfl,hD,hN,h64,q⟩:=h
 obtain ⟨u,rfl,rx⟩:=JL r
 cases rx
 obtain ⟨⟨o,es,ep,t,g,IS⟩,_,_⟩:=I.hok D _ hD
 have hz:es.size<=N:=by
  have:=EY N (nums es) IS.nd fun z m=>hN z ((IS.me z).mp m)
  rwa [List.length_map,Array.length_toList] at this
 refine UO (I.ok.hd hc) g IS (by omega) fun out ks L e h' d tk vi pm so gL zL k=>?_
 have nd:ks.Nodup:=pm.nodup_iff.mpr IS.nd
 have lt:ks.Pairwise (· < ·):=by
  have:=List.pairwise_and_iff.mpr ⟨so,nd⟩
  exact this.imp fun {a b} q=>by obtain ⟨q1,q2⟩:=q;omega
 have kl:ks.length<=64:=by rw [pm.length_eq,List.length_map,Array.length_toList];omega
 have hL:H L=none:=I.hok.fresh zL
 have J:=I.laid (a:=L) (o:=.lst (ks.map V.int)) (t':=tk) (h':=h') k zL ⟨by rw [List.length_map,sizeLine_eq];omega,out.toList,e,OD vi,gL⟩
 exact ⟨.ref L,_,J.drew d,rfl,q L ks hL lt fun z=>by rw [pm.mem_iff,IS.me z]⟩
end
def J3y (acc:List D):Prop:=(∃ ns:List Int,acc=ns.map D.int)/\acc.length<=2000
theorem FL {H:Hp}:∀ {ns:List Int} {vs:List V},Reps K M H (ns.map D.int) vs->vs=ns.map V.int
 | [],vs,h=>h
 | n::ns,vs,h=>by
   obtain ⟨v,r,rfl,h1,h2⟩:=h
   cases (show _=_ from h1)
   rw [FL h2]
   rfl
theorem J3y.ok {H:Hp}{ds:List D}{vs:List V}(h:J3y ds)(r:Reps K M H ds vs):okA vs:=by
 obtain ⟨⟨ns,rfl⟩,hl⟩:=h
 have e:=FL r
 exact ⟨⟨ns,e⟩,by rw [e,List.length_map];rwa [List.length_map] at hl⟩
inductive compGS (gd:D->Ev->(Ev->Prop)->Prop)(dt:DT)(de:DE)(ρc:Ev)(items acc0:List D)(P:List D->Prop):Prop
 | mk (I:Nat->List D->Prop) (hk:∀ i acc,I i acc->J3y acc) (h0:I 0 acc0) (hs:∀ (i:Nat) x acc,items[i]?=some x->I i acc->gd x ρc fun ρ1=>dt ρ1 fun c=>IfP c (de ρ1 fun y=>plain y=true/\I (i+1) (acc++[y])) (I (i+1) acc)) (hd:∀ acc,I items.length acc->P acc):compGS gd dt de ρc items acc0 P
inductive compS2 (gd:D->Ev->(Ev->Prop)->Prop)(mp2:List (Option Nat))(di2:DA)(gd2:D->Ev->(Ev->Prop)->Prop)(dt:DT)(de:DE)(ρc:Ev)(items:List D)(P:List Int->Prop):Prop
 | mk (I:Nat->List D->Prop) (h0:I 0 []) (hs:∀ (i:Nat) x acc,items[i]?=some x->I i acc->gd x ρc fun ρ1=>di2 ρ1 fun ys=>ys.length<=1000/\compGS gd2 dt de (ES ρ1 mp2) ys acc (I (i+1))) (hd:∀ acc,I items.length acc->∃ ns:List Int,acc=ns.map D.int/\P ns):compS2 gd mp2 di2 gd2 dt de ρc items P
def Q7q (ns:List Int)(P:D->Prop):Prop:=∃ N:Nat,(∀ z∈ns,0<=z/\z<(N:Int))/\N<64/\∀ ks:List Int,ks.Pairwise (· < ·)->(∀ z,z∈ks↔z∈ns)->P (.lst (ks.map D.int))
def Q3o (map mp2:List (Option Nat))(gd:D->Ev->(Ev->Prop)->Prop)(di:DA)(gd2:D->Ev->(Ev->Prop)->Prop)(di2:DA)(dt:DT)(de:DE):DE:=fun ρ P=>di ρ fun items=>items.length<=1000/\compS2 gd mp2 di2 gd2 dt de (ES ρ map) items fun ns=>Q7q ns P
theorem PU {W:Wd}{pn:List (D×V)}{M:Addr->Prop}{b:Option Addr}{H:Hp}{σ:St}{ρ:Ev}{J:It}{need:List (D×V)}{items ds0:List D}{acc0:List V}{g:TG}{gd:D->Ev->(Ev->Prop)->Prop}{dt:DT}{de:DE}{P:List D->Prop}{Fin:List V->Hp->Prop}
 (hG:GD W g gd) (st:Sta W pn M b H σ ρ) (hp:items.all plain=true) (hI:LP W J need items) (hn:∀ q∈need,RepX W M b H q.1 q.2) (r0:Reps W.K M H ds0 acc0) (hl:acc0.length+items.length<=2000000) (h:compGS gd dt de ρ items ds0 P)
 (fin:∀ ds acc H',P ds->Reps W.K M H' ds acc->acc.length<=acc0.length+items.length->Kp b H H'->okB W.B b H'->Fin acc H'):∃ Wf:Nat->Nat->List V->Hp->Prop,(∀ i m acc H,Wf i m acc H->okA acc)/\(∃ m,Wf 0 m acc0 H)/\LN J g (dnT W dt) (dn W de) σ Fin Wf:=by
 obtain ⟨I,hk,i0,istep,idone⟩:=h
 refine ⟨fun i m acc H2=>m=items.length - i/\i<=items.length/\acc.length<=acc0.length+i/\Kp b H H2/\okB W.B b H2/\∃ ds,Reps W.K M H2 ds acc/\I i ds,(fun i m acc H2 ⟨_,_,_,_,_,ds,r,q⟩=>(hk i ds q).ok r),⟨items.length,by simp,Nat.zero_le _,Nat.le_refl _,Kp.refl _ _,st.ok,ds0,r0,i0⟩,?_⟩
 rintro i m acc H2 ⟨rfl,hi,ha,k2,o2,ds,r,q⟩
 have st2:=st.step k2 o2
 obtain ⟨hgo,hstop⟩:=hI M b H2 st2.toHs fun q hq=>(hn q hq).step st.bagM k2
 by_cases hlt:i<items.length
 · have ei:items[i]?=some items[i]:=List.getElem?_eq_getElem hlt
   replace q:=istep i _ ds ei q
   refine .inr ⟨(hgo i _ ei).1,by have:=leM;omega,fun acc' H'=>acc'.length<=acc0.length+(i+1)/\Kp b H H'/\okB W.B b H'/\∃ ds,Reps W.K M H' ds acc'/\I (i+1) ds,fun acc' H' n=>⟨items.length - (i+1),by omega,rfl,hlt,n⟩,fun x H3 y=>?_⟩
   obtain ⟨S3,rx⟩:=(hgo i _ ei).2 x H3 y
   have o3:okB W.B b H3:=fun p e=>W.B.st p H2 H3 (o2 p e) fun o e'=>S3 p o e'
   have k3:Kp b H2 H3:=Kp.same S3
   have st3:=st2.step k3 o3
   refine hG pn M b H3 σ ρ items[i] x _ _ st3 rx (List.all_eq_true.mp hp _ (List.getElem_mem hlt)) q fun ρ1 σ1 h1 st4 _=>?_
   refine ⟨pn,M,b,ρ1,_,st4,h1,fun c H5 h5 k5 o5=>?_⟩
   cases h5 with
   | t e h5 =>
     rw [if_pos e]
     refine ⟨pn,M,b,ρ1,_,st4.step k5 o5,h5,fun y v H6 h6 ry k6 o6=>?_⟩
     have kk:=((k3.trans k5).trans k6)
     refine ⟨by simp;omega,k2.trans kk,o6,ds++[y],Reps.append (Reps.keep (fun c o n e=>kk c o (fun z=>n (st.bagM c z)) e) _ _ r) ⟨v,[],rfl,ry.rep h6.1,rfl⟩,h6.2⟩
   | f e h5 =>
     rw [if_neg (by rw [e];exact Bool.false_ne_true)]
     have kk:=k3.trans k5
     exact ⟨by omega,k2.trans kk,o5,ds,Reps.keep (fun c o n e=>kk c o (fun z=>n (st.bagM c z)) e) _ _ r,h5⟩
 · have e:i=items.length:=by omega
   subst e
   exact .inl ⟨hstop _ (Nat.le_refl _),by have:=leM;omega,fin ds acc H2 (idone _ q) r ha k2 o2⟩
theorem TV {W:Wd}{pn:List (D×V)}{M:Addr->Prop}{b:Option Addr}{H:Hp}{σ:St}{ρ:Ev}{J:It}{need:List (D×V)}{items:List D}{g g2:TG}{gd gd2:D->Ev->(Ev->Prop)->Prop}{mp2:List (Option Nat)}{di2:DA}{dt:DT}{de:DE}{P:List Int->Prop}{Fin:List V->Hp->Prop}
 (hG:GD W g gd) (hG2:GD W g2 gd2) (st:Sta W pn M b H σ ρ) (hp:items.all plain=true) (hI:LP W J need items) (hn:∀ q∈need,RepX W M b H q.1 q.2) (hl:items.length<=1000) (h:compS2 gd mp2 di2 gd2 dt de ρ items P)
 (fin:∀ ns H',P ns->Kp b H H'->okB W.B b H'->Fin (ns.map V.int) H'):∃ Wf:Nat->Nat->List V->Hp->Prop,(∃ m,Wf 0 m [] H)/\VX J g mp2 (dnI W false di2) g2 (dnT W dt) (dn W de) σ Fin Wf:=by
 obtain ⟨I,i0,istep,idone⟩:=h
 refine ⟨fun i m acc H2=>m=items.length - i/\i<=items.length/\acc.length<=1000*i/\Kp b H H2/\okB W.B b H2/\∃ ds,Reps W.K M H2 ds acc/\I i ds,⟨items.length,by simp,Nat.zero_le _,Nat.le_refl _,Kp.refl _ _,st.ok,[],rfl,i0⟩,?_⟩
 rintro i m acc H2 ⟨rfl,hi,ha,k2,o2,ds,r,q⟩
 have st2:=st.step k2 o2
 obtain ⟨hgo,hstop⟩:=hI M b H2 st2.toHs fun q hq=>(hn q hq).step st.bagM k2
 by_cases hlt:i<items.length
 · have ei:items[i]?=some items[i]:=List.getElem?_eq_getElem hlt
   replace q:=istep i _ ds ei q
   refine .inr ⟨(hgo i _ ei).1,fun acc' H'=>acc'.length<=1000*(i+1)/\Kp b H H'/\okB W.B b H'/\∃ ds,Reps W.K M H' ds acc'/\I (i+1) ds,fun acc' H' n=>⟨items.length - (i+1),by omega,rfl,hlt,n⟩,fun x H3 y=>?_⟩
   obtain ⟨S3,rx⟩:=(hgo i _ ei).2 x H3 y
   have o3:okB W.B b H3:=fun p e=>W.B.st p H2 H3 (o2 p e) fun o e'=>S3 p o e'
   have k3:Kp b H2 H3:=Kp.same S3
   have st3:=st2.step k3 o3
   refine hG pn M b H3 σ ρ items[i] x _ _ st3 rx (List.all_eq_true.mp hp _ (List.getElem_mem hlt)) q fun ρ1 σ1 h1 st4 _=>?_
   refine ⟨pn,M,b,ρ1,_,st4,h1,fun ys J2 need2 H5 hys hp2 hI2 hn2 k5 o5=>?_⟩
   have st5:=(st4.step k5 o5).capt mp2
   have kk:=k3.trans k5
   have hy:=hys.1
   exact PU hG2 st5 hp2 hI2 (fun q hq=>(hn2 q hq).1) (Reps.keep (fun c o n e=>kk c o (fun z=>n (st.bagM c z)) e) _ _ r) (by omega) hys.2 fun ds acc H' hP r hl' k o=>⟨by omega,(k2.trans kk).trans k,o,ds,r,hP⟩
 · have e:i=items.length:=by omega
   subst e
   obtain ⟨ns,rfl,hP⟩:=idone _ q
   rw [FL r]
   exact .inl ⟨hstop _ (Nat.le_refl _),fin ns H2 hP k2 o2⟩
section
variable {X:Cx}{W:Wd}{elt iter tg tg2 iter2:Expr}{ifs:List Expr}{scope:Scope}{pos cpos p:Pos}{N':List Str}{map mp2:List (Option Nat)}{g g2:TG}{gd gd2:D->Ev->(Ev->Prop)->Prop}{di di2:DA}{dt:DT}{de:DE}{x:Str}
theorem J2v {H:Hp}(hs:Hs W M b H){q:Addr}(h:H q=none)(ks:List Int):RepX W M b (upd H q (.lst (ks.map V.int))) (.lst (ks.map D.int)) (.ref q) :=
 BN hs (by
  induction ks with
  | nil=>exact rfl
  | cons k ks ih=>exact ⟨_,_,rfl,rfl,ih⟩) h
theorem ZF (hc:X.calm=true)(hg:Gl X x)(hm:X.mg x=none)(hv:bootBuiltins x=some (.builtin "sorted")) (hG:GD W g gd) (hG2:GD W g2 gd2) (B:Blk2 X N' scope map mp2 tg tg2 iter2 elt ifs g (dnI W false di2) g2 (dnT W dt) (dn W de)) (hi:JI X W false tg iter di) (hn:x≠"__name__":=by decide) (hdb:(x==("__debug__" : Str))=false:=by decide)
 (hs:∀ x,foldedSetIterable iter X.env x=pure x:=by intro _;rfl) (hpl:(backTo pos (starEach ([]:List Expr) X.env)).any (·.1)=false:=by rfl):JE X W (.Call (.Name x p) [.SetComp elt [⟨tg,iter,[],0⟩,⟨tg2,iter2,ifs,0⟩] scope cpos] [] pos) (Q3o map mp2 gd di gd2 di2 dt de) :=
 ⟨(CV (QF hc) hg hm hv (Z7 (J6u B hi.h hs) BY) hn hdb rfl hpl).mono fun σ H Q hh=>hh.elim fun pn M b ρ P st h k=>by
   refine ⟨pn,M,b,ρ,_,st,h,fun items J need H1 hx hp hI hn k1 o1=>?_⟩
   have st1:=st.step k1 o1
   refine TV hG hG2 (st1.capt map) hp hI (fun q hq=>(hn q hq).1) hx.1 hx.2 fun ns H' hP k2 o2 D ns' en hD=>?_
   have en:ns'=ns:=by
    have:=congrArg (List.map fun v:V=>match v with|.int n=>n|_=>0) en
    simpa [Function.comp_def] using this.symm
   subst en
   obtain ⟨N,b1,b2,q⟩:=hP
   have st2:=st1.step k2 o2
   have o3:=st2.toHs.okU (o:=SOb X.prog X.w ns' D) hD
   have st3:=st2.step (Kp.upd (o:=SOb X.prog X.w ns' D) hD) o3
   refine ⟨D,ns',N,rfl,Q5,b1,b2,fun r ks hr so me=>?_⟩
   exact k _ _ _ (q ks so me) (J2v st3.toHs hr ks) (((k1.trans k2).trans (Kp.upd hD)).trans (Kp.upd hr)) (st3.toHs.okU hr)⟩
end
section
variable {X:Cx}{W:Wd}{c:Expr}{cs es:List Expr}{pos p pos' p':Pos}{dC dA:DA}{x f:Str}{k k':Nat}{ps ps':List Str}{S:DSp}{pre:List D->Prop}
def Q4a (S:DSp)(pre:List D->Prop)(dC dA:DA):DE:=fun ρ P=>dC ρ fun cs=>cs.all GN=true/\pre cs/\dA ρ fun ds=>ds.all plain=true/\S (.bag::ds) P (fun _=>False)
theorem RepXs.asA {b':Option Addr}{H:Hp}:∀ (ds:List D) (vs:List V),RepXs W M b H ds vs->ds.all L2.plain=true->RepAs W.K M b' H ds vs
 | [],_,h,_=>h
 | d::ds,vs,h,q=>by
   obtain ⟨v,r,e,h1,h2⟩:=h
   simp only [List.all_cons,Bool.and_eq_true] at q
   refine ⟨v,r,e,?_,RepXs.asA ds r h2 q.2⟩
   cases d<;>first|exact h1|cases q.1
theorem J3p (G:Callee X.prog X.w X.K X.mg X.base CX0 x k ps (J7 W.K W.B S))(hr:Room k X.A)(hg:Gl X x)(GB:Callee X.prog X.w X.K X.mg X.base CX0 f k' ps' (NZ W.K W.B pre))(hr':Room k' X.A)(hg':Gl X f)(hc:JA X W (c::cs) dC)(ha:JA X W es dA)
 (hdb:(x==("__debug__" : Str))=false:=by decide) (hdb':(f==("__debug__" : Str))=false:=by decide)
 (he:starEach (.Call (.Name f p') (c::cs) [] pos'::es) X.env=(false,eval (.Call (.Name f p') (c::cs) [] pos') X.env)::starEach es X.env:=by rfl) (hpl:(backTo pos (starEach es X.env)).any (·.1)=false:=by rfl)
 (he':starEach (c::cs) X.env=(false,eval c X.env)::starEach cs X.env:=by rfl) (hpl':(backTo pos' (starEach cs X.env)).any (·.1)=false:=by rfl) :
 JE X W (.Call (.Name x p) (.Call (.Name f p') (c::cs) [] pos'::es) [] pos) (Q4a S pre dC dA):=⟨(GJ G hr hg (Z7 (GJ GB hr' hg' hc.h hdb' he' hpl') ha.h he) hdb he hpl).mono fun σ H Q hh=>hh.elim fun pn M b ρ P st h k=>by
 refine ⟨pn,M,b,ρ,_,st,h,fun xs vs H1 hx rx k1 o1=>?_⟩
 have st1:=st.step k1 o1
 refine ⟨M,b,xs,by rw [List.append_nil];exact rx.args _ _ hx.1,hx.2.1,fun q H2 hq Sm ok=>?_⟩
 have nbq:b≠some q:=fun z=>by
  obtain ⟨o,e⟩:=W.B.dm q H1 (o1 q z)
  rw [hq] at e;cases e
 have o2:okB W.B b H2:=fun r e=>W.B.st r H1 H2 (o1 r e) fun o z=>Sm r o z
 have s1:=st1.step (Kp.same Sm) o2
 have rep:∀ d v,Rep W.K M H1 d v->Rep W.K (fun c=>M c\/c=q) H2 d v:=fun d v r=>Rep.keep (fun c o _ e=>Sm c o e) _ _ (Rep.avoid (fun c hc=>hc.imp id fun z=>by rw [z];exact hq) _ _ r)
 have reps:∀ d v,Reps W.K M H1 d v->Reps W.K (fun c=>M c\/c=q) H2 d v:=fun d v r=>Reps.keep (fun c o _ e=>Sm c o e) _ _ (Reps.avoid (fun c hc=>hc.imp id fun z=>by rw [z];exact hq) _ _ r)
 have st2:Sta W pn (fun c=>M c\/c=q) b H2 σ ρ:=by
  refine ⟨⟨o2,fun r e=>.inl (s1.bagM r e),fun c hc=>?_,fun c m=>.inl (s1.m0 c m)⟩,s1.kp,s1.new,fun j d e=>?_,s1.len,fun q' hq'=>(st1.pin q' hq').to rep reps fun xs a vs _ _ m n hh=>⟨.inl m,n,Sm _ _ hh⟩⟩
  · rcases hc with hc|hc
    · exact s1.dom c hc
    · rw [hc];exact W.B.dm q H2 ok
  · obtain ⟨v,e2,r⟩:=st1.env j d e
    refine ⟨v,e2,?_⟩
    cases d
    case own xs =>
     obtain ⟨a,us,rfl,m1,m2,m3,m4,hh,r'⟩:=r
     exact ⟨a,us,rfl,.inl m1,m2,m3,m4,Sm _ _ hh,reps _ _ r'⟩
    case bag=>exact r
    case frg f _=>exact RepX.move r (fun c _ m n=>⟨.inl m,n⟩) (fun c o _ e=>Sm c o e) fun c hc=>hc.imp id fun z=>by rw [z];first|exact hq|exact hq1|assumption
    all_goals exact rep _ _ r
 refine ⟨pn,_,b,ρ,_,st2,hx.2.2,fun ds us H3 hd rd k3 o3=>?_⟩
 have st3:=st2.step k3 o3
 have ok3:W.B.ok q H3:=W.B.st q H2 H3 ok fun o z=>k3 q o nbq z
 refine ⟨fun c=>M c\/c=q,some q,.bag::ds,P,fun _=>False,hd.2,?_,fun r e=>by cases e;exact ok3,fun r e=>by cases e;exact .inr rfl,st3.dom,fun d v H' hP rp k4 o4=>?_,fun C H' hC=>hC.elim⟩
 · rw [List.append_nil]
   exact ⟨_,_,rfl,⟨q,rfl,rfl⟩,RepXs.asA _ _ rd hd.1⟩
 · have nq:∀ c,b=some c->c≠q:=fun c z y=>nbq (by rw [z,y])
   refine k d v H' hP (Rep.avoid (fun c hc=>.inl (.inl hc)) _ _ rp).x ?_ fun r e=>W.B.st r H3 H' (o3 r e) fun o z=>k4 r o (fun y=>nq r e (by cases y;rfl)) z
   intro c o nb e
   have e1:=k1 c o nb e
   have cq:c≠q:=fun z=>by rw [z,hq] at e1;cases e1
   exact k4 c o (fun y=>cq (by cases y;rfl)) (k3 c o nb (Sm c o e1))⟩
end
abbrev Om:=Nat->Prop
def Q8g (p:Addr)(H:Hp):Nat:=match H p with|some (.lst [_,_,.int st])=>st.toNat|_=>0
def cnt (b:Option Addr)(H:Hp):Nat:=match b with|none=>0|some p=>Q8g p H
abbrev DE3:=Ev->(D->Om)->Om
abbrev DT3:=Ev->(Bool->Om)->Om
abbrev DA3:=Ev->(List D->Om)->Om
def cn (W:Wd)(d:DE3):TE:=fun σ H Q=>∃ pn M b ρ P,Sta W pn M b H σ ρ/\d ρ P (cnt b H)/\∀ x v H',P x (cnt b H')->RepX W M b H' x v->Kp b H H'->okB W.B b H'->Q v H'
section
variable {W:Wd}{b c:Expr}{p:Pos}{d:DE3}
abbrev Q7f:=List D->(D->Om)->Om
def WW (K:Fg)(B:BagT)(S:Q7f):Sp:=fun vs H Q E=>∃ (M:Addr->Prop) (b:Option Addr) (ds:List D) (P:D->Om),S ds P (cnt b H)/\RepAs K M b H ds vs/\okB B b H/\(∀ p,b=some p->M p)/\(∀ c,M c->∃ o,H c=some o) /\
 (∀ d v H',P d (cnt b H')->Rep K M H' d v->Kp b H H'->okB B b H'->Q v H')
end
structure DEnds3 where
 nx:Ev->Om
 rt:D->Om
 bk:Ev->Om:=fun _ _=>False
 ct:Ev->Om:=fun _ _=>False
 ro:List D->Om:=fun _ _=>False
abbrev DS3:=DEnds3->Ev->Om
theorem WW.len {B:BagT}{S:Q7f}{m:Nat}(h:∀ ds P n,S ds P n->ds.length=m):∀ vs H Q E,WW K B S vs H Q E->vs.length=m:=fun vs H Q E ⟨M,b,ds,P,hS,hr,_⟩=>by rw [hr.length];exact h _ _ _ hS
abbrev Q7h:=List D->(List D->Om)->Om
def SN (K:Fg)(B:BagT)(S:Q7h):Sp:=fun vs H Q E=>∃ (M:Addr->Prop) (b:Option Addr) (ds:List D) (P:List D->Om),S ds P (cnt b H)/\RepAs K M b H ds vs/\okB B b H/\(∀ p,b=some p->M p)/\(∀ c,M c->∃ o,H c=some o) /\
 (∀ xs a us H',P xs (cnt b H')->H a=none->H' a=some (.lst us)->Reps K M H' xs us->Kp b H H'->okB B b H'->Q (.ref a) H')
theorem SN.len {B:BagT}{S:Q7h}{m:Nat}(h:∀ ds P n,S ds P n->ds.length=m):∀ vs H Q E,SN K B S vs H Q E->vs.length=m:=fun vs H Q E ⟨M,b,ds,P,hS,hr,_⟩=>by rw [hr.length];exact h _ _ _ hS
theorem WQ {X:Cx}:OpR X (compareOp .IsNot) (fun x y H Q=>∃ b c,x=.bl b/\y=.bl c/\Q (.bl (!(b==c))) H):=by
 intro pins s σ H x y v u Q I rx ry h
 obtain ⟨b,c,rfl,rfl,q⟩:=h
 cases rx
 cases ry
 exact wpAny_isNot_plain (by cases b<;>cases c<;>rfl) (V5 I q (by cases b<;>cases c<;>rfl))
def Q7v (neg:Bool):D->D->(D->Prop)->Prop
 | .bl b,.bl c,P=>P (.bl ((b==c)!=neg))
 | _,_,_=>False
theorem WR {W:Wd}:OpD W (fun x y H Q=>∃ b c,x=.bl b/\y=.bl c/\Q (.bl (!(b==c))) H) (Q7v true):=by
 intro M b H x y v u P Q hs rx ry ho k
 cases x<;>first|exact ho.elim|skip
 cases y<;>first|exact ho.elim|skip
 cases (show _=_ from rx)
 cases (show _=_ from ry)
 exact ⟨_,_,rfl,rfl,k _ _ H ho (by show V.bl _=V.bl _;simp) (Kp.refl _ _) hs.ok⟩
def RowsR (K:Fg)(M:Addr->Prop)(H:Hp):List Addr->List (List D)->Prop
 | [],rows=>rows=[]
 | r::rs,rows=>∃ row rest us,rows=row::rest/\H r=some (.lst us)/\Reps K M H row us/\RowsR K M H rs rest
section
variable {K:Fg}{M M':Addr->Prop}{H H':Hp}
theorem RowsR.keep:∀ (rs:List Addr) (rows:List (List D)),(∀ c o,(¬ M c\/c∈rs)->H c=some o->H' c=some o)->RowsR K M H rs rows->RowsR K M H' rs rows
 | [],_,_,h=>h
 | r::rs,rows,k,h=>by
   obtain ⟨row,rest,us,e,h1,h2,h3⟩:=h
   exact ⟨row,rest,us,e,k _ _ (.inr (List.mem_cons_self ..)) h1,Reps.keep (fun c o n e=>k c o (.inl n) e) _ _ h2,RowsR.keep rs rest (fun c o q e=>k c o (q.imp id (List.mem_cons_of_mem _)) e) h3⟩
theorem RowsR.avoid (k:∀ c,M' c->M c\/H c=none):∀ (rs:List Addr) (rows:List (List D)),RowsR K M H rs rows->RowsR K M' H rs rows
 | [],_,h=>h
 | r::rs,rows,h=>by
   obtain ⟨row,rest,us,e,h1,h2,h3⟩:=h
   exact ⟨row,rest,us,e,h1,Reps.avoid k _ _ h2,RowsR.avoid k rs rest h3⟩
theorem RowsR.length:∀ {rs:List Addr} {rows:List (List D)},RowsR K M H rs rows->rows.length=rs.length
 | [],_,h=>by rw [show _=[] from h];rfl
 | r::rs,rows,h=>by
   obtain ⟨row,rest,us,rfl,h1,h2,h3⟩:=h
   simp [RowsR.length h3]
theorem RowsR.lst:∀ {rs:List Addr} {rows:List (List D)},RowsR K M H rs rows->∀ r∈rs,∃ us,H r=some (.lst us)
 | [],_,_,r,m=>by cases m
 | r::rs,rows,h,r',m=>by
   obtain ⟨row,rest,us,rfl,h1,h2,h3⟩:=h
   rcases List.mem_cons.mp m with z|z
   · rw [z];exact ⟨us,h1⟩
   · exact RowsR.lst h3 r' z
theorem RowsR.at:∀ {rs:List Addr} {rows:List (List D)} {k:Nat} {r:Addr},RowsR K M H rs rows->rs[k]?=some r->∃ row us,rows[k]?=some row/\H r=some (.lst us)/\Reps K M H row us
 | [],_,_,_,_,e=>by simp at e
 | _::rs,rows,0,r,h,e=>by
   obtain ⟨row,rest,us,rfl,h1,h2,h3⟩:=h
   simp at e;subst e
   exact ⟨row,us,rfl,h1,h2⟩
 | _::rs,rows,k+1,r,h,e=>by
   obtain ⟨row,rest,us,rfl,h1,h2,h3⟩:=h
   obtain ⟨row',us',e1,e2⟩:=RowsR.at (k:=k) h3 (by simpa using e)
   exact ⟨row',us',by simpa using e1,e2⟩
theorem RowsR.reps {A:List Addr}:∀ (rs:List Addr) (rows:List (List D)),(∀ r∈rs,r∈A)->RowsR K M H rs rows->Reps K (fun c=>M c/\c∉A) H (rows.map D.lst) (rs.map V.ref)
 | [],rows,_,h=>by rw [show rows=[] from h];exact rfl
 | r::rs,rows,hA,h=>by
   obtain ⟨row,rest,us,rfl,h1,h2,h3⟩:=h
   exact ⟨.ref r,_,rfl,⟨r,us,rfl,⟨fun m=>m.2 (hA r (List.mem_cons_self ..)),h1⟩,Reps.avoid (fun c m=>.inl m.1) _ _ h2⟩,RowsR.reps rs rest (fun c m=>hA c (List.mem_cons_of_mem _ m)) h3⟩
end
theorem StS.setFrg {W:Wd}{pn:List (D×V)} {H:Hp}{σ:St}{ρ:Ev}{f f':Frg}{d d':D}{v:V}{a:Addr}{o:HO}(s:StS W pn M b H σ ρ)(i:Nat)(e:ρ[i]?=some (some (.frg f d)))(ev:σ[i]?=some (some v))(ha:a∈f.ads)(hads:∀ c,c∈f'.ads->c∈f.ads)(r:RepX W M b (upd H a o) (.frg f' d') v) :
 StS W pn M b (upd H a o) σ (ρ.set i (some (.frg f' d'))):=by
 obtain ⟨v0,e1,r0⟩:=s.env i _ e
 rw [ev] at e1;cases e1
 obtain ⟨m1,m2,m3,m4⟩:=r0.1 a ha
 have kk:∀ c u,¬ M c->H c=some u->upd H a o c=some u:=fun c u n q=>by rw [Q3 (show c≠a from fun z=>n (by rw [z];exact m1))];exact q
 have kb:∀ c u,c≠a->H c=some u->upd H a o c=some u:=fun c u n q=>by rw [Q3 n];exact q
 refine s.of2 ⟨⟨fun q z=>W.B.st q H _ (s.ok q z) fun u h=>kb q u (fun w=>m2 (w▸z)) h,s.bagM,fun c hc=>?_,s.m0⟩,fun c u n q=>kb c u (fun z=>by rw [z,m3] at q;cases q) (s.kp c u n q),s.new,fun j d2 e'=>?_,by simp [s.len],fun q hq=>(s.pin q hq).to (fun _ _ r=>Rep.keep kk _ _ r) (fun _ _ r=>Reps.keep kk _ _ r) fun zs a2 us ed ev2 m n hh2=>⟨m,n,kb _ _ (fun y=>s.lj zs a2 (by rw [<- ed,<- ev2];exact hq) i _ _ e ev (show a2∈f.ads by rw [y];exact ha)) hh2⟩⟩ (fun _ _ q=>q) fun j d2 v2 c e' e2 m=>?_
 · by_cases z:c=a
   · rw [z];exact ⟨_,Q5⟩
   · obtain ⟨u,q⟩:=s.dom c hc;exact ⟨u,kb c u z q⟩
 · by_cases z:i=j
   · subst z
     rw [List.getElem?_set] at e'
     simp at e'
     obtain ⟨hl,rfl⟩:=e'
     exact ⟨v,ev,r⟩
   · rw [List.getElem?_set_ne z] at e'
     obtain ⟨w,e1,r1⟩:=s.env j d2 e'
     refine ⟨w,e1,?_⟩
     have na:¬ EO d2 w a:=fun y=>z (s.dj i j _ _ _ _ a e e' ev e1 ha y)
     cases d2
     case own zs =>
      obtain ⟨a2,us2,rfl,n1,n2,n3,n4,hh2,r2⟩:=r1
      exact ⟨a2,us2,rfl,n1,n2,n3,n4,kb _ _ (fun y=>na (by rw [y];rfl)) hh2,Reps.keep kk _ _ r2⟩
     case bag=>exact r1
     case frg f2 _=>exact RepX.move r1 (fun c _ m n=>⟨m,n⟩) (fun c u q h=>kb c u (fun y=>q.elim (fun n=>n (by rw [y];exact m1)) (fun n=>na (by show a∈f2.ads;rw [<- y];exact n))) h) fun c m=>.inl m
     all_goals exact Rep.keep kk _ _ r1
 · by_cases z:i=j
   · subst z
     rw [List.getElem?_set] at e'
     simp at e'
     obtain ⟨_,rfl⟩:=e'
     exact ⟨_,e,e2,hads c m⟩
   · rw [List.getElem?_set_ne z] at e'
     exact ⟨d2,e',e2,m⟩
theorem RepX.grow {W:Wd}{M M':Addr->Prop} {H H':Hp}{d:D}{v:V}(hM:∀ c,M' c->M c\/H c=none)(sub:∀ c,M c->M' c)(hb:∀ p,b=some p->M p)(kp:Kp b H H')(r:RepX W M b H d v):RepX W M' b H' d v:=by
 have kk:∀ c o,¬ M' c->H c=some o->H' c=some o:=fun c o n e=>kp c o (fun z=>n (sub c (hb c z))) e
 cases d
 case own ys =>
  obtain ⟨a,us,rfl,m1,m2,m3,m4,hha,r'⟩:=r
  exact ⟨a,us,rfl,sub a m1,m2,m3,m4,kp _ _ m2 hha,Reps.keep kk _ _ (Reps.avoid hM _ _ r')⟩
 case bag=>exact r
 case frg f _=>exact RepX.move r (fun c _ m n=>⟨sub c m,n⟩) (fun c o q e=>q.elim (fun n=>kk c o n e) fun m=>kp c o (r.1 c m).2.1 e) hM
 all_goals exact Rep.keep kk _ _ (Rep.avoid hM _ _ r)
theorem Sta.grow {W:Wd}{pn:List (D×V)}{M M':Addr->Prop} {H H':Hp}{σ:St}{ρ:Ev}(s:Sta W pn M b H σ ρ)(hM:∀ c,M' c->M c\/H c=none)(sub:∀ c,M c->M' c)(kp:Kp b H H')(ok:okB W.B b H')(dom:∀ c,M' c->∃ o,H' c=some o):Sta W pn M' b H' σ ρ:=by
 have kk:∀ c o,¬ M' c->H c=some o->H' c=some o:=fun c o n e=>kp c o (fun z=>n (sub c (s.bagM c z))) e
 refine ⟨⟨ok,fun q e=>sub q (s.bagM q e),dom,fun c m=>sub c (s.m0 c m)⟩,(s.step kp ok).kp,s.new,fun j d e=>?_,s.len,fun q hq=>(s.pin q hq).to (fun _ _ r=>Rep.keep kk _ _ (Rep.avoid hM _ _ r)) (fun _ _ r=>Reps.keep kk _ _ (Reps.avoid hM _ _ r)) fun xs a vs _ _ m n hh'=>⟨sub a m,n,kp _ _ n hh'⟩⟩
 obtain ⟨w,e1,r1⟩:=s.env j d e
 exact ⟨w,e1,r1.grow hM sub s.bagM kp⟩
def dnF (W:Wd)(d:DA):TE:=fun σ H Q=>∃ pn M b ρ P,Sta W pn M b H σ ρ/\d ρ P/\∀ xs vs p H',P xs->H p=none->H' p=some (.lst vs)->Reps W.K (fun c=>M c\/c=p) H' xs vs->Kp b H H'->okB W.B b H'->Q (.ref p) H'
structure JF (X:Cx)(W:Wd)(e:Expr)(d:DA):Prop where
 h:PE X e (dnF W d)
theorem IV {B:BagT} {H H':Hp}{p:Addr}(k:Kp b H H')(o:okB B b H')(h:H' p=none):H p=none:=by
 cases q:H p with
 | none=>rfl
 | some u =>
   by_cases z:b=some p
   · obtain ⟨w,e⟩:=B.dm p H' (o p z)
     rw [h] at e;cases e
   · have:=k p u z q
     rw [h] at this;cases this
section
variable {X:Cx}{W:Wd}{elt iter tg:Expr}{ifs:List Expr}{scope:Scope}{pos:Pos}{N':List Str}{map:List (Option Nat)}{g:TG}{gd:D->Ev->(Ev->Prop)->Prop}{di:DA}{dt:DT}{de:DE}
def Q3z (map:List (Option Nat))(gd:D->Ev->(Ev->Prop)->Prop)(di:DA)(dt:DT)(de:DE):DA:=fun ρ P=>di ρ fun items=>items.length<=1000/\compI gd dt de (ES ρ map) items P
theorem J3o (hG:GD W g gd)(B:Blk X N' scope map tg elt ifs g (dnT W dt) (dn W de))(hi:JI X W false tg iter di)(hs:∀ x,foldedSetIterable iter X.env x=pure x:=by intro _;rfl):JF X W (.ListComp elt [⟨tg,iter,ifs,0⟩] scope pos) (Q3z map gd di dt de):=⟨(OX B hi.h hs).mono fun σ H Q hh=>by
 obtain ⟨pn,M,b,ρ,P,st,h,k⟩:=hh
 refine ⟨pn,M,b,ρ,_,st,h,fun items J need H1 hx hp hI hn k1 o1=>?_⟩
 have st1:=st.step k1 o1
 refine EM hG (st1.capt map) hp hI (fun q hq=>(hn q hq).1) hx.1 hx.2 fun ds acc H' hP r hl k2 o2 D hD=>?_
 exact k ds acc D _ hP (IV (k1.trans k2) o2 hD) Q5 (Reps.keep (fun c o _ e=>Same.upd hD c o e) _ _ (Reps.avoid (fun c z=>z.imp id fun y=>by rw [y];exact hD) _ _ r)) ((k1.trans k2).trans (Kp.upd hD)) ((st1.step k2 o2).okU hD)⟩
end
abbrev DSG:=List D->(List (List D)->Prop)->(Addr->Prop)->Prop
structure GNew (K:Fg)(M:Addr->Prop)(H H':Hp)(a:Addr)(rs:List Addr)(rows:List (List D)):Prop where
 a0:H a=none
 r0:∀ r∈rs,H r=none
 nd:(a::rs).Nodup
 ha:H' a=some (.lst (rs.map V.ref))
 hr:RowsR K (fun c=>M c\/c∈a::rs) H' rs rows
def WV (K:Fg)(B:BagT)(S:DSG):Sp:=fun vs H Q E=>∃ (M:Addr->Prop) (b:Option Addr) (ds:List D) (P:List (List D)->Prop) (Ed:Addr->Prop),S ds P Ed/\RepAs K M b H ds vs/\okB B b H/\(∀ p,b=some p->M p)/\(∀ c,M c->∃ o,H c=some o) /\
 (∀ rows a rs H',P rows->GNew K M H H' a rs rows->Kp b H H'->okB B b H'->Q (.ref a) H')/\∀ C H',Ed C->Kp b H H'->okB B b H'->E (.ref C) none H'
theorem WV.len {B:BagT}{S:DSG}{n:Nat}(h:∀ ds P Ed,S ds P Ed->ds.length=n):∀ vs H Q E,WV K B S vs H Q E->vs.length=n:=fun vs H Q E ⟨M,b,ds,P,Ed,hS,hr,_⟩=>by rw [hr.length];exact h _ _ _ hS
theorem RowsR.unbor {M M':Addr->Prop}{H:Hp}(k:∀ c,M c->M' c\/∃ o,H c=some o/\∀ vs,o≠.tup vs):∀ (rs:List Addr) (rows:List (List D)),(∀ r∈rows,EK r=true)->RowsR K M' H rs rows->RowsR K M H rs rows
 | [],_,_,h=>h
 | r::rs,rows,n,h=>by
   obtain ⟨row,rest,us,rfl,h1,h2,h3⟩:=h
   exact ⟨row,rest,us,rfl,h1,Reps.unbor k _ _ (n row (List.mem_cons_self ..)) h2,RowsR.unbor k rs rest (fun r m=>n r (List.mem_cons_of_mem _ m)) h3⟩
section
variable {X:Cx}{W:Wd}{e b c l:Expr}{p:Pos}
theorem StS.thaw {pn:List (D×V)} {b:Option Addr}{H:Hp}{σ:St}{ρ:Ev}{i:Nat}{f:Frg}{d:D}(s:StS W pn M b H σ ρ)(e:ρ[i]?=some (some (.frg f d))):StS W pn (fun c=>M c/\c∉f.ads) b H σ (ρ.set i (some d)):=by
 obtain ⟨v,e1,r⟩:=s.env i _ e
 have pd:plain d=true:=by
  have:=r.2.2
  cases d<;>first|rfl|exact this.elim
 have st:Sta W pn (fun c=>M c/\c∉f.ads) b H σ (ρ.set i none):=by
  refine Sta.avoid (M:=M) ⟨s.toHs,s.kp,s.new,fun j d' e'=>?_,by simp [s.len],s.pin⟩ (fun c m=>m.1) (fun p z=>⟨s.bagM p z,fun y=>(r.1 p y).2.1 z⟩) (fun c m=>⟨s.m0 c m,fun y=>(r.1 c y).2.2.2 m⟩) (fun j d' v' c' e' e2 mm=>?_) fun ys a' hq=>⟨by
   obtain ⟨a2,us2,ev,n1,_⟩:=(s.pin _ hq)
   cases ev;exact n1,fun y=>s.lj ys a' hq i _ _ e e1 y⟩
  · by_cases z:i=j
    · subst z;rw [List.getElem?_set] at e';simp at e'
    · rw [List.getElem?_set_ne z] at e';exact s.env j d' e'
  · by_cases z:i=j
    · subst z;rw [List.getElem?_set] at e';simp at e'
    · rw [List.getElem?_set_ne z] at e'
      obtain ⟨v3,e3,r3⟩:=s.env j _ e'
      rw [e2] at e3;cases e3
      exact ⟨(r3.mine mm).1,fun y=>z (s.dj i j _ _ _ _ c' e e' e1 e2 y mm)⟩
 have st2:=st.set (x:=d) (v:=v) i (Rep.x r.2.2)
 rw [J1c e1,List.set_set] at st2
 refine s.of st2 fun j d' hm e'=>?_
 by_cases z:i=j
 · subst z
   rw [List.getElem?_set] at e'
   simp at e'
   rw [<- e'.2] at hm
   cases d<;>first|(cases hm;done)|(cases pd;done)
 · rw [List.getElem?_set_ne z] at e';exact ⟨e',rfl⟩
def J4p (i:Nat)(d:DS):DS:=fun F ρ=>match ρ[i]? with|some (some (.frg _ x))=>d F (ρ.set i (some x))|_=>False
theorem ZD {sts:List Stmt}{d:DS}(i:Nat)(h:JSs X W sts d):JSs X W sts (J4p i d):=⟨h.h.mono fun E σ H hh=>hh.elim fun pn M b ρ F s l q=>by
 unfold J4p at q
 split at q
 case h_2=>exact q.elim
 case h_1 f x e=>exact ⟨pn,_,b,_,F,s.thaw e,l,q⟩⟩
end
section
variable {W:Wd}{b:Expr}{p:Pos}
def Q5r:D->D->(D->Prop)->Prop:=fun x y P=>match asL x,y with
 | some xs,.int k=>(-(2 ^ 63)<=k/\k<2 ^ 63/\xs.length*k.toNat<=1000)/\P (.lst (List.replicate k.toNat xs).flatten)
 | _,_=>False
theorem Reps.times {H:Hp}{ds:List D}{vs:List V}(h:Reps K M H ds vs):∀ n:Nat,Reps K M H (List.replicate n ds).flatten (List.replicate n vs).flatten
 | 0=>rfl
 | n+1=>by
   rw [List.replicate_succ,List.replicate_succ,List.flatten_cons,List.flatten_cons]
   exact Reps.append h (Reps.times h n)
theorem J2q:OpD W Q5j Q5r:=by
 intro M b H x y v u P Q hs rx ry ho k
 unfold Q5r at ho
 split at ho
 case h_2=>exact ho.elim
 case h_1 xs n e1 =>
  obtain ⟨a1,vs,rfl,h1,r1⟩:=asL.rep rx e1
  cases (show u=.int n from ry)
  exact ⟨a1,n,vs,rfl,rfl,h1,ho.1.1,ho.1.2.1,by rw [r1.length];exact Nat.le_trans ho.1.2.2 Y1,fun p hp=>k _ _ _ ho.2 (BN hs (Reps.times r1 n.toNat) hp) (Kp.upd hp) (hs.okU hp)⟩
end
def dF (K:Fg)(d:D):Frg where
 ads:=[]
 R:=fun M H v=>(∃ a,v=.ref a)/\Rep K M H d v
 keep:=fun M H H' v k h=>⟨h.1,Rep.keep (fun c o n e=>k c o (.inl n) e) _ _ h.2⟩
 avoid:=fun M M' H v k h=>⟨h.1,Rep.avoid k _ _ h.2⟩
 ref:=fun M H v h=>h.1
 nt:=fun M H v h c m=>by cases m
structure PNew (K:Fg)(M:Addr->Prop)(H H':Hp)(f:Frg)(d:D)(v:V):Prop where
 new:∀ c∈f.ads,H c=none
 R:f.R (fun c=>M c\/c∈f.ads) H' v
 rep:Rep K M H' d v
abbrev Q7g:=List D->(Frg->D->Om)->Om
def SM (K:Fg)(B:BagT)(S:Q7g):Sp:=fun vs H Q E=>∃ (M:Addr->Prop) (b:Option Addr) (ds:List D) (P:Frg->D->Om),S ds P (cnt b H)/\RepAs K M b H ds vs/\okB B b H/\(∀ p,b=some p->M p)/\(∀ c,M c->∃ o,H c=some o) /\
 (∀ f d v H',P f d (cnt b H')->PNew K M H H' f d v->Kp b H H'->okB B b H'->Q v H')
theorem SM.len {B:BagT}{S:Q7g}{m:Nat}(h:∀ ds P n,S ds P n->ds.length=m):∀ vs H Q E,SM K B S vs H Q E->vs.length=m:=fun vs H Q E ⟨M,b,ds,P,hS,hr,_⟩=>by rw [hr.length];exact h _ _ _ hS
structure Pc where
 (a:Addr) (f:Frg) (d:D)
abbrev Pc.g (p:Pc):D:=.frg p.f p.d
def Pc.at (p:Pc):Prop:=∀ M H v,p.f.R M H v->v=.ref p.a
structure RepP (K:Fg)(M:Addr->Prop)(b:Option Addr)(H:Hp)(p:Pc):Prop where
 at':p.at
 ow:∀ c∈p.f.ads,M c/\b≠some c
 r:p.f.R M H (.ref p.a)
 d:Rep K (fun c=>M c/\c∉p.f.ads) H p.d (.ref p.a)
def Q7b (ps:List Pc):List Addr:=ps.flatMap fun p=>p.f.ads
def J3e (ps ps':List Pc):Prop:=ps'.map (fun p=>(p.a,p.f.ads))=ps.map fun p=>(p.a,p.f.ads)
theorem J3e.get {ps ps':List Pc}{i:Nat}{p':Pc}(h:J3e ps ps')(e:ps'[i]?=some p'):∃ p,ps[i]?=some p/\p'.a=p.a/\p'.f.ads=p.f.ads:=by
 have q:=congrArg (fun l=>l[i]?) h
 simp only [List.getElem?_map,e,Option.map_some] at q
 obtain ⟨p,e1,e2⟩:=Option.map_eq_some_iff.mp q.symm
 simp only [Prod.mk.injEq] at e2
 exact ⟨p,e1,e2.1.symm,e2.2.symm⟩
def Q6h (ps:List Pc):Prop:=∀ (i j:Nat) p q c,ps[i]?=some p->ps[j]?=some q->c∈p.f.ads->c∈q.f.ads->i=j
def KpA (A:List Addr)(b:Option Addr)(H H':Hp):Prop:=∀ c o,c∉A->b≠some c->H c=some o->H' c=some o
abbrev DSU:=List Pc->List D->(List Pc->D->Prop)->Prop
def WT (K:Fg)(B:BagT)(S:DSU):Sp:=fun vs H Q E=>∃ (M:Addr->Prop) (b:Option Addr) (ps:List Pc) (ds:List D) (P:List Pc->D->Prop) (dvs:List V),vs=ps.map (fun p=>.ref p.a)++dvs/\S ps ds P/\(∀ p∈ps,RepP K M b H p)/\Q6h ps/\RepAs K M b H ds dvs/\okB B b H/\(∀ p,b=some p->M p)/\(∀ c,M c->∃ o,H c=some o) /\
 ∀ ps' r v H',P ps' r->J3e ps ps'->(∀ p∈ps',RepP K M b H' p)->Rep K M H' r v->KpA (Q7b ps) b H H'->okB B b H'->Q v H'
theorem WT.len {B:BagT}{S:DSU}{n:Nat}(h:∀ ps ds P,S ps ds P->ps.length+ds.length=n):∀ vs H Q E,WT K B S vs H Q E->vs.length=n:=fun vs H Q E ⟨M,b,ps,ds,P,dvs,e,hS,_,_,hr,_⟩=>by
 rw [e,List.length_append,List.length_map,hr.length];exact h _ _ _ hS
section
variable {W:Wd}{pn:List (D×V)}{M:Addr->Prop}{b:Option Addr}{H:Hp}{σ:St}{ρ:Ev}{js:List Nat}{ps:List Pc}
def J9o (js:List Nat)(ps:List Pc)(ρ:Ev):Prop:=js.length=ps.length/\∀ (k:Nat) p,ps[k]?=some p->p.at/\∃ j,js[k]?=some j/\ρ[j]?=some (some p.g)
theorem J9o.ads (s:StS W pn M b H σ ρ)(h:J9o js ps ρ){c:Addr}(m:c∈Q7b ps):∃ (k j:Nat) (p:Pc),ps[k]?=some p/\js[k]?=some j/\ρ[j]?=some (some p.g)/\c∈p.f.ads/\σ[j]?=some (some (.ref p.a))/\RepX W M b H p.g (.ref p.a):=by
 obtain ⟨p,mp,mc⟩:=List.mem_flatMap.mp m
 obtain ⟨k,ek⟩:=List.getElem?_of_mem mp
 obtain ⟨pa,j,ej,er⟩:=h.2 k p ek
 obtain ⟨v,ev,r⟩:=s.env j _ er
 have hv:=pa _ _ _ r.2.1
 subst hv
 exact ⟨k,j,p,ek,ej,er,mc,ev,r⟩
end
def Q8d (K:Fg)(a:Addr)(t:Tg)(ks:List (List Int))(xs:List D)(M:Addr->Prop)(H:Hp)(v:V):Prop:=v=.ref a/\∃ vs:List V,H a=some (DOb a t.1 t.2)/\DctE K M H t.1 ks vs/\Reps K M H xs vs
def Q6l (K:Fg)(a:Addr)(t:Tg)(ks:List (List Int))(xs:List D):Frg where
 ads:=[a]
 R:=Q8d K a t ks xs
 keep:=fun M H H' v k ⟨e,vs,h,hE,r⟩=>⟨e,vs,k a _ (.inr (List.mem_cons_self ..)) h,hE.keep fun c o n q=>k c o (.inl n) q,Reps.keep (fun c o n q=>k c o (.inl n) q) _ _ r⟩
 avoid:=fun M M' H v k ⟨e,vs,h,hE,r⟩=>⟨e,vs,h,hE.avoid k,Reps.avoid k _ _ r⟩
 ref:=fun M H v h=>⟨a,h.1⟩
 nt:=fun M H v ⟨e,vs,h,hE,r⟩ c m=>by
  rw [List.mem_singleton.mp m]
  exact ⟨_,h,fun vs z=>by cases z⟩
abbrev dcg (K:Fg)(a:Addr)(t:Tg)(ks:List (List Int))(xs:List D):D:=.frg (Q6l K a t ks xs) (.dct t ks xs)
section
variable {W:Wd}{M:Addr->Prop}{b:Option Addr}{H:Hp}{a:Addr}{ks:List (List Int)}{xs:List D}{t:Tg}{vs:List V}
theorem XI (ow:M a/\b≠some a/\W.H0 a=none/\¬ W.M0 a)(h:H a=some (DOb a t.1 t.2))(hE:DctE W.K M H t.1 ks vs)(r:Reps W.K M H xs vs):RepX W M b H (dcg W.K a t ks xs) (.ref a) :=
 ⟨fun c m=>by rw [List.mem_singleton.mp m];exact ow,⟨rfl,vs,h,hE,r⟩,a,vs,rfl,⟨fun z=>z.2 (List.mem_cons_self ..),h,hE.avoid fun c m=>.inl m.1⟩,Reps.avoid (fun c m=>.inl m.1) _ _ r⟩
theorem VO {v:V}(r:RepX W M b H (dcg W.K a t ks xs) v):v=.ref a/\(M a/\b≠some a/\W.H0 a=none/\¬ W.M0 a)/\∃ vs,H a=some (DOb a t.1 t.2)/\DctE W.K M H t.1 ks vs/\Reps W.K M H xs vs:=by
 obtain ⟨ow,⟨e,q⟩,_⟩:=r
 exact ⟨e,ow a (List.mem_cons_self ..),q⟩
def asD (K:Fg)(d:D)(t:Tg)(ks:List (List Int))(xs:List D):Prop:=d=.dct t ks xs\/∃ a,d=dcg K a t ks xs
theorem asD.rep {d:D}{v:V}(h:asD W.K d t ks xs)(r:RepX W M b H d v):∃ a vs,v=.ref a/\H a=some (DOb a t.1 t.2)/\DctE W.K M H t.1 ks vs/\Reps W.K M H xs vs:=by
 rcases h with rfl|⟨a,rfl⟩
 · obtain ⟨a,vs,e,⟨_,h,hE⟩,rr⟩:=r
   exact ⟨a,vs,e,h,hE,rr⟩
 · obtain ⟨e,_,vs,h,hE,rr⟩:=VO r
   exact ⟨a,vs,e,h,hE,rr⟩
end
def HP:List (List Int)->List D->List Int->D->List D
 | k::ks,x::xs,n,z=>(if k=n then z else x)::HP ks xs n z
 | _,xs,_,_=>xs
def DY (ks:List (List Int))(xs:List D)(n:List Int)(z:D):List (List Int)×List D:=if n∈ks then (ks,HP ks xs n z) else (ks++[n],xs++[z])
theorem RU {n:List Int}{z:D}:∀ (ks:List (List Int)) (xs:List D),(HP ks xs n z).length=xs.length
 | [],xs=>by unfold HP;rfl
 | k::ks,[]=>by unfold HP;rfl
 | k::ks,x::xs=>by unfold HP;simp [RU ks xs]
theorem J1p {n:List Int}{z:D}(ks:List (List Int))(xs:List D)(h:ks.length=xs.length):(DY ks xs n z).1.length=(DY ks xs n z).2.length:=by
 unfold DY
 split
 · rw [RU];exact h
 · simp [h]
theorem MT {n:List Int}{z:D}(ks:List (List Int))(xs:List D):(DY ks xs n z).1=if n∈ks then ks else ks++[n]:=by
 unfold DY
 split<;>rfl
theorem UU {n:List Int}{z:D}{ks:List (List Int)}{xs:List D}(h:ks.Nodup):(DY ks xs n z).1.Nodup:=by
 rw [MT]
 split
 · exact h
 · rename_i q
   exact List.nodup_append.mpr ⟨h,List.nodup_cons.mpr ⟨(fun m=>by cases m),List.nodup_nil⟩,fun a ha b hb e=>q (by rw [List.mem_singleton.mp hb] at e;rw [<- e];exact ha)⟩
theorem NO {m n:List Int}{z:D}:∀ {ks:List (List Int)} {xs:List D},ks.length=xs.length->n∉ks->Y8 (ks++[n]) (xs++[z]) m=if n=m then some z else Y8 ks xs m
 | [],[],_,_=>by simp [Y8]
 | [],_::_,h,_=>by simp at h
 | _::_,[],h,_=>by simp at h
 | k::ks,x::xs,h,nm=>by
   rw [List.mem_cons,not_or] at nm
   have ih:=NO (m:=m) (z:=z) (ks:=ks) (xs:=xs) (by simpa using h) nm.2
   rw [List.cons_append,List.cons_append]
   unfold Y8
   rw [ih]
   by_cases e:k=m
   · have:¬ n=m:=fun y=>nm.1 (by rw [y,e])
     simp [e,this]
   · simp [e]
theorem LG {m n:List Int}{z:D}:∀ {ks:List (List Int)} {xs:List D},ks.length=xs.length->Y8 ks (HP ks xs n z) m=if n=m/\n∈ks then some z else Y8 ks xs m
 | [],[],_=>by simp [Y8,HP]
 | [],_::_,h=>by simp at h
 | _::_,[],h=>by simp at h
 | k::ks,x::xs,h=>by
   have ih:=LG (m:=m) (n:=n) (z:=z) (ks:=ks) (xs:=xs) (by simpa using h)
   unfold HP Y8
   rw [ih]
   by_cases e:k=m
   · subst e
     by_cases y:k=n
     · subst y;simp
     · have y2:¬ n=k:=fun q=>y q.symm
       simp [y,y2]
   · rw [if_neg e,if_neg e]
     by_cases y:n=m
     · subst y
       have:¬ n=k:=fun q=>e q.symm
       simp [this]
     · simp [y]
theorem YN {n m:List Int}{z:D}(ks:List (List Int))(xs:List D)(h:ks.length=xs.length):Y8 (DY ks xs n z).1 (DY ks xs n z).2 m=if n=m then some z else Y8 ks xs m:=by
 unfold DY
 by_cases q:n∈ks
 · rw [if_pos q]
   show Y8 ks (HP ks xs n z) m=_
   rw [LG h]
   by_cases e:n=m
   · simp [e,e▸q]
   · simp [e]
 · rw [if_neg q]
   exact NO h q
section
variable {K:Fg}{M:Addr->Prop}{H:Hp}{n:List Int}{z:D}{v:V}{u:Value}{b:Addr}
theorem IC:∀ {es:Ens},(atKey es n).isSome=true↔n∈es.map (·.1)
 | []=>by simp [atKey]
 | e::es=>by
   rw [LM,List.map_cons,List.mem_cons]
   by_cases q:e.1=n
   · simp [q]
   · rw [if_neg q,IC]
     exact ⟨.inr,fun y=>y.elim (fun w=>absurd w.symm q) id⟩
theorem RX:∀ (es:Ens),(es.map (putAt n u)).map (·.1)=es.map (·.1)
 | []=>rfl
 | e::es=>by
   rw [List.map_cons,List.map_cons,List.map_cons,RX es]
   congr 1
   unfold putAt
   split<;>rfl
theorem WM:∀ (es:Ens),(es.map (putAt n u)).map (fun e=>(e.1,e.2.1))=es.map fun e=>(e.1,e.2.1)
 | []=>rfl
 | e::es=>by
   rw [List.map_cons,List.map_cons,List.map_cons,WM es]
   congr 1
   unfold putAt
   split<;>rfl
theorem RW (rv:RelV v u)(rz:Rep K M H z v):∀ {es:Ens} {vs:List V} {xs:List D},Vals vs (es.map (·.2.2))->Reps K M H xs vs->∃ vs',Vals vs' ((es.map (putAt n u)).map (·.2.2))/\Reps K M H (HP (es.map (·.1)) xs n z) vs'
 | [],vs,xs,hv,r=>by
   cases hv
   rw [List.map_nil]
   unfold HP
   exact ⟨[],.nil,r⟩
 | e::es,vs,[],hv,r=>by
   rw [show vs=[] from r] at hv
   cases hv
 | e::es,_,x::xs,hv,r=>by
   obtain ⟨v0,vs,rfl,rx,rr⟩:=r
   rw [List.map_cons] at hv
   cases hv with
   | cons h1 h2 =>
   obtain ⟨vs',i1,i2⟩:=RW rv rz h2 rr
   rw [List.map_cons,List.map_cons,List.map_cons]
   unfold HP
   by_cases q:e.1=n
   · refine ⟨v::vs',.cons ?_ i1,v,vs',rfl,?_,i2⟩
     · unfold putAt;rw [if_pos q];exact rv
     · rw [if_pos q];exact rz
   · refine ⟨v0::vs',.cons ?_ i1,v0,vs',rfl,?_,i2⟩
     · unfold putAt;rw [if_neg q];exact h1
     · rw [if_neg q];exact rx
theorem J6m {es:Ens}{ks:List (List Int)}{vs:List V}{xs:List D}(hb:TpA K M H b (n.map V.int))(rv:RelV v u)(rz:Rep K M H z v)(hE:DctE K M H es ks vs)(r:Reps K M H xs vs):∃ vs',DctE K M H (storedH es n b u) (DY ks xs n z).1 vs'/\Reps K M H (DY ks xs n z).2 vs':=by
 obtain ⟨e1,e2,e3⟩:=hE
 subst e1
 unfold storedH DY
 by_cases q:n∈es.map (·.1)
 · rw [if_pos (IC.mpr q),if_pos q]
   obtain ⟨vs',i1,i2⟩:=RW (n:=n) rv rz e3 r
   refine ⟨vs',⟨RX es,fun e m=>?_,i1⟩,i2⟩
   have:(e.1,e.2.1)∈es.map fun e=>(e.1,e.2.1):=by rw [<- WM (n:=n) (u:=u) es];exact List.mem_map.mpr ⟨e,m,rfl⟩
   obtain ⟨e',m',q'⟩:=List.mem_map.mp this
   have h:=e2 e' m'
   injection q' with q1 q2
   rw [q1,q2] at h
   exact h
 · rw [if_neg (fun y=>q (IC.mp y)),if_neg q]
   refine ⟨vs++[v],⟨by simp,fun e m=>?_,?_⟩,Reps.append r ⟨v,[],rfl,rz,rfl⟩⟩
   · rcases List.mem_append.mp m with y|y
     · exact e2 e y
     · rw [List.mem_singleton.mp y];exact hb
   · rw [List.map_append]
     exact Paired.snoc e3 rv
end
section
variable {X:Cx}{W:Wd}{pos:Pos}
def Q3p (K:Fg)(i:Nat):DS:=fun F ρ=>∀ a t,F.nx (ρ.set i (some (dcg K a t [] [])))
theorem ZE {i:Nat}{y:Str}{py dpos:Pos}(hN:X.N.Nodup)(hiN:X.N[i]?=some y)(hy:Loc X.env.scope y)
 (hs:swapsWith (.Dict [] [] dpos) (some (.Name y py)) pos.line X.env=pure false:=by rfl) (hf:X.fn y=true\/X.env.scope.names.lookup y=some .local:=by first|exact .inl rfl|exact .inr rfl|assumption) :
 JS X W (.Assign [.Name y py] (.Dict [] [] dpos) pos) (Q3p W.K i):=⟨(DR hN hiN hy J6x hs hf).mono fun E σ H hh=>hh.elim fun pn M b ρ F s l h=>by
 intro p hp
 have ok:=s.toHs.okU (o:=DOb p [] 0) hp
 have t:Sta W pn (fun c=>M c\/c=p) b (upd H p (DOb p [] 0)) σ ρ:=s.toSta.grow (fun c z=>z.imp id fun y=>by rw [y];exact hp) (fun c z=>.inl z) (Kp.upd hp) ok fun c z=>z.elim ((s.toSta.step (Kp.upd hp) ok).dom c) fun y=>by rw [y];exact ⟨_,Q5⟩
 refine l.nx _ _ _ _ _ (s.add i (t.set (x:=dcg W.K p ([],0) [] []) (v:=.ref p) i (XI ⟨.inr rfl,fun z=>?_,s.toSta.fresh0 hp⟩ Q5 ⟨rfl,(fun _ m=>by cases m),.nil⟩ rfl)) fun c m=>?_) (h p ([],0))
 · obtain ⟨o,e⟩:=W.B.dm p H (s.ok p z)
   rw [hp] at e;cases e
 · have:c=p:=List.mem_singleton.mp m
   rw [this];exact s.toHs.new hp⟩
def Q6p (K:Fg)(i:Nat)(de dk:DE):DS:=fun F ρ=>∃ (a:Addr) (t:Tg) (ks:List (List Int)) (xs:List D),ρ[i]?=some (some (dcg K a t ks xs))/\de ρ fun z=>plain z=true/\dk ρ fun y=>∃ ns:List Int,y=.tup (ns.map D.int)/\ks.length<1000/\∀ t',F.nx (ρ.set i (some (dcg K a t' (DY ks xs ns z).1 (DY ks xs ns z).2)))
theorem J3i {i:Nat}{tg e:Expr}{de dk:DE}(hK:X.K=W.K)(he:JE X W e de)(hg:PG X tg (Q6a (JN i) (dn W dk) (J9i X.K)))(hs:swapsWithSole [tg] e pos.line X.env=pure false:=by rfl)(hw:swappedStores [tg] e X.env=pure none:=by rfl)
 (h1:(assignEach [tg] X.env).map (·.2)=[assign tg X.env]:=by rfl):JS X W (.Assign [tg] e pos) (Q6p W.K i de dk):=⟨(KF he.h hg hs hw h1).mono fun E σ H hh=>hh.elim fun pn M b ρ F s l q=>by
 rw [hK]
 obtain ⟨a,t,ks,xs,e1,q⟩:=q
 obtain ⟨v0,ev,rg⟩:=s.env i _ e1
 obtain ⟨rfl,_,_⟩:=VO rg
 refine ⟨pn,M,b,ρ,_,s.toSta,q,fun z v H1 hz rz k1 o1=>?_⟩
 have s1:=s.step k1 o1
 refine ⟨.ref a,ev,pn,M,b,ρ,_,s1.toSta,hz.2,fun y u H2 hy ry k2 o2=>?_⟩
 obtain ⟨ns,rfl,hl,hnx⟩:=hy
 have s2:=s1.step k2 o2
 obtain ⟨v2,ev2,rg2⟩:=s2.env i _ e1
 obtain ⟨rfl,ow,vs,hd,hE,rr⟩:=VO rg2
 obtain ⟨bk,us,rfl,hb,rks⟩:=(show Rep W.K M H2 (.tup (ns.map D.int)) u from ry)
 cases rks.ints
 have hes:t.1.length=ks.length:=by rw [<- hE.1];simp
 refine ⟨a,bk,t.1,t.2,ns,rfl,rfl,hd,hE.keys,hb.sq,by rw [hes];exact Nat.lt_of_lt_of_le hl Y1,fun uu ep' ru=>?_⟩
 have rz2:=((rz.step s.bagM k2).rep hz.1)
 obtain ⟨vs',hE',rr'⟩:=J6m (n:=ns) hb ru rz2 hE rr
 have kk:∀ c o,¬ M c->H2 c=some o->upd H2 a (DOb a (storedH t.1 ns bk uu) ep') c=some o:=fun c o n q=>by rw [Q3 (fun z=>n (by rw [z];exact ow.1))];exact q
 exact l.nx _ _ _ _ _ (s2.setFrg (f':=Q6l W.K a (storedH t.1 ns bk uu,ep') (DY ks xs ns z).1 (DY ks xs ns z).2) (d':=.dct (storedH t.1 ns bk uu,ep') (DY ks xs ns z).1 (DY ks xs ns z).2) i e1 ev2 (List.mem_cons_self ..) (fun c m=>m) (XI ow Q5 (hE'.keep kk) (Reps.keep kk _ _ rr'))) (hnx _)⟩
end
def RawD (h:Heap)(d:Addr)(ds:Array DictEntry)(ep:Nat):Prop:=∃ o:Obj,h.get? d=some o/\o.ExactDict/\o.data=.dict ds ep
theorem RawD.ty {s:Shared}{d:Addr}{ds:Array DictEntry}{ep:Nat}(x:RawD s.heap d ds ep):s.TypeIs (.ref d) "dict":=let ⟨o,ho,hc,_⟩:=x;⟨o,ho,hc.1⟩
section
variable {prog:Program}{w:World}{A:Around}{E:Value->Shared->Prop}{s:Shared}{d it:Addr}{ds:Array DictEntry}{ep i:Nat}
theorem ZI {Q:Value->Shared->Prop}(hd:(d==sysModules)=false)(x:RawD s.heap d ds ep)
 (hQ:Q (.ref s.heap.objs.size) { s with heap:=s.heap.push { cls:=.type "dict_keyiterator",data:=.fields #[.ref d,.int 0 0,.int ds.size 0,.int ep 0] } }):wpAny (model prog w) A (pyIter (.ref d)) Q E s:=by
 have hT:=x.ty
 obtain ⟨o,ho,hc,hdat⟩:=x
 refine wpAny_pyIter_slot hT PySem.F.slot_dict_iter (wpAny_call_entry PySem.F.slot_dict_iter hT PySem.F.entry_dict_iter ?_ (PySem.F.args_dict_iter_1 _))
 unfold Builtin.«dict.__iter__»
 refine wpAny_bind ?_
 unfold Builtin.Dict.dictSlotNone
 refine wpAny_bind (wpAny_notOrdered_dict hT ?_)
 show wpAny _ _ (pure (Value.ref d)) _ _ s
 refine wpAny_pure ?_
 show wpAny _ _ (Builtin.Dict.showsAll d >>= _) _ _ s
 unfold Builtin.Dict.showsAll
 rw [if_neg (show ¬ ((d==sysModules)=true) by rw [hd];exact Bool.false_ne_true)]
 refine wpAny_bind (wpAny_pure (wpAny_bind (wpAny_dictEntries ho hdat (wpAny_bind (wpAny_dictEpoch ho hdat ?_)))))
 refine wpAny_bind (wpAny_newObj_type (wpAny_pure ⟨_,rfl,"dict_keyiterator",_,⟨_,Heap.get?_push_size _ rfl,rfl⟩,PySem.F.slot_dict_keyiterator_next.lookup,?_⟩))
 simpa [rawInt] using hQ
theorem YU {e:DictEntry}{Q:Option Value->Shared->Prop}(hit:s.heap.IsKeyIter it d i ds.size ep)(x:RawD s.heap d ds ep)(hx:ds[i]?=some e)
 (hQ:∀ h',h'.IsKeyIter it d (i+1) ds.size ep->Heap.SameBut it s.heap h'->Q (some e.key) { s with heap:=h' }):wpAny (model prog w) A (pyNext (.ref it)) Q E s:=by
 obtain ⟨o,ho,hc,hd⟩:=id hit
 obtain ⟨od,hod,hcd,hdd⟩:=x
 unfold pyNext
 refine wpAny_bind (wpAny_attempt (wpAny_callSpecial?_slot (name:=Str.ofString "__next__") hit.typeIs PySem.F.slot_dict_keyiterator_next (wpAny_call_entry PySem.F.slot_dict_keyiterator_next hit.typeIs PySem.F.entry_dict_keyiterator_next ?_ (PySem.F.args_dict_keyiterator_next_1 _))))
 refine wpAny_bind (wpAny_pure ?_);refine wpAny_bind ?_;refine wpAny_bind ?_
 first|refine wpAny_bind (wpAny_typeNameOfWhole_keyiter hit.typeIs (wpAny_pure (wpAny_bind (wpAny_fieldsOf ho hd ?_))))|refine wpAny_bind (wpAny_typeNameOf_keyiter hit.typeIs (wpAny_pure (wpAny_bind (wpAny_fieldsOf ho hd ?_))))
 simp only [show Builtin.Dict_items.ownsTuple "dict_keyiterator" = false from by decide,Bool.false_eq_true,if_false]
 show wpAny _ _ (if (Value.ref d==Value.none)=true then _ else _) _ _ s
 rw [if_neg (show ¬ ((Value.ref d==Value.none)=true) from fun z=>nomatch z)]
 refine wpAny_bind (wpAny_pure (wpAny_bind (wpAny_dictEntries hod hdd ?_)))
 rw [if_neg (show ¬ _ by simp)]
 refine wpAny_bind (wpAny_pure (wpAny_bind (wpAny_dictEpoch hod hdd ?_)))
 rw [if_neg (show ¬ _ by simp)];refine wpAny_pure ?_
 simp only [show ¬ ((i:Int)<0) from (by omega),if_false,Int.toNat_natCast,hx]
 refine wpAny_bind ?_
 first|refine wpAny_bind (wpAny_typeNameOfWhole_keyiter hit.typeIs (wpAny_pure (wpAny_bind (wpAny_isOneOf_keyiter hit.typeIs ?_))))|refine wpAny_bind (wpAny_typeNameOf_keyiter hit.typeIs (wpAny_pure (wpAny_bind (wpAny_isOneOf_keyiter hit.typeIs ?_))))
 show wpAny _ _ (setField (.ref it) 1 (rawInt ((i:Int)+1)) >>= _) _ _ s;refine wpAny_bind (wpAny_setField ho hd (by simp) ?_)
 have hit':(s.heap.update it (Obj.mapFields (·.setIfInBounds 1 (rawInt ((i:Int)+1))))).IsKeyIter it d (i+1) ds.size ep:=⟨_,Heap.get?_update_self _ ho (Obj.isFreed_of_fields (Obj.data_mapFields hd _)),(Obj.cls_mapFields ..).trans hc,by rw [Obj.data_mapFields hd];simp [rawInt]⟩
 refine wpAny_bind (wpAny_holding (wpAny_bind (wpAny_isOneOf_keyiter (s:={ s with heap:=s.heap.update it (Obj.mapFields (·.setIfInBounds 1 (rawInt ((i:Int)+1)))) }) hit'.typeIs ?_)))
 show wpAny _ _ (pure e.key) _ _ _;exact wpAny_pure (wpAny_pure ⟨_,rfl,wpAny_pure (hQ _ hit' (Heap.SameBut.update ..))⟩)
theorem J4f {Q:Option Value->Shared->Prop}(hh:A.handled=none)(hit:s.heap.IsKeyIter it d i ds.size ep)(x:RawD s.heap d ds ep)(hx:ds.size<=i)
 (hQ:∀ h',Heap.ExtBut it s.heap h'->Q none { s with heap:=h' }):wpAny (model prog w) A (pyNext (.ref it)) Q E s:=by
 obtain ⟨o,ho,hc,hd⟩:=id hit
 obtain ⟨od,hod,hcd,hdd⟩:=x
 unfold pyNext
 refine wpAny_bind (wpAny_attempt (wpAny_callSpecial?_slot (name:=Str.ofString "__next__") hit.typeIs PySem.F.slot_dict_keyiterator_next (wpAny_call_entry PySem.F.slot_dict_keyiterator_next hit.typeIs PySem.F.entry_dict_keyiterator_next ?_ (PySem.F.args_dict_keyiterator_next_1 _))))
 refine wpAny_bind (wpAny_pure ?_);refine wpAny_bind ?_;refine wpAny_bind ?_
 first|refine wpAny_bind (wpAny_typeNameOfWhole_keyiter hit.typeIs (wpAny_pure (wpAny_bind (wpAny_fieldsOf ho hd ?_))))|refine wpAny_bind (wpAny_typeNameOf_keyiter hit.typeIs (wpAny_pure (wpAny_bind (wpAny_fieldsOf ho hd ?_))))
 simp only [show Builtin.Dict_items.ownsTuple "dict_keyiterator" = false from by decide,Bool.false_eq_true,if_false]
 show wpAny _ _ (if (Value.ref d==Value.none)=true then _ else _) _ _ s
 rw [if_neg (show ¬ ((Value.ref d==Value.none)=true) from fun z=>nomatch z)]
 refine wpAny_bind (wpAny_pure (wpAny_bind (wpAny_dictEntries hod hdd ?_)))
 rw [if_neg (show ¬ _ by simp)]
 refine wpAny_bind (wpAny_pure (wpAny_bind (wpAny_dictEpoch hod hdd ?_)))
 rw [if_neg (show ¬ _ by simp)];refine wpAny_pure ?_
 simp only [show ¬ ((i:Int)<0) from (by omega),if_false,Int.toNat_natCast,Array.getElem?_eq_none hx]
 refine wpAny_bind ?_
 first|refine wpAny_bind (wpAny_typeNameOfWhole_keyiter hit.typeIs (wpAny_pure ?_))|refine wpAny_bind (wpAny_typeNameOf_keyiter hit.typeIs (wpAny_pure ?_))
 show wpAny _ _ (setField (.ref it) 0 .none >>= _) _ _ s;refine wpAny_bind (wpAny_setField ho hd (by simp) ?_)
 show wpAny _ _ (newExc (.type "StopIteration") [] >>= _) _ _ _;refine wpAny_bind ?_
 simp only [newExc,newTuple];refine wpAny_bind (wpAny_newObj_type ?_ (by size_fits))
 refine wpAny_bind (m:=firstArgMember _ _) (wpAny_of_eq (a:=Value.none) (by first|rfl|(simp only [firstArgMember];rfl)) (wpAny_newObj_type ?_ (by size_fits)))
 simp only [raiseNew];refine wpAny_bind (wpAny_handled ?_)
 rw [show A.in1.handled=none from hh];refine wpAny_bind (wpAny_pure (wpAny_throw ?_))
 refine wpAny_bind (wpAny_isInstance (T:="StopIteration") (b:=true) ⟨_,Heap.get?_push_size _ rfl,rfl⟩ isSubtype_stop (wpAny_pure (hQ _ (((Heap.SameBut.update ..).extBut.push _).push _))))
end
def Idk (a:Addr)(es:Ens)(ep:Nat):It :=
 ⟨fun i H=>H a=some (DOb a es ep)/\i<es.length,fun i H x H'=>H'=H/\∃ e,es[i]?=some e/\x=.ref e.2.1,fun i H=>H a=some (DOb a es ep)/\es.length<=i⟩
section
variable {X:Cx}{pins:List (Addr×Obj)}{σ:St}{H:Hp}{s:Shared}{a:Addr}{es:Ens}{ep:Nat}{tg:Expr}
theorem Inv.raw (I:Inv X pins σ H s)(h:H a=some (DOb a es ep)):((a==sysModules)=false/\es.length<=sizeLine)/\∃ ds,RawD s.heap a ds ep/\ds.size=es.length/\∀ (i:Nat) e,es[i]?=some e->ds[i]?=some (Q3x e):=by
 obtain ⟨⟨⟨h1,h2,h3⟩,o,ds,e1,e2,e3,e4⟩,_⟩:=I.hok a _ h
 refine ⟨⟨h1,h2⟩,ds,⟨o,e1,e2,e3⟩,?_,fun i e q=>?_⟩
 · have:=congrArg List.length e4
   simpa using this
 · rw [<- Array.getElem?_toList,e4,List.getElem?_map,q];rfl
theorem J5v (it:Addr):Turn P w K tg (Idk a es ep) [it] it (fun i h=>h.IsKeyIter it a i es.length ep) where
 mem:=by simp
 obj:=fun i h st b hb=>by
  rw [List.mem_singleton.mp hb]
  obtain ⟨o,e,c,d⟩:=st
  exact ⟨o,e,fun v z=>by rw [d] at z;cases z⟩
 keep:=fun i h h' st k=>by
  obtain ⟨o,e,q⟩:=st
  exact ⟨o,k it (by simp) o e,q⟩
 item:=by
  intro X hP hw hK hc i pins s σ H E I hf st hg
  subst hP hw hK
  obtain ⟨hd,hi⟩:=hg
  obtain ⟨e,he⟩:∃ e,es[i]?=some e:=⟨es[i],List.getElem?_eq_getElem hi⟩
  obtain ⟨⟨h1,h2⟩,ds,raw,hsz,hat⟩:=I.raw hd
  obtain ⟨f0,f1,f2,f3,f4,f5⟩:=hf it (by simp)
  rw [<- hsz] at st
  refine YU st raw (hat i e he) fun h' st' sb=>?_
  have I1:Inv X pins σ H { s with heap:=h' }:=I.turned (t':=s.toks) (fun b o hb e=>(sb.2 b hb).trans e) f0 f1 f3 f4 f5
  obtain ⟨o,e',c,d⟩:=id st'
  rw [hsz] at st'
  exact ⟨_,rfl,XC (s:={ s with heap:=h' }) e' c d (by decide) ⟨.ref e.2.1,H,I1,rfl,⟨rfl,e,he,rfl⟩,st',fun b hb=>(hf b hb).1⟩⟩
 done:=by
  intro X hP hw hK hc i pins s σ H E I hf st hg
  subst hP hw hK
  obtain ⟨hd,hi⟩:=hg
  obtain ⟨⟨h1,h2⟩,ds,raw,hsz,hat⟩:=I.raw hd
  obtain ⟨f0,f1,f2,f3,f4,f5⟩:=hf it (by simp)
  rw [<- hsz] at st
  exact J4f (I.ok.hd hc) st raw (by omega) fun h' eb=>⟨rfl,I.turned (t':=s.toks) (fun b o hb e=>eb b o hb e) f0 f1 f3 f4 f5⟩
 self:=fun _ _ s Q E st h=>wpAny_pyIter_keyiter st h
def Q5y (to:TE):TI:=fun σ H R=>to σ H fun x H1=>∃ a es ep,x=.ref a/\H1 a=some (DOb a es ep)/\R (Idk a es ep) H1
theorem J6t {o:Expr}{to:TE}(ho:PE X o to):PI X tg o (Q5y to):=by
 intro pins s σ H R I h
 refine thn (ho pins s σ H _ I h) fun v s1 hx=>?_
 obtain ⟨x,H1,I1,r1,a,es,ep,rfl,hd,q⟩:=hx
 cases r1
 obtain ⟨⟨h1,h2⟩,ds,raw,hsz,hat⟩:=I1.raw hd
 refine ZI h1 raw ?_
 rw [hsz]
 refine ⟨_,[_],_,_,H1,rfl,I1.kept (t':=s1.toks) fun b o e=>Heap.get?_push_of_some _ e,J5v _,⟨_,Heap.get?_push_size _ rfl,rfl,rfl⟩,fun b hb=>?_,q⟩
 rw [List.mem_singleton.mp hb]
 exact I1.fpOk (Nat.le_refl _) (I1.hok.fresh (Nat.le_refl _))
end
section
variable {X:Cx}{W:Wd}{e o f tg:Expr}{de dk df:DE}
def Q7u (K:Fg):D->D->(D->Prop)->Prop:=fun x y P=>∃ t ks xs ns d,asD K x t ks xs/\y=.tup (ns.map D.int)/\Y8 ks xs ns=some d/\P d
theorem WD {H:Hp}{ns:List Int}{v:V}(r:RepX W M b H (.tup (ns.map D.int)) v):∃ c,v=.ref c/\SqT W.K H c (ns.map V.int):=by
 obtain ⟨c,us,rfl,hb,rks⟩:=(show Rep W.K M H (.tup (ns.map D.int)) v from r)
 cases rks.ints
 exact ⟨c,rfl,hb.sq⟩
theorem Q1r:OpD W (Q1d W.K) (Q7u W.K):=by
 intro M b H x y v u P Q hs rx ry ho k
 obtain ⟨t,ks,xs,ns,d,hx,rfl,hf,hP⟩:=ho
 obtain ⟨a,vs,rfl,hd,hE,rr⟩:=hx.rep rx
 obtain ⟨c,rfl,hc⟩:=WD ry
 have q:=FT ns hE.1 hE.2.2 rr
 rw [hf] at q
 obtain ⟨p,v,e1,rv,r1⟩:=q
 exact ⟨a,c,t.1,t.2,ns,p,v,rfl,rfl,hd,hE.keys,hc,e1,rv,k d v H hP r1.x (Kp.refl _ _) hs.ok⟩
theorem J7w (K:Fg)(h:X.K=K)(hu:X.A.units+64<cLine):IxR X (Q1d K):=by subst h;exact Q2j (by omega)
def ER (ks:List (List Int)):List D:=ks.map fun k=>.tup (k.map D.int)
def Q8c (K:Fg)(fz:Bool)(g:List (List Int)->List D->List D)(de:DE):DA:=fun ρ P=>de ρ fun x=>∃ t ks xs,(x=.dct t ks xs\/(fz=false/\∃ a,x=dcg K a t ks xs))/\P (g ks xs)
theorem Reps.ofInts {H:Hp}:∀ ns:List Int,Reps K M H (ns.map D.int) (ns.map V.int)
 | []=>rfl
 | n::ns=>⟨_,_,rfl,rfl,Reps.ofInts ns⟩
theorem J7x {x:D}{t:Tg}{ks:List (List Int)}{xs:List D}{a:Addr}(hx:asD W.K x t ks xs):LP W (Idk a t.1 t.2) [(x,.ref a)] (ER ks):=by
 intro M b H hs hn
 obtain ⟨a',vs,e,hd,hE,rr⟩:=hx.rep (hn _ (List.mem_singleton.mpr rfl))
 cases e
 have hl:t.1.length=ks.length:=by rw [<- hE.1];simp
 have hk:(ER ks).length=ks.length:=by unfold ER;simp
 refine ⟨fun i d e=>?_,fun i hi=>⟨hd,by rw [hl,<- hk];exact hi⟩⟩
 have hi:i<t.1.length:=by rw [hl,<- hk];exact (List.getElem?_eq_some_iff.mp e).1
 refine ⟨⟨hd,hi⟩,fun y H3 ⟨eH,en,e5,ry⟩=>?_⟩
 subst eH ry
 refine ⟨Same.refl _,?_⟩
 have ed:d=.tup (en.1.map D.int):=by
  unfold ER at e
  rw [<- hE.1,List.map_map,List.getElem?_map,e5] at e
  exact (Option.some.inj e).symm
 subst ed
 exact ⟨en.2.1,en.1.map V.int,rfl,hE.2.1 en (List.mem_of_getElem? e5),Reps.ofInts en.1⟩
theorem SS (ks:List (List Int)):(ER ks).all plain=true:=by
 unfold ER
 rw [List.all_map]
 exact List.all_eq_true.mpr fun k _=>rfl
theorem J3m {fz:Bool}(hK:X.K=W.K)(h:JE X W o de):JI X W fz tg o (Q8c W.K fz (fun ks _=>ER ks) de) :=
 ⟨(J6t h.h).mono fun σ H R hh=>hh.elim fun pn M b ρ P st h k=>by
   refine ⟨pn,M,b,ρ,_,st,h,fun x v H1 hx rx k1 o1=>?_⟩
   obtain ⟨t,ks,xs,hx,hP⟩:=hx
   have hA:asD W.K x t ks xs:=hx.imp id fun z=>z.2
   obtain ⟨a,vs,rfl,hd,hE,rr⟩:=hA.rep rx
   refine ⟨a,t.1,t.2,rfl,hd,k _ _ _ H1 hP (SS ks) (J7x hA) (fun q hq=>?_) k1 o1⟩
   rw [List.mem_singleton.mp hq]
   exact ⟨rx,fun z=>hx.elim (fun e=>by rw [e];rfl) fun e=>by rw [z] at e;cases e.1⟩⟩
def Q6v (K:Fg)(i:Nat)(dk df:DE):DE:=fun ρ P=>∃ x t ks xs,ρ[i]?=some (some x)/\asD K x t ks xs/\dk ρ fun y=>∃ ns,y=.tup (ns.map D.int)/\df ρ fun z=>P ((Y8 ks xs ns).getD z)
theorem SZ {i:Nat}{x:Str}{npos apos cpos:Pos}(hK:X.K=W.K)(hu:X.A.units+64<cLine)(hk:JE X W e dk)(hf:JE X W f df)(hN:X.N[i]?=some x)(hv:Vis X.env.scope x)(m:M2 X (.Name x npos) "get" apos e f cpos) (hd:(x==("__debug__" : Str))=false:=by decide)
 (hcd:(x==("__classdict__" : Str))=false:=by decide):JE X W (.Call (.Attribute (.Name x npos) "get" apos) [e,f] [] cpos) (Q6v W.K i dk df) :=
 ⟨(SA (by omega) (OV hN hv hd hcd) hk.h hf.h m).mono fun σ H Q hh=>hh.elim fun pn M b ρ P st h k=>by
   rw [hK]
   obtain ⟨x,t,ks,xs,ex,hA,h⟩:=h
   obtain ⟨v,ev,rx⟩:=st.env i _ ex
   obtain ⟨a,vs,rfl,hd,hE,rr⟩:=hA.rep rx
   refine ⟨.ref a,ev,a,t.1,t.2,rfl,hd,hE.keys,pn,M,b,ρ,_,st,h,fun y vy H1 hy ry k1 o1=>?_⟩
   obtain ⟨ns,rfl,hy⟩:=hy
   have st1:=st.step k1 o1
   refine ⟨pn,M,b,ρ,_,st1,hy,fun z u H3 hz rz k3 o3=>?_⟩
   have kk:=k1.trans k3
   have rx3:=rx.step st.bagM kk
   obtain ⟨a',vs3,e3,hd3,hE3,rr3⟩:=hA.rep rx3
   cases e3
   have ry3:=ry.step st.bagM k3
   obtain ⟨c,rfl,hc⟩:=WD ry3
   have q:=FT ns hE3.1 hE3.2.2 rr3
   refine ⟨c,ns,rfl,hd3,hE3.keys,hc,fun hn=>?_,fun p hs=>?_⟩
   · cases ef:Y8 ks xs ns with
     | none=>rw [ef] at hz;exact k _ _ H3 hz rz kk o3
     | some d=>rw [ef] at q;obtain ⟨p,v,e1,_⟩:=q;rw [hn] at e1;cases e1
   · cases ef:Y8 ks xs ns with
     | none=>rw [ef] at q;rw [show atKey t.1 ns=none from q] at hs;cases hs
     | some d =>
       rw [ef] at q hz
       obtain ⟨p',v,e1,rv,r1⟩:=q
       rw [hs] at e1;cases e1
       exact ⟨v,rv,k _ _ H3 hz r1.x kk o3⟩⟩
end
section
variable {X:Cx}{W:Wd}{a:Expr}{dA:DA}
def Q3t (dA:DA):DA:=fun ρ P=>dA ρ fun xs=>match xs with
 | [x]=>(match asS x with|some ys=>P ys|none=>False)
 | _=>False
theorem J3n {lpos npos:Pos}(ha:JA X W [a] dA)(h:PE X (.Call (.Name "list" npos) [a] [] lpos) (tCB (fun xs H Q=>∃ p ys,xs=[.ref p]/\(SqL W.K H p ys\/SqT W.K H p ys)/\∀ l,H l=none->Q (.ref l) (upd H l (.lst ys))) (dnA W dA))):JF X W (.Call (.Name "list" npos) [a] [] lpos) (Q3t dA):=⟨h.mono fun σ H Q hh=>by
 obtain ⟨pn,M,b,ρ,P,st,h,k⟩:=hh
 refine ⟨pn,M,b,ρ,_,st,h,fun xs vs H1 hx rx k1 o1=>?_⟩
 match xs,hx with
 | [x],hx =>
   obtain ⟨v,rfl,r⟩:=rx1 rx
   cases e1:asS x with
   | none=>simp only [e1] at hx
   | some ys =>
     simp only [e1] at hx
     obtain ⟨a1,us,rfl,h1,r1⟩:=asS.rep r e1
     refine ⟨a1,us,rfl,h1,fun p hp=>?_⟩
     exact k _ _ p _ hx (IV k1 o1 hp) Q5 (Reps.keep (fun c o _ e=>Same.upd hp c o e) _ _ (Reps.avoid (fun c z=>z.imp id fun y=>by rw [y];exact hp) _ _ r1)) (k1.trans (Kp.upd hp)) ((st.step k1 o1).toHs.okU hp)⟩
end
section
theorem RawD.at {h h':Heap}{d:Addr}{ds:Array DictEntry}{ep:Nat}(x:RawD h d ds ep)(k:∀ o,h.get? d=some o->h'.get? d=some o):RawD h' d ds ep:=let ⟨o,e,q⟩:=x;⟨o,k o e,q⟩
end
abbrev DST:=List D->(List (List D)->Int->Prop)->(Addr->Prop)->Prop
structure TNew (K:Fg)(M:Addr->Prop)(H H':Hp)(p a:Addr)(rs:List Addr)(rows:List (List D))(n:Int):Prop extends GNew K M H H' a rs rows where
 p0:H p=none
 hp:H' p=some (.tup [.ref a,.int n])
def WU (K:Fg)(B:BagT)(S:DST):Sp:=fun vs H Q E=>∃ (M:Addr->Prop) (b:Option Addr) (ds:List D) (P:List (List D)->Int->Prop) (Ed:Addr->Prop),S ds P Ed/\RepAs K M b H ds vs/\okB B b H/\(∀ p,b=some p->M p)/\(∀ c,M c->∃ o,H c=some o) /\
 (∀ rows n p a rs H',P rows n->TNew K M H H' p a rs rows n->Kp b H H'->okB B b H'->Q (.ref p) H')/\∀ C H',Ed C->Kp b H H'->okB B b H'->E (.ref C) none H'
theorem WU.len {B:BagT}{S:DST}{n:Nat}(h:∀ ds P Ed,S ds P Ed->ds.length=n):∀ vs H Q E,WU K B S vs H Q E->vs.length=n:=fun vs H Q E ⟨M,b,ds,P,Ed,hS,hr,_⟩=>by rw [hr.length];exact h _ _ _ hS
section
variable {X:Cx}{W:Wd}{tg:Expr}{de:DE}
theorem Q6z {N':List Str} {scope:Scope} {map:List (Option Nat)} {elt:Expr} {ifs:List Expr} {g:TG} {dt:DT} (calm:X.calm=true) (kind:scope.kind=.function) (loc:∀ x∈scope.names,x.2=.local->scope.names.lookup x.1=some .local) (free:(scope.names.all fun p=>!(p.2==NameKind.free)||(X.env.kindOf p.1==some .cell||X.env.kindOf p.1==some .free))=true) (cap:CapOk X scope map N') (keep:FG g map)
 (run:∀ cells C fp s H,LQ X C fp s H->PG (J9 X N' scope cells C fp s H) tg g/\JIf (J9 X N' scope cells C fp s H) W ifs dt/\JE (J9 X N' scope cells C fp s H) W elt de):Blk X N' scope map tg elt ifs g (dnT W dt) (dn W de) :=
 ⟨calm,kind,loc,free,cap,keep,fun cells C fp s H i=>⟨(run cells C fp s H i).1,(run cells C fp s H i).2.1.h,(run cells C fp s H i).2.2.h⟩⟩
end
abbrev PWd:=Program×World
def idR (K:Fg)(p:PWd)(a:Addr)(ns:List Int)(xs:List D)(M:Addr->Prop)(H:Hp)(v:V):Prop:=v=.ref a/\∃ acc:List (Int×V),acc.map (·.1)=ns/\H a=some (IDb p.1 p.2 acc a)/\Reps K M H xs (acc.map (·.2))
def idF (K:Fg)(p:PWd)(a:Addr)(ns:List Int)(xs:List D):Frg where
 ads:=[a]
 R:=idR K p a ns xs
 keep:=fun M H H' v k ⟨e,acc,q,h,r⟩=>⟨e,acc,q,k a _ (.inr (List.mem_cons_self ..)) h,Reps.keep (fun c o n q=>k c o (.inl n) q) _ _ r⟩
 avoid:=fun M M' H v k ⟨e,acc,q,h,r⟩=>⟨e,acc,q,h,Reps.avoid k _ _ r⟩
 ref:=fun M H v h=>⟨a,h.1⟩
 nt:=fun M H v ⟨e,acc,q,h,r⟩ c m=>by
  rw [List.mem_singleton.mp m]
  exact ⟨_,h,fun vs z=>by cases z⟩
abbrev idg (K:Fg)(p:PWd)(a:Addr)(ns:List Int)(xs:List D):D:=.frg (idF K p a ns xs) (.adr a)
def Q5k (p:PWd):R2:=fun x y H Q=>∃ a acc k v,x=.ref a/\y=.int k/\H a=some (IDb p.1 p.2 acc a)/\acc.lookup k=some v/\Q v H
theorem J7o {k:Int}{v:V}:∀ {acc:List (Int×V)} {vs:List (Int×Value)},KV acc vs->acc.lookup k=some v->∃ u,valueAt vs k=some u/\RelV v u:=fun {acc vs} h=>by
 induction h with
 | nil=>intro z;cases z
 | @cons p q _ _ r _ ih =>
   intro z
   obtain ⟨k',y⟩:=p
   obtain ⟨k2,u⟩:=q
   obtain ⟨e,ry⟩:=r
   have e:k'=k2:=e
   subst e
   unfold valueAt
   rw [List.lookup_cons] at z
   by_cases q:k=k'
   · subst q
     simp only [beq_self_eq_true] at z
     cases z
     exact ⟨u,by simp,ry⟩
   · rw [beq_eq_false_iff_ne.mpr q] at z
     obtain ⟨u',e1,e2⟩:=ih z
     refine ⟨u',?_,e2⟩
     rw [List.find?_cons_of_neg (by simp;exact fun z=>q z.symm)]
     exact e1
section
variable {X:Cx}
theorem Q2i (h1:X.prog=P)(h2:X.w=w):IxR X (Q5k (P,w)):=by
 subst h1 h2
 intro value slice pins s σ H x y v u Q I rx ry h hs
 obtain ⟨a,acc,k,z,rfl,rfl,hd,hp,q⟩:=h
 cases rx
 obtain ⟨t,rfl⟩:∃ t,u=.int k t:=ry
 obtain ⟨⟨o,g,vs,kv,dd⟩,_,_⟩:=I.hok a _ hd
 have D:=Heap.dictOf_iff.mpr ⟨o,g,dd⟩
 obtain ⟨u,e1,e2⟩:=J7o kv hp
 exact tail_any D.mapOf.typeIs PySem.F.slot_dict_getitem.lookup (wpAny_getItem_of (knd:=intKind X.prog X.w) (k:=k) (by simp [intKind,Value.isInt]) D.mapOf e1 ⟨z,H,I.tok _,e2,q⟩) hs
end
def KO:List Int->List D->Int->Option D
 | n::ns,x::xs,k=>if k=n then some x else KO ns xs k
 | _,_,_=>none
theorem SL {H:Hp}{k:Int}{d:D}:∀ {acc:List (Int×V)} {xs:List D},Reps K M H xs (acc.map (·.2))->KO (acc.map (·.1)) xs k=some d->∃ v,acc.lookup k=some v/\Rep K M H d v
 | [],xs,_,h=>by cases xs<;>cases h
 | (n,y)::acc,[],r,h=>by cases h
 | (n,y)::acc,x::xs,r,h=>by
   obtain ⟨v,t,e,r1,r2⟩:=r
   simp only [List.map_cons,List.cons.injEq] at e
   obtain ⟨rfl,rfl⟩:=e
   rw [List.map_cons] at h
   unfold KO at h
   rw [List.lookup_cons]
   by_cases q:k=n
   · rw [if_pos q] at h
     cases h
     rw [beq_iff_eq.mpr q]
     exact ⟨y,rfl,r1⟩
   · rw [if_neg q] at h
     rw [beq_eq_false_iff_ne.mpr q]
     exact SL r2 h
def Q7t (K:Fg)(p:PWd):D->D->(D->Prop)->Prop:=fun x y P=>∃ a ns xs k d,x=idg K p a ns xs/\y=.int k/\KO ns xs k=some d/\P d
theorem Q1s {W:Wd}{p:PWd}:OpD W (Q5k p) (Q7t W.K p):=by
 intro M b H x y v u P Q hs rx ry ho k
 obtain ⟨a,ns,xs,n,d,rfl,rfl,hl,hP⟩:=ho
 cases (show _=_ from ry)
 obtain ⟨ow,⟨e,acc,q,h,r⟩,_⟩:=rx
 subst q
 obtain ⟨z,e1,rz⟩:=SL r hl
 exact ⟨a,acc,n,z,e,rfl,h,e1,k d z H hP (Rep.x rz) (Kp.refl _ _) hs.ok⟩
inductive compK (gd:D->Ev->(Ev->Prop)->Prop)(dt:DT)(dk de:DE)(ρc:Ev)(items:List D)(P:List (Int×D)->Prop):Prop
 | mk (I:Nat->List (Int×D)->Prop) (h0:I 0 []) (hs:∀ (i:Nat) x acc,items[i]?=some x->I i acc->gd x ρc fun ρ1=>dt ρ1 fun c=>IfP c (dk ρ1 fun y=>∃ k,y=.int k/\k∉acc.map (·.1)/\de ρ1 fun z=>plain z=true/\I (i+1) (acc++[(k,z)])) (I (i+1) acc)) (hd:∀ acc,I items.length acc->P acc):compK gd dt dk de ρc items P
theorem TW {W:Wd}{pn:List (D×V)}{M:Addr->Prop}{b:Option Addr}{H:Hp}{σ:St}{ρ:Ev}{J:It}{need:List (D×V)}{items:List D}{g:TG}{gd:D->Ev->(Ev->Prop)->Prop}{dt:DT}{dk de:DE}{P:List (Int×D)->Prop}{Fin:List (Int×V)->Hp->Prop}
 (hG:GD W g gd) (st:Sta W pn M b H σ ρ) (hp:items.all plain=true) (hI:LP W J need items) (hn:∀ q∈need,RepX W M b H q.1 q.2) (hl:items.length<=1000) (h:compK gd dt dk de ρ items P)
 (fin:∀ ds acc H',P ds->ds.map (·.1)=acc.map (·.1)->Reps W.K M H' (ds.map (·.2)) (acc.map (·.2))->Kp b H H'->okB W.B b H'->Fin acc H'):∃ Wf:Nat->Nat->List (Int×V)->Hp->Prop,(∃ m,Wf 0 m [] H)/\VY J g (dnT W dt) (dn W dk) (dn W de) σ Fin Wf:=by
 obtain ⟨I,i0,istep,idone⟩:=h
 refine ⟨fun i m acc H2=>m=items.length - i/\i<=items.length/\acc.length<=i/\Kp b H H2/\okB W.B b H2/\∃ ds:List (Int×D),ds.map (·.1)=acc.map (·.1)/\Reps W.K M H2 (ds.map (·.2)) (acc.map (·.2))/\I i ds,⟨items.length,by simp,Nat.zero_le _,Nat.le_refl _,Kp.refl _ _,st.ok,[],rfl,rfl,i0⟩,?_⟩
 rintro i m acc H2 ⟨rfl,hi,ha,k2,o2,ds,em,r,q⟩
 have st2:=st.step k2 o2
 obtain ⟨hgo,hstop⟩:=hI M b H2 st2.toHs fun q hq=>(hn q hq).step st.bagM k2
 by_cases hlt:i<items.length
 · have ei:items[i]?=some items[i]:=List.getElem?_eq_getElem hlt
   replace q:=istep i _ ds ei q
   refine .inr ⟨(hgo i _ ei).1,fun acc' H'=>acc'.length<=i+1/\Kp b H H'/\okB W.B b H'/\∃ ds:List (Int×D),ds.map (·.1)=acc'.map (·.1)/\Reps W.K M H' (ds.map (·.2)) (acc'.map (·.2))/\I (i+1) ds,fun acc' H' n=>⟨items.length - (i+1),by omega,rfl,hlt,n⟩,fun x H3 y=>?_⟩
   obtain ⟨S3,rx⟩:=(hgo i _ ei).2 x H3 y
   have o3:okB W.B b H3:=fun p e=>W.B.st p H2 H3 (o2 p e) fun o e'=>S3 p o e'
   have k3:Kp b H2 H3:=Kp.same S3
   have st3:=st2.step k3 o3
   refine hG pn M b H3 σ ρ items[i] x _ _ st3 rx (List.all_eq_true.mp hp _ (List.getElem_mem hlt)) q fun ρ1 σ1 h1 st4 _=>?_
   refine ⟨pn,M,b,ρ1,_,st4,h1,fun c H5 h5 k5 o5=>?_⟩
   cases h5 with
   | t e h5 =>
     rw [if_pos e]
     refine ⟨pn,M,b,ρ1,_,st4.step k5 o5,h5,fun y v H6 h6 ry k6 o6=>?_⟩
     obtain ⟨k,rfl,hk,h6⟩:=h6
     refine ⟨k,ry,by rw [<- em];exact hk,by omega,pn,M,b,ρ1,_,(st4.step k5 o5).step k6 o6,h6,fun z u H7 h7 rz k7 o7=>?_⟩
     have kk:=(((k3.trans k5).trans k6).trans k7)
     refine ⟨by simp;omega,k2.trans kk,o7,ds++[(k,z)],by rw [List.map_append,List.map_append,em];rfl,?_,h7.2⟩
     rw [List.map_append,List.map_append]
     exact Reps.append (Reps.keep (fun c o n e=>kk c o (fun z=>n (st.bagM c z)) e) _ _ r) ⟨u,[],rfl,rz.rep h7.1,rfl⟩
   | f e h5 =>
     rw [if_neg (by rw [e];exact Bool.false_ne_true)]
     have kk:=k3.trans k5
     exact ⟨by omega,k2.trans kk,o5,ds,em,Reps.keep (fun c o n e=>kk c o (fun z=>n (st.bagM c z)) e) _ _ r,h5⟩
 · have e:i=items.length:=by omega
   subst e
   exact .inl ⟨hstop _ (Nat.le_refl _),fin ds acc H2 (idone _ q) em r k2 o2⟩
def Q3y (K:Fg)(p:PWd)(i:Nat)(map:List (Option Nat))(gd:D->Ev->(Ev->Prop)->Prop)(di:DA)(dt:DT)(dk de:DE):DS:=fun F ρ=>di ρ fun items=>items.length<=1000/\compK gd dt dk de (ES ρ map) items fun acc=>∀ a,F.nx (ρ.set i (some (idg K p a (acc.map (·.1)) (acc.map (·.2)))))
section
variable {X:Cx}{W:Wd}{ke ve iter tg:Expr}{ifs:List Expr}{scope:Scope}{pos:Pos}{N':List Str}{map:List (Option Nat)}{g:TG}{gd:D->Ev->(Ev->Prop)->Prop}{di:DA}{dt:DT}{dk de:DE}
theorem J9b (calm:X.calm=true)(B:Blk X N' scope map tg ve ifs g (dnT W dt) (dn W de))(key:∀ cells C fp s H,JE (J9 X N' scope cells C fp s H) W ke dk):BlkD X N' scope map tg ke ve ifs g (dnT W dt) (dn W dk) (dn W de):=⟨B.m,fun cells C fp s H _=>(key cells C fp s H).h⟩
theorem VI {i:Nat}{y:Str}{py spos:Pos} (h1:X.prog=P)(h2:X.w=w)(hN:X.N.Nodup)(hiN:X.N[i]?=some y)(hy:Loc X.env.scope y)(hc:X.calm=true)(hG:GD W g gd)(B:BlkD X N' scope map tg ke ve ifs g (dnT W dt) (dn W dk) (dn W de))(hi:JI X W false tg iter di)
 (hsw:swapsWith (.DictComp ke ve [⟨tg,iter,ifs,0⟩] scope pos) (some (.Name y py)) spos.line X.env=pure false:=by rfl) (hfn:X.fn y=true\/X.env.scope.names.lookup y=some .local:=by first|exact .inl rfl|exact .inr rfl)
 (hs:∀ x,foldedSetIterable iter X.env x=pure x:=by intro _;rfl):JS X W (.Assign [.Name y py] (.DictComp ke ve [⟨tg,iter,ifs,0⟩] scope pos) spos) (Q3y W.K (P,w) i map gd di dt dk de):=by
 subst h1 h2
 refine ⟨(DR hN hiN hy (J1y hc B hi.h hs) hsw hfn).mono fun E σ H hh=>hh.elim fun pn M b ρ F s l h=>?_⟩
 refine ⟨pn,M,b,ρ,_,s.toSta,h,fun items J need H1 hx hp hI hn k1 o1=>?_⟩
 have s1:=s.step k1 o1
 refine TW hG (s1.toSta.capt map) hp hI (fun q hq=>(hn q hq).1) hx.1 hx.2 fun ds acc H' hP em r k2 o2 p hp=>?_
 have s2:=s1.step k2 o2
 have ok:=s2.toHs.okU (o:=IDb X.prog X.w acc p) hp
 have t:Sta W pn (fun c=>M c\/c=p) b (upd H' p (IDb X.prog X.w acc p)) σ ρ:=s2.toSta.grow (fun c z=>z.imp id fun y=>by rw [y];exact hp) (fun c z=>.inl z) (Kp.upd hp) ok fun c z=>z.elim ((s2.toSta.step (Kp.upd hp) ok).dom c) fun y=>by rw [y];exact ⟨_,Q5⟩
 have rp:RepX W (fun c=>M c\/c=p) b (upd H' p (IDb X.prog X.w acc p)) (idg W.K (X.prog,X.w) p (ds.map (·.1)) (ds.map (·.2))) (.ref p):=by
  refine ⟨fun c m=>?_,⟨rfl,acc,em.symm,Q5,Reps.keep (fun c o n e=>by rw [Q3 (fun z=>n (.inr z))];exact e) _ _ (Reps.avoid (fun c m=>m.imp id fun y=>by rw [y];exact hp) _ _ r)⟩,rfl⟩
  · rw [List.mem_singleton.mp m]
    refine ⟨.inr rfl,fun z=>?_,s2.toSta.fresh0 hp⟩
    obtain ⟨o,e⟩:=W.B.dm p H' (s2.ok p z)
    rw [hp] at e;cases e
 refine l.nx _ _ _ _ _ (s2.add i (t.set (x:=idg W.K (X.prog,X.w) p (ds.map (·.1)) (ds.map (·.2))) (v:=.ref p) i rp) fun c m=>?_) (hP p)
 have:c=p:=List.mem_singleton.mp m
 rw [this];exact s2.toHs.new hp
end
theorem MJ:∀ {as:List Addr} {us:List Value},Vals (as.map V.ref) us->us=as.map Value.ref
 | [],us,r=>by cases r;rfl
 | a::as,us,r=>by
   cases r with
   | cons r1 r2 =>
     cases r1
     rw [MJ r2]
     rfl
theorem MS:∀ as:List Addr,Vals (as.map V.ref) (as.map Value.ref)
 | []=>.nil
 | a::as=>.cons rfl (MS as)
theorem HE:∀ {ns:List Int} {us:List Value},Vals (ns.map V.int) us->IntsAre us ns
 | [],us,r=>by cases r;exact .nil
 | n::ns,us,r=>by
   cases r with
   | cons r1 r2 =>
     obtain ⟨t,rfl⟩:=r1
     exact .cons n t (HE r2)
section
variable {prog:Program}{w:World}{A:Around}{E:Value->Shared->Prop}{s:Shared}
theorem RG {l:Addr}{vs:List Value}{m:Nat}{rows:Value->List Int}{Q:Value->Shared->Prop}(il:s.heap.IsList l vs.toArray)
 (ht:∀ v∈vs,TupZ s.heap v (rows v)) (hm:∀ v∈vs,(rows v).length=m/\∀ z∈rows v,BA z) (m0:0<m) (h64:vs.length<64)
 (h:∀ (out:Array Value) (L:Addr) (e:Nat) h',out.toList.Perm vs->out.toList.Pairwise (fun x y=>BI 0 (rows x)<=BI 0 (rows y))->h'.get? L=some (seqObj "list" out e)->s.heap.objs.size<=L->(∀ b o,s.heap.get? b=some o->h'.get? b=some o)->Q (.ref L) { s with heap:=h' }) :
 wpAny (model prog w) A (call (.builtin "sorted") [.ref l]) Q E s:=by
 refine Calls.call_function_entry kind_sorted plain_sorted entry_sorted (args_sorted1 _) ?_
 unfold Builtin.«sorted»
 refine wpAny_bind (m:=checkCount "sorted" 1 1 _) (wpAny_pure ?_)
 refine wpAny_bind (collect_list il ?_ (by rw [sizeLine_eq];omega))
 refine wpAny_bind (wpAny_newList ?_)
 have z1:((s.heap.push (seqObj "list" #[] 0)).update s.heap.objs.size (Obj.mapSeq (·++vs.toArray))).objs.size=s.heap.objs.size+1:=by
  rw [Heap.size_update,size_push']
 generalize hH:(s.heap.push (seqObj "list" #[] 0)).update s.heap.objs.size (Obj.mapSeq (·++vs.toArray))=H1 at z1
 have k1:∀ b o,s.heap.get? b=some o->H1.get? b=some o:=fun b o e=>by
  have hlt:b<s.heap.objs.size:=Heap.lt_size e
  rw [<- hH,Heap.get?_update_ne _ _ _ _ (Nat.ne_of_lt hlt),Heap.get?_push_ne _ _ _ (Nat.ne_of_lt hlt)]
  exact e
 have g2:(H1.push (seqObj "list" vs.toArray 0)).get? H1.objs.size=some (seqObj "list" vs.toArray 0):=Heap.get?_push_size _ rfl
 have t2:∀ v∈vs,TupZ (H1.push (seqObj "list" vs.toArray 0)) v (rows v):=fun v hv=>by
  obtain ⟨a,o,xs,n,e,g,c,d,i⟩:=ht v hv
  exact ⟨a,o,xs,n,e,Heap.get?_push_of_some _ (k1 a o g),c,d,i⟩
 refine wpAny_bind (wpAny_holding (wpAny_call_entry (s:={ s with heap:=H1.push (seqObj "list" vs.toArray 0) }) slot_list_sort ⟨_,g2,rfl⟩ entry_list_sort (KP g2 t2 hm m0 h64 fun out a1 a2=>⟨_,rfl,?_⟩) (args_list_sort _)))
 refine wpAny_pure ⟨_,rfl,?_⟩
 show Q (.ref H1.objs.size) { s with heap:=sortedHeap (H1.push (seqObj "list" vs.toArray 0)) H1.objs.size vs out }
 unfold sortedHeap
 obtain ⟨e1,q1⟩:∃ e1,((H1.push (seqObj "list" vs.toArray 0)).update H1.objs.size (Obj.mapSeq fun _=>#[])).get? H1.objs.size=some (seqObj "list" #[] e1):=⟨_,get?_update_seq g2 (fun _=>#[])⟩
 have q2:=Heap.get?_push_of_some (seqObj "list" #[] 0) (Heap.get?_push_of_some (seqObj "tuple" vs.toArray 0) q1)
 obtain ⟨e3,q3⟩:∃ e3,(((((H1.push (seqObj "list" vs.toArray 0)).update H1.objs.size (Obj.mapSeq fun _=>#[])).push (seqObj "tuple" vs.toArray 0)).push (seqObj "list" #[] 0)).update H1.objs.size (Obj.mapSeq fun _=>out)).get? H1.objs.size=some (seqObj "list" out e3):=⟨_,get?_update_seq q2 (fun _=>out)⟩
 refine h out H1.objs.size e3 _ a1 a2 q3 (by omega) fun b q e=>?_
 have bl:=Heap.lt_size e
 have nb:b≠H1.objs.size:=by
  intro z
  rw [z,z1] at bl
  exact Nat.lt_irrefl _ (Nat.lt_of_succ_lt bl)
 rw [Heap.get?_update_ne _ _ _ _ nb]
 refine Heap.get?_push_of_some _ (Heap.get?_push_of_some _ ?_)
 rw [Heap.get?_update_ne _ _ _ _ nb]
 exact Heap.get?_push_of_some _ (k1 b q e)
end
section
variable {X:Cx}
theorem QE (K:Fg)(hK:X.K=K)(hc:X.calm=true):BG X (.builtin "sorted") (fun xs H Q=>∃ (D:Addr) (ps:List (Addr×List Int)) (m:Nat),xs=[.ref D]/\SqL K H D (ps.map fun p=>V.ref p.1)/\(∀ p∈ps,SqT K H p.1 (p.2.map V.int)/\p.2.length=m/\∀ z∈p.2,BA z)/\0<m/\ps.length<64 /\
 ∀ (p:Addr) (qs:List (Addr×List Int)),H p=none->qs.Perm ps->qs.Pairwise (fun x y=>BI 0 x.2<=BI 0 y.2)->Q (.ref p) (upd H p (.lst (qs.map fun q=>V.ref q.1)))):=by
 subst hK
 intro pins s σ H xs us Q I r h
 obtain ⟨D,ps,m,rfl,hD,hr,m0,h64,q⟩:=h
 obtain ⟨u,rfl,rx⟩:=JL r
 cases rx
 obtain ⟨its,rv,pl,hz⟩:=I.list hD
 rw [show (ps.map fun p=>V.ref p.1)=(ps.map (·.1)).map V.ref by rw [List.map_map];rfl] at rv
 have e:=MJ rv
 subst e
 have hl:=pl.isList
 let row:Addr->List Int:=fun a=>match ps.find? (fun p=>p.1==a) with|some p=>p.2|none=>[]
 have rw_:∀ p∈ps,row p.1=p.2:=fun p hp=>by
  show (match ps.find? (fun q=>q.1==p.1) with|some p=>p.2|none=>[])=p.2
  cases f:ps.find? (fun q=>q.1==p.1) with
  | none=>exact absurd (List.find?_eq_none.mp f p hp) (by simp)
  | some p' =>
    have m1:=List.mem_of_find?_eq_some f
    have m2:p'.1=p.1:=by simpa using List.find?_some f
    have h1:=(hr p' m1).1
    rw [m2] at h1
    have:=I.tuple_inj h1 (hr p hp).1
    exact (List.map_inj_right (fun x y e=>by cases e;rfl)).mp this
 refine RG (rows:=fun v=>match v with|.ref a=>row a|_=>[]) hl (fun v hv=>?_) (fun v hv=>?_) m0 (by rw [List.length_map,List.length_map];exact h64) fun out L ep h' a1 a2 g zL k=>?_
 · obtain ⟨a,ha,rfl⟩:=List.mem_map.mp hv
   obtain ⟨p,hp,rfl⟩:=List.mem_map.mp ha
   obtain ⟨its,rv,⟨o,g,c,n,d⟩,_⟩:=I.tuple (hr p hp).1
   exact ⟨p.1,o,its.toArray,n,rfl,g,c,d,by show IntsAre _ (row p.1);rw [rw_ p hp];exact HE rv⟩
 · obtain ⟨a,ha,rfl⟩:=List.mem_map.mp hv
   obtain ⟨p,hp,rfl⟩:=List.mem_map.mp ha
   show (row p.1).length=m/\∀ z∈row p.1,BA z
   rw [rw_ p hp]
   exact (hr p hp).2
 · obtain ⟨bs,eb⟩:∃ bs:List Addr,out.toList=bs.map Value.ref:=by
    have:∀ l:List Value,(∀ v∈l,∃ a,v=Value.ref a)->∃ bs:List Addr,l=bs.map Value.ref:=by
     intro l
     induction l with
     | nil=>exact fun _=>⟨[],rfl⟩
     | cons v l ih =>
       intro h
       obtain ⟨a,rfl⟩:=h v (List.mem_cons_self ..)
       obtain ⟨bs,rfl⟩:=ih fun v hv=>h v (List.mem_cons_of_mem _ hv)
       exact ⟨a::bs,rfl⟩
    refine this _ fun v hv=>?_
    obtain ⟨a,_,e⟩:=List.mem_map.mp (a1.mem_iff.mp hv)
    exact ⟨a,e.symm⟩
   have pb:bs.Perm (ps.map (·.1)):=by
    have:=a1
    rw [eb] at this
    have:=this.map (fun v=>match v with|Value.ref a=>a|_=>0)
    rw [List.map_map,List.map_map] at this
    simpa [Function.comp_def] using this
   have hL:H L=none:=I.hok.fresh zL
   have eq:(bs.map fun a=>(a,row a)).map (fun q=>V.ref q.1)=bs.map V.ref:=by
    rw [List.map_map];rfl
   have pq:(bs.map fun a=>(a,row a)).Perm ps:=by
    have:=pb.map fun a=>(a,row a)
    rw [List.map_map] at this
    have e:ps.map ((fun a=>(a,row a))∘fun x=>x.1)=ps:=by
     conv=>rhs;rw [<- List.map_id ps]
     exact List.map_congr_left fun p hp=>by show (p.1,row p.1)=p;rw [rw_ p hp]
    rwa [e] at this
   have J:=I.laid (a:=L) (o:=.lst (bs.map V.ref)) (t':=s.toks) (h':=h') k zL ⟨by rw [List.length_map,pb.length_eq,List.length_map,sizeLine_eq];omega,out.toList,ep,by rw [eb];exact MS bs,by simpa using g⟩
   have fin:=q L (bs.map fun a=>(a,row a)) hL pq (by
    rw [eb,List.pairwise_map] at a2
    rw [List.pairwise_map]
    exact a2)
   rw [eq] at fin
   exact ⟨.ref L,_,J,rfl,fin⟩
end
def DX (r:List Int):D:=.tup (r.map D.int)
theorem MR {H:Hp}:∀ {rows:List (List Int)} {vs:List V},Reps K M H (rows.map DX) vs->∃ ps:List (Addr×List Int),vs=ps.map (fun p=>V.ref p.1)/\rows=ps.map (·.2)/\∀ p∈ps,Rep K M H (DX p.2) (.ref p.1)
 | [],vs,h=>⟨[],h,rfl,fun p hp=>by simp at hp⟩
 | r::rows,vs,h=>by
   obtain ⟨v,rest,rfl,h1,h2⟩:=h
   obtain ⟨ps,rfl,hl,hr⟩:=MR h2
   obtain ⟨a,us,rfl,h3⟩:=(show ∃ a us,v=V.ref a/\TpA K M H a us/\Reps K M H _ us from h1)
   refine ⟨(a,r)::ps,rfl,by rw [List.map_cons,<- hl],fun p hp=>?_⟩
   rcases List.mem_cons.mp hp with rfl|hp
   · exact h1
   · exact hr p hp
theorem MQ {H:Hp}:∀ {qs:List (Addr×List Int)},(∀ q∈qs,Rep K M H (DX q.2) (.ref q.1))->Reps K M H ((qs.map (·.2)).map DX) (qs.map fun q=>V.ref q.1)
 | [],_=>rfl
 | q::qs,h=>⟨.ref q.1,qs.map fun q=>V.ref q.1,rfl,h q (List.mem_cons_self ..),MQ fun x hx=>h x (List.mem_cons_of_mem _ hx)⟩
theorem Q1c {H:Hp}{r:List Int}{a:Addr}(h:Rep K M H (DX r) (.ref a)):SqT K H a (r.map V.int):=by
 obtain ⟨a',us,e,h1,h2⟩:=(show ∃ a' us,V.ref a=V.ref a'/\TpA K M H a' us/\Reps K M H (r.map D.int) us from h)
 cases e
 rw [FL h2] at h1
 exact h1.sq
def Q5f (xs:List D)(P:List D->Prop):Prop:=∃ (rows:List (List Int)) (m:Nat),xs=rows.map DX/\0<m/\rows.length<64/\(∀ r∈rows,r.length=m/\∀ z∈r,BA z)/\∀ rows':List (List Int),rows'.Perm rows->rows'.Pairwise (fun x y=>BI 0 x<=BI 0 y)->P (rows'.map DX)
section
variable {X:Cx}{W:Wd}{a e:Expr}{pos:Pos}{dA:DA}
def J1l (K:Fg):List V->Hp->VK->Prop:=fun xs H Q=>∃ (D:Addr) (ps:List (Addr×List Int)) (m:Nat),xs=[.ref D]/\SqL K H D (ps.map fun p=>V.ref p.1)/\(∀ p∈ps,SqT K H p.1 (p.2.map V.int)/\p.2.length=m/\∀ z∈p.2,BA z)/\0<m/\ps.length<64 /\
 ∀ (p:Addr) (qs:List (Addr×List Int)),H p=none->qs.Perm ps->qs.Pairwise (fun x y=>BI 0 x.2<=BI 0 y.2)->Q (.ref p) (upd H p (.lst (qs.map fun q=>V.ref q.1)))
theorem LL (K:Fg)(hK:X.K=K)(hc:X.calm=true):BG X (.builtin "sorted") (J1l K):=QE K hK hc
def Q6o (da:DA):DA:=fun ρ P=>da ρ fun xs=>match xs with
 | [x]=>(asL x).elim False fun ys=>Q5f ys P
 | _=>False
theorem NF {lpos npos:Pos}(ha:JA X W [a] dA)(h:PE X (.Call (.Name "sorted" npos) [a] [] lpos) (tCB (J1l W.K) (dnA W dA))):JF X W (.Call (.Name "sorted" npos) [a] [] lpos) (Q6o dA):=⟨h.mono fun σ H Q hh=>by
 obtain ⟨pn,M,b,ρ,P,st,h,k⟩:=hh
 refine ⟨pn,M,b,ρ,_,st,h,fun xs vs H1 hx rx k1 o1=>?_⟩
 match xs,hx with
 | [x],hx =>
   obtain ⟨v,rfl,r⟩:=rx1 rx
   cases e1:asL x with
   | none=>simp only [e1] at hx;exact hx.elim
   | some ys =>
     simp only [e1] at hx
     obtain ⟨rows,m,rfl,m0,h64,hb,hP⟩:=hx
     obtain ⟨a1,us,rfl,h1,r1⟩:=asL.rep r e1
     obtain ⟨ps,rfl,rfl,hr⟩:=MR r1
     refine ⟨a1,ps,m,rfl,SqL.of h1,fun p hp=>⟨Q1c (hr p hp),hb _ (List.mem_map.mpr ⟨p,hp,rfl⟩)⟩,m0,by rw [List.length_map] at h64;exact h64,fun p qs hp pq so=>?_⟩
     have rq:Reps W.K M H1 ((qs.map (·.2)).map DX) (qs.map fun q=>V.ref q.1):=MQ fun q hq=>hr q (pq.mem_iff.mp hq)
     exact k _ _ p _ (hP (qs.map (·.2)) (pq.map _) (by rw [List.pairwise_map];exact so)) (IV k1 o1 hp) Q5 (Reps.keep (fun c o _ e=>Same.upd hp c o e) _ _ (Reps.avoid (fun c z=>z.imp id fun y=>by rw [y];exact hp) _ _ rq)) (k1.trans (Kp.upd hp)) ((st.step k1 o1).toHs.okU hp)⟩
def Q6t (dF:DA):DE:=fun ρ P=>dF ρ fun xs=>P (.lst xs)
theorem J7t (h:JF X W e dA):JE X W e (Q6t dA):=⟨h.h.mono fun σ H Q hh=>by
 obtain ⟨pn,M,b,ρ,P,st,h,k⟩:=hh
 refine ⟨pn,M,b,ρ,_,st,h,fun xs vs p H' hx n1 e1 r1 k1 o1=>?_⟩
 exact k _ _ H' hx ⟨p,vs,rfl,⟨st.toHs.new n1,e1⟩,Reps.avoid (fun c m=>.inl (.inl m)) _ _ r1⟩ k1 o1⟩
def Q6q (dF:DA):DS:=fun F ρ=>dF ρ fun xs=>F.ro xs
theorem J3j (h:JF X W e dA):JS X W (.Return (some e) pos) (Q6q dA):=⟨(CU h.h).mono fun E σ H hh=>hh.elim fun pn M b ρ F s l hd=>by
 refine ⟨pn,M,b,ρ,_,s.toSta,hd,fun xs vs p H' hx n1 e1 r1 k1 o1=>?_⟩
 have s':=s.toSta.step k1 o1
 obtain ⟨h0,m0⟩:=s.toSta.fresh0 n1
 exact l.ro _ _ _ H' hx h0 m0 e1 (Reps.avoid (fun c z=>z.elim (fun y=>.inl (.inl (s'.m0 c y))) fun y=>.inl (.inr y)) _ _ r1) s'.kp s'.ok0⟩
end
section
variable {d:Addr}{ds:Array DictEntry}{ep:Nat}
theorem RawD.frame {h h':Heap}(x:RawD h d ds ep)(k:∀ o,h.get? d=some o->h'.get? d=some o):RawD h' d ds ep:=by
 obtain ⟨o,e,q⟩:=x
 exact ⟨o,k o e,q⟩
end
def asc (z:Str):Prop:=∀ c∈z.cps.toList,c<128
def tpF (K:Fg)(p:Addr)(rs:List Addr)(rows:List (List D)):Frg where
 ads:=rs
 R:=fun M H v=>v=.ref p/\¬ M p/\rs.Nodup/\H p=some (.tup (rs.map V.ref))/\RowsR K M H rs rows
 keep:=fun M H H' v k h=>⟨h.1,h.2.1,h.2.2.1,k _ _ (.inl h.2.1) h.2.2.2.1,RowsR.keep rs rows k h.2.2.2.2⟩
 avoid:=fun M M' H v k h=>⟨h.1,fun m=>(k p m).elim h.2.1 (fun z=>by rw [h.2.2.2.1] at z;cases z),h.2.2.1,h.2.2.2.1,RowsR.avoid k rs rows h.2.2.2.2⟩
 ref:=fun M H v h=>⟨p,h.1⟩
 nt:=fun M H v h c m=>by
  obtain ⟨us,e⟩:=h.2.2.2.2.lst c m
  exact ⟨_,e,fun _ y=>by cases y⟩
def tpd (K:Fg)(p:Addr)(rs:List Addr)(rows:List (List D)):D:=.frg (tpF K p rs rows) (.tup (rows.map D.lst))
theorem J0k {H:Hp}{p:Addr}{rs:List Addr}{rows:List (List D)}(np:¬ M p)(hp:H p=some (.tup (rs.map V.ref)))(hr:RowsR K M H rs rows):Rep K (fun c=>M c/\c∉rs) H (.tup (rows.map D.lst)) (.ref p) :=
 ⟨p,_,rfl,.inl ⟨fun m=>np m.1,hp⟩,RowsR.reps (A:=rs) rs rows (fun r m=>m) hr⟩
abbrev J0c:=List D->(Frg->D->Prop)->(Addr->Prop)->Prop
def BP (K:Fg)(B:BagT)(S:J0c):Sp:=fun vs H Q E=>∃ (M:Addr->Prop) (b:Option Addr) (ds:List D) (P:Frg->D->Prop) (Ed:Addr->Prop),S ds P Ed/\RepAs K M b H ds vs/\okB B b H/\(∀ p,b=some p->M p)/\(∀ c,M c->∃ o,H c=some o) /\
 (∀ f d v H',P f d->PNew K M H H' f d v->Kp b H H'->okB B b H'->Q v H')/\∀ C H',Ed C->Kp b H H'->okB B b H'->E (.ref C) none H'
theorem BP.len {B:BagT}{S:J0c}{n:Nat}(h:∀ ds P Ed,S ds P Ed->ds.length=n):∀ vs H Q E,BP K B S vs H Q E->vs.length=n:=fun vs H Q E ⟨M,b,ds,P,Ed,hS,hr,_⟩=>by rw [hr.length];exact h _ _ _ hS
abbrev DPX:=(Frg->D->Prop)->DS
def Q7r (W:Wd)(d:DPX):TS:=fun E σ H=>∃ pn M b ρ F P,StS W pn M b H σ ρ/\Link W pn E F/\(∀ f d v H',P f d->PNew W.K W.M0 W.H0 H' f d v->Kp W.b0 W.H0 H'->okB W.B W.b0 H'->E.rt v H')/\d P F ρ
structure JPXs (X:Cx)(W:Wd)(sts:List Stmt)(d:DPX):Prop where
 h:PSs X sts (Q7r W d)
theorem J3g {X:Cx}{W:Wd}{st:Stmt}{rest:List Stmt}{d1:DS}{d2:DPX}(h1:JS X W st d1)(h2:JPXs X W rest d2):JPXs X W (st::rest) (fun P F=>d1 { F with nx:=d2 P F }):=⟨(Z8 h1.h h2.h).mono fun E σ H hh=>by
 obtain ⟨pn,M,b,ρ,F,P,s,l,lg,h⟩:=hh
 exact ⟨pn,M,b,ρ,{ F with nx:=d2 P F },s,⟨fun M b ρ σ H s' h'=>⟨pn,M,b,ρ,F,P,s',l,lg,h'⟩,l.rt,l.bk,l.ct,l.ro⟩,h⟩⟩
theorem Fun.okDXP {P:Program}{w:World} {mg:Str->Option Value}{base:Heap}{CX:CXT}{x qual:Str}{st:Stmt}{f:Addr} {N ps:List Str}{k:Nat}{B:BagT}{Sd:J0c}(F:Fun K x qual st f fd)(S:FnScope N ps (J4 st))(len:∀ ds PP Ed,Sd ds PP Ed->ds.length=ps.length)
 (hbody:∀ (cdv:Value) (A:Around) (outer:List Env) (s:Shared) (H:Hp) (E:XK) (M:Addr->Prop) (bg:Option Addr) (ds:List D) (PP:Frg->D->Prop) (Ed:Addr->Prop),Room k (A.deeper (envOfC qual (J4 st) s.heap.objs.size f cdv))->EB ⟨K,B,H,M,bg⟩ E Ed->Sd ds PP Ed ->
  ∃ d:DPX,JPXs (AJ CX P w K mg base N qual (J4 st) f cdv A outer s H E) ⟨K,B,H,M,bg⟩ (AO st) d/\d PP { nx:=fun _=>False,rt:=fun _=>False } (AE N ds)):FnOk P w K mg base CX (k+1) f fd ps (BP K B Sd) :=
 F.okX S (BP.len len) fun cdv A outer s H vs Q E hr h=>by
  obtain ⟨M,bg,ds,PP,Ed,hS,hR,ho,hb,hd,hq,hx⟩:=h
  obtain ⟨d,J,q⟩:=hbody cdv A outer s H E M bg ds PP Ed hr (fun C H' e k o=>hx C H' e k o) hS
  exact ⟨_,J.h,[],M,bg,AE N ds,{ nx:=fun _=>False,rt:=fun _=>False },PP,J4e hR ho hb hd,⟨fun _ _ _ _ _ _ h=>h.elim,fun _ _ _ h=>h.elim,fun _ _ _ _ _ _ h=>h.elim,fun _ _ _ _ _ _ h=>h.elim,fun _ _ _ _ h=>h.elim⟩,fun f d v H' hp gn k o=>hq f d v H' hp gn k o,q⟩
section
variable {W:Wd}{e b c:Expr}{p:Pos}
theorem J2b {pn:List (D×V)} {b:Option Addr}{H H1 H2:Hp}{σ:St}{ρ:Ev}{xs ys:List D}{vs us:List V}{p1 p2 p:Addr}(s:Sta W pn M b H σ ρ)(n1:H p1=none)(e1:H1 p1=some (.lst vs))(r1:Reps W.K (fun c=>M c\/c=p1) H1 xs vs)(k1:Kp b H H1)(o1:okB W.B b H1)(n2:H1 p2=none)(e2:H2 p2=some (.lst us))(r2:Reps W.K (fun c=>(M c\/c=p1)\/c=p2) H2 ys us)(k2:Kp b H1 H2)(o2:okB W.B b H2)(hp:H2 p=none) :
 PNew W.K M H (upd H2 p (.tup [.ref p1,.ref p2])) (tpF W.K p [p1,p2] [xs,ys]) (.tup ([xs,ys].map D.lst)) (.ref p):=by
 have n2':H p2=none:=IV k1 o1 n2
 have b1:b≠some p1:=fun z=>by
  obtain ⟨o,e⟩:=W.B.dm p1 H (s.ok p1 z)
  rw [n1] at e;cases e
 have e1':H2 p1=some (.lst vs):=k2 p1 _ b1 e1
 have n12:p1≠p2:=fun z=>by rw [z,n2] at e1;cases e1
 have np1:p≠p1:=fun z=>by rw [z,e1'] at hp;cases hp
 have np2:p≠p2:=fun z=>by rw [z,e2] at hp;cases hp
 have npM:¬ M p:=((s.step k1 o1).step k2 o2).toHs.new hp
 have bM:∀ c,b=some c->M c:=s.bagM
 have cl:∀ c,c∈[p1,p2]↔c=p1\/c=p2:=fun c=>by simp
 have hr:RowsR W.K (fun c=>M c\/c∈[p1,p2]) (upd H2 p (.tup [.ref p1,.ref p2])) [p1,p2] [xs,ys]:=by
  refine ⟨xs,[ys],vs,rfl,Same.upd hp _ _ e1',Reps.keep (fun c o n e=>Same.upd hp c o (k2 c o (fun z=>n (.inl (bM c z))) e)) _ _ (Reps.avoid (fun c m=>?_) _ _ r1),ys,[],us,rfl,Same.upd hp _ _ e2,Reps.keep (fun c o n e=>Same.upd hp c o e) _ _ (Reps.avoid (fun c m=>.inl ?_) _ _ r2),rfl⟩
  · rcases m with m|m
    · exact .inl (.inl m)
    · rcases (cl c).mp m with z|z
      · exact .inl (.inr z)
      · exact .inr (by rw [z];exact n2)
  · rcases m with m|m
    · exact .inl (.inl m)
    · rcases (cl c).mp m with z|z
      · exact .inl (.inr z)
      · exact .inr z
 have np:¬ (M p\/p∈[p1,p2]):=fun m=>m.elim npM fun z=>((cl p).mp z).elim np1 np2
 have new:∀ c∈[p1,p2],H c=none:=fun c m=>((cl c).mp m).elim (fun z=>by rw [z];exact n1) fun z=>by rw [z];exact n2'
 refine ⟨new,⟨rfl,np,by simp [n12],Q5,hr⟩,Rep.avoid (fun c m=>.inl ⟨.inl m,fun z=>?_⟩) _ _ (J0k np Q5 hr)⟩
 obtain ⟨o,e⟩:=s.dom c m
 rw [new c z] at e;cases e
end
section
variable {X:Cx}{W:Wd}{e b c l:Expr}{es:List Expr}{pos p:Pos}{dA:DA}{x:Str}{k:Nat}{ps:List Str}{S:J0c}
structure TpAt (W:Wd)(M:Addr->Prop)(b:Option Addr)(H:Hp)(v:V)(p:Addr)(rs:List Addr)(rows:List (List D)):Prop where
 ev:v=.ref p
 np:¬ M p
 hp:H p=some (.tup (rs.map V.ref))
 ho:∀ c∈rs,M c/\b≠some c/\W.H0 c=none/\¬ W.M0 c
 nd:rs.Nodup
 hr:RowsR W.K M H rs rows
theorem TpAt.of {b:Option Addr}{H:Hp}{v:V}{p:Addr}{rs:List Addr}{rows:List (List D)}(r:RepX W M b H (tpd W.K p rs rows) v):TpAt W M b H v p rs rows:=by
 obtain ⟨ho,⟨e,np,nd,hp,hr⟩,_⟩:=r
 exact ⟨e,np,hp,ho,nd,hr⟩
theorem TpAt.get {b:Option Addr}{H:Hp}{v:V}{p:Addr}{rs:List Addr}{rows:List (List D)}{k:Nat}{row:List D}(t:TpAt W M b H v p rs rows)(er:rows[k]?=some row):∃ r us,rs[k]?=some r/\H r=some (.lst us)/\Reps W.K M H row us:=by
 have hk:k<rs.length:=by rw [<- t.hr.length];exact (List.getElem?_eq_some_iff.mp er).1
 obtain ⟨row',us,er',hh,rr⟩:=t.hr.at (List.getElem?_eq_getElem hk)
 rw [er] at er';cases er'
 exact ⟨_,us,List.getElem?_eq_getElem hk,hh,rr⟩
def J0l (K:Fg)(P:Addr->List Addr->List (List D)->Prop):Frg->D->Prop:=fun f d=>∃ p rs rows,f=tpF K p rs rows/\d=.tup (rows.map D.lst)/\(∀ r∈rows,EK r=true)/\P p rs rows
theorem J8z {pn:List (D×V)} {b:Option Addr}{H1:Hp}{σ:St}{ρ:Ev}{xs:List D}{vs:List V}{P:Addr->List Addr->List (List D)->Prop}{Q:VK}{E:XK}{Ed:Addr->Prop}(hE:EB W E Ed)(st1:Sta W pn M b H1 σ ρ)(rx:RepXs W M b H1 xs vs)(hS:S (xs.map bor) (J0l W.K P) Ed)
 (k:∀ p rs rows v H',P p rs rows->PNew W.K M H1 H' (tpF W.K p rs rows) (.tup (rows.map D.lst)) v->Kp b H1 H'->okB W.B b H'->Q v H'):BP W.K W.B S vs H1 Q E:=by
 refine ⟨fun c=>M c/\¬ BorAt xs vs c,b,xs.map bor,_,Ed,hS,RepXs.bor2 (fun c h=>h.1) _ _ (fun c h z=>z.2 h) rx,st1.ok,fun p h=>⟨st1.bagM p h,fun z=>(BorAt.lst xs vs rx z).1 h⟩,fun c hc=>st1.dom c hc.1,fun f d v H' hp gn k2 o2=>?_,fun C H' hC k2 o2=>?_⟩
 · obtain ⟨p,rs,rows,rfl,rfl,nl,hp⟩:=hp
   obtain ⟨e,np,nd,hh,hr⟩:=gn.R
   have lst:∀ c,M c->(M c/\¬ BorAt xs vs c)\/∃ o,H' c=some o/\∀ vs,o≠.tup vs:=fun c m=>by
    by_cases z:BorAt xs vs c
    · obtain ⟨nb,us',e,nt⟩:=BorAt.lst xs vs rx z
      exact .inr ⟨us',k2 c _ nb e,nt⟩
    · exact .inl ⟨m,z⟩
   have np2:¬ (M p\/p∈rs):=fun z=>z.elim (fun m=>(lst p m).elim (fun y=>np (.inl y)) fun y=>by
    obtain ⟨o,e1,e2⟩:=y
    rw [hh] at e1
    exact e2 _ (Option.some.inj e1).symm) fun m=>np (.inr m)
   have hr2:RowsR W.K (fun c=>M c\/c∈rs) H' rs rows:=RowsR.unbor (fun c m=>m.elim (fun z=>(lst c z).imp .inl id) fun z=>.inl (.inr z)) rs rows nl hr
   refine k p rs rows v H' hp ⟨gn.new,⟨e,np2,nd,hh,hr2⟩,?_⟩ k2 o2
   rw [e]
   exact Rep.avoid (fun c m=>.inl ⟨.inl m,fun z=>by
    obtain ⟨o,y⟩:=st1.dom c m
    rw [gn.new c z] at y;cases y⟩) _ _ (J0k np2 hh hr2)
 · have st2:=st1.step k2 o2
   exact hE C H' hC st2.kp st2.ok0
def J8u (K:Fg)(S:J0c)(Ed:Addr->Prop)(dA:DA):DE:=fun ρ P=>dA ρ fun ds=>S (ds.map bor) (J0l K fun _ _ rows=>P (.tup (rows.map D.lst))) Ed
theorem ZG {CX:CXT}{E:XK}{Ed:Addr->Prop}(hE:EB W E Ed)(hp:DD CX X E)(G:Callee X.prog X.w X.K X.mg X.base CX x k ps (BP W.K W.B S))(hr:Room k X.A)(hg:Gl X x)(ha:JA X W (e::es) dA)
 (hdb:(x==("__debug__" : Str))=false:=by decide) (he:starEach (e::es) X.env=(false,eval e X.env)::starEach es X.env:=by rfl) (hpl:(backTo pos (starEach es X.env)).any (·.1)=false:=by rfl) :
 JE X W (.Call (.Name x p) (e::es) [] pos) (J8u W.K S Ed dA):=⟨(OW hp G hr hg ha.h hdb he hpl).mono fun σ H Q hh=>hh.elim fun pn M b ρ P st h k=>by
 refine ⟨pn,M,b,ρ,_,st,h,fun xs vs H1 hx rx k1 o1=>?_⟩
 have st1:=st.step k1 o1
 show BP W.K W.B S (vs++[]) H1 _ E
 rw [List.append_nil]
 exact J8z hE st1 rx hx fun p rs rows v H' hp gn k2 o2=>k _ _ H' hp gn.rep (k1.trans k2) o2⟩
def Q3r (K:Fg)(d1 d2:DA):DPX:=fun P _ ρ=>d1 ρ fun xs=>d2 ρ fun ys=>∀ p rs,P (tpF K p rs [xs,ys]) (.tup ([xs,ys].map D.lst))
theorem PNew.out {pn:List (D×V)} {b:Option Addr}{H H':Hp}{σ:St}{ρ:Ev}{f:Frg}{d:D}{v:V}(s:Sta W pn M b H σ ρ)(gn:PNew W.K M H H' f d v):PNew W.K W.M0 W.H0 H' f d v :=
 ⟨fun c m=>(s.fresh0 (gn.new c m)).1,f.avoid _ _ H' v (fun c z=>.inl (z.imp (s.m0 c) id)) gn.R,Rep.avoid (fun c m=>.inl (s.m0 c m)) _ _ gn.rep⟩
theorem ZC {d1 d2:DA}{e1 e2:Expr}{x1}{tpos:Pos}(hpa:PA X [e1,e2] (J0r (dnF W d1) (J0r (dnF W d2) J5y))):JPXs X W [.Return (some (.Tuple [e1,e2] x1 tpos)) pos] (Q3r W.K d1 d2):=⟨(AN (CU (BM hpa))).mono fun E σ H hh=>by
 obtain ⟨pn,M,b,ρ,F,P,s,l,lg,h⟩:=hh
 refine ⟨pn,M,b,ρ,_,s.toSta,h,fun xs vs p1 H1 hx n1 e1 r1 k1 o1=>?_⟩
 have t1:Sta W pn (fun c=>M c\/c=p1) b H1 σ ρ:=s.toSta.grow (fun c z=>z.imp id fun y=>by rw [y];exact n1) (fun c z=>.inl z) k1 o1 fun c z=>z.elim ((s.toSta.step k1 o1).dom c) fun y=>by rw [y];exact ⟨_,e1⟩
 refine ⟨pn,_,b,ρ,_,t1,hx,fun ys us p2 H2 hy n2 e2 r2 k2 o2=>⟨Nat.le_trans (Nat.le_of_ble_eq_true rfl) Y1,fun p hp=>?_⟩⟩
 have gn:=J2b (W:=W) s.toSta n1 e1 r1 k1 o1 n2 e2 r2 k2 o2 hp
 have s3:=((s.toSta.step k1 o1).step k2 o2).step (Kp.upd (o:=.tup [.ref p1,.ref p2]) hp) (((s.toSta.step k1 o1).step k2 o2).toHs.okU hp)
 exact lg _ _ _ _ (hy p [p1,p2]) (gn.out s.toSta) s3.kp s3.ok0⟩
end
end L2
namespace K
open PySem PySem.Spec PyProof.Rows L2
local macro_rules | `(tactic| walk_at "o") => `(tactic| first | exact Or.inl rfl | exact Or.inr rfl)
local macro_rules | `(tactic| walk_at "v") => `(tactic| first | exact Or.inl rfl | exact Or.inr (Or.inl rfl) | exact Or.inr (Or.inr rfl))
local macro_rules | `(tactic| walk_at "bg") => `(tactic| first | assumption | exact Bag.same (by walk_at "bg") (Same.upd (by assumption)) | exact Bag.same (by walk_at "bg") (by assumption))
local macro_rules | `(tactic| walk_at "hp") => `(tactic| first | assumption | exact Q5 | (refine Same.get (Same.upd (by assumption)) ?_; walk_at "hp") | (refine Same.get (by assumption) ?_; walk_at "hp") | (refine Keep.tup (by assumption) (by walk_at "bg") ?_; (walk_at "hp")))
local macro_rules | `(tactic| walk_at "sm") => `(tactic| first | exact Same.refl _ | assumption | (refine Same.trans ?_ (Same.upd (by assumption)); walk_at "sm") | (refine Same.trans ?_ (by assumption); walk_at "sm"))
local macro_rules | `(tactic| walk_at "kp") => `(tactic| first | exact Keep.refl _ _ | assumption | (refine Keep.trans ?_ (Same.keep (Same.upd (by assumption))); walk_at "kp") | (refine Keep.trans ?_ (by assumption); walk_at "kp") | (refine Keep.trans ?_ (Same.keep (by assumption)); walk_at "kp"))
local macro_rules | `(tactic| walk_at "bd") => `(tactic| first | assumption | exact Bd.mul (by walk_at "bd") (by walk_at "bd") | exact Bd.add (by walk_at "bd") (by walk_at "bd") | exact Bd.sub (by walk_at "bd") (by walk_at "bd") | exact Bd.neg (by walk_at "bd") | exact Bd.num _ (by decide))
local macro_rules | `(tactic| walk_at "rd1") => `(tactic| first | refine ⟨_,_,rfl,rfl,?_⟩ | refine ⟨_,rfl,?_⟩ | (refine' ⟨_,?xs,_,?vv,rfl,rfl,SqT.of ?ia,?ib,?_⟩; (case ia => walk_at "hp"); (case ib => rfl)) | refine And.intro (CMulB.right (Bd.num _ (by decide))) ?_ | (refine' rd_mul ?m1 ?m2 ?m3 ?_; (case m1 => walk_at "bd"); (case m2 => walk_at "bd"); (case m3 => first | decide | omega)) | refine ⟨rfl,?_⟩)
local macro_rules | `(tactic| walk_at "rd") => `(tactic| repeat (walk_at "rd1"))
local macro_rules | `(tactic| walk_at "al") => `(tactic| (refine ⟨(Nat.le_trans (Nat.le_of_ble_eq_true rfl) Y1),?_⟩; intro p en))
local macro_rules | `(tactic| walk_at "w") => `(tactic| (conv => whnf))
local macro_rules | `(tactic| walk_at "go1") => `(tactic| first | refine And.intro (by exact rfl) ?_ | refine IfP.t (by exact rfl) ?_ | refine IfP.f (by exact rfl) ?_ | refine And.intro (by exact Nat.le_of_ble_eq_true rfl) ?_ | refine And.intro (by decide) ?_ | refine And.intro (by dsimp only; decide) ?_ | refine And.intro (CMulB.right (Bd.num _ (by decide))) ?_ | refine And.intro (Or.inl ⟨_,_,by walk_at "bd",by walk_at "bd",by first | decide | omega⟩) ?_| refine And.intro ⟨by decide,by decide⟩ ?_)
local macro_rules | `(tactic| walk_at "g") => `(tactic| ((conv => whnf); repeat (walk_at "go1"; (conv => whnf))))
local macro_rules | `(tactic| walk_at "nz") => `(tactic| simp only [AE,List.map_cons,List.map_nil,List.length_cons,List.length_nil,List.replicate,List.cons_append,List.nil_append,List.set_cons_succ,List.set_cons_zero,ES,List.getElem?_cons_succ,List.getElem?_cons_zero,Option.bind_some,Option.bind_none,Option.join_some,Option.join_none,JU,Nat.reduceAdd,Nat.reduceSub,Int.reduceAdd,Nat.zero_add])
local macro_rules | `(tactic| walk_at "gr") => `(tactic| ((try walk_at "nz"); refine for_rec ?_; walk_at "g"))
local macro_rules | `(tactic| walk_at "gc") => `(tactic| ((try walk_at "nz"); refine J4y ?_; walk_at "g"))
local macro_rules | `(tactic| walk_at "sp") => `(tactic| (refine IfP.of (fun h => ?_) (fun h => ?_) <;> (try simp only [decide_eq_true_eq,Bool.bne_false,Bool.bne_true,Bool.not_eq_true',decide_eq_false_iff_not,Bool.not_true,Bool.not_false,Bool.not_eq_false',bne_iff_ne,ne_eq,Bool.not_not] at h)))
def top (i:Nat):Stmt:=PySem.Challenge.pw_onceshade_k92_whole_lines_through_bodies.main.body.getD i (.Pass ⟨0,0,0,0⟩)
structure Bi (mg:Str->Option Value):Prop where
 abs_:mg "abs" = none
 len_:mg "len" = none
 max_:mg "max" = none
 min_:mg "min" = none
 range_:mg "range" = none
 isinstance_:mg "isinstance" = none
 int_:mg "int" = none
 bool_:mg "bool" = none
 tuple_:mg "tuple" = none
 zip_:mg "zip" = none
 sum_:mg "sum" = none
 all_:mg "all" = none
 any_:mg "any" = none
 list_:mg "list" = none
 sorted_:mg "sorted" = none
structure Cs where
 ShadeError:Addr
 NoMove:Addr
 Behind:Addr
structure Ex (K:Fg)(mg:Str->Option Value)(base:Heap)(c:Cs):Prop where
 g_ShadeError:mg "ShadeError" = some (.ref c.ShadeError)
 g_NoMove:mg "NoMove" = some (.ref c.NoMove)
 g_Behind:mg "Behind" = some (.ref c.Behind)
 o_NoMove:OwnCls "NoMove" c.NoMove bmV "ValueError.__new__" mg base
 x_NoMove:XCls K c.NoMove
 v_NoMove:PySem.W.subIn K (.ref c.NoMove) (.type "ValueError")=some true
 s_NoMove:PySem.W.subIn K (.ref c.NoMove) (.ref c.ShadeError)=some true
 n_NoMove_Behind:PySem.W.kin_not K c.NoMove c.Behind=true
 o_Behind:OwnCls "Behind" c.Behind bmV "ValueError.__new__" mg base
 x_Behind:XCls K c.Behind
 v_Behind:PySem.W.subIn K (.ref c.Behind) (.type "ValueError")=some true
 s_Behind:PySem.W.subIn K (.ref c.Behind) (.ref c.ShadeError)=some true
 n_Behind_NoMove:PySem.W.kin_not K c.Behind c.NoMove=true
 sh:XBase K c.ShadeError
 d_STILL:∃ a,mg "STILL" = some (.ref a)/\∀ M H,Rep K M H (D.tup [(D.tup [(D.int (1)),(D.int (0)),(D.int (0)),(D.int (0))]),(D.tup [(D.int (0)),(D.int (1)),(D.int (0)),(D.int (0))]),(D.tup [(D.int (0)),(D.int (0)),(D.int (1)),(D.int (0))]),(D.tup [(D.int (0)),(D.int (0)),(D.int (0)),(D.int (1))])]) (.ref a)
 d_OTHERS:∃ a,mg "OTHERS" = some (.ref a)/\∀ M H,Rep K M H (D.tup [(D.tup [(D.int (1)),(D.int (2))]),(D.tup [(D.int (2)),(D.int (0))]),(D.tup [(D.int (0)),(D.int (1))])]) (.ref a)
abbrev DJ:Stmt:=top 43
abbrev xl1:List Str:=["_law_script","_law_k"]
theorem OO:FnScope xl1 xl1 (J4 DJ):=⟨rfl,rfl,rfl,by decide +kernel,rfl,by decide +kernel,by decide +kernel⟩
def WF (K:Fg):Sp:=fun vs H Q _=>∃ (a:Addr) (ns:List Int) (i:Nat),vs=[.ref a,.int i]/\SqL K H a (ns.map V.int)/\∀ n,Q (.int n) H
theorem LZ {f:Addr} (F:Fun K "_law_cell" "_law_cell" DJ f fd) (Z:Bi mg) {c:Cs} (Y:Ex K mg base c):FnOk P w K mg base CX0 1 f fd xl1 (WF K):=by
 refine F.ok OO (fun vs H Q E h=>?_) (fun cdv A outer s H vs Q E hr h=>?_)
 · obtain ⟨a,ns,i,rfl,hS,k⟩:=h
   rfl
 · obtain ⟨a,ns,i,rfl,hS,k⟩:=h
   refine ⟨_,(Z8 (RY (FM SB (pv 1) (CV (Z6 K (by rfl)) rfl Z.len_ GP (Z7 (pv 0) BY)) (Y0 _)) (AN (CU (KG (CZ K (by rfl)) (pv 0) (pv 1) (fun _ _=>rfl)))) GW)
    (AN (CU V8))),?_⟩
   walk_at "rd"
   refine ⟨_,_,rfl,.inl hS,?_⟩
   walk_at "rd"
   refine J3u (fun h=>?_) (fun h=>?_)
   · have h:(i:Int)<((ns.map V.int).length:Nat):=J9s h
     have hi:i<ns.length:=by rw [List.length_map] at h;omega
     walk_at "rd"
     refine ⟨_,_,_,_,rfl,rfl,hS,JJ (v:=V.int ns[i]) ?_,k _⟩
     rw [List.getElem?_map,List.getElem?_eq_getElem hi]
     rfl
   · exact k _
abbrev EE:Stmt:=top 44
abbrev xl2:List Str:=["_law_cell_here","_law_place"]
theorem EV:FnScope ["_law_cell_here","_law_place","_law_far"] xl2 (J4 EE):=⟨rfl,rfl,rfl,by decide +kernel,rfl,by decide +kernel,by decide +kernel⟩
def J0u:Sp:=fun vs H Q _=>∃ (c:Int) (i:Nat),vs=[.int c,.int i]/\i<=1000/\∀ p H',H p=none->Same H H'->Bag H' p->Q (.ref p) H'
theorem PF {f:Addr} (F:Fun K "_law_bag" "_law_bag" EE f fd) (Z:Bi mg) {c:Cs} (Y:Ex K mg base c):FnOk P w K mg base CX0 1 f fd xl2 J0u:=by
 refine F.ok EV (fun vs H Q E h=>?_) (fun cdv A outer s H vs Q E hr h=>?_)
 · obtain ⟨c,i,rfl,hi,k⟩:=h
   rfl
 · obtain ⟨c,i,rfl,hi,k⟩:=h
   refine ⟨_,(Z8 (DR (i:=2) EV.nd rfl (by walk_at "o") (CV UG rfl Z.abs_ J5b (Z7 (pv 0) BY)))
    (Z8 (RY (FM SB (pv 2) (BB J2d V8 V8) (Y0 _)) (AN (DR (i:=2) EV.nd rfl (by walk_at "o") V8)) GW)
    (AN (CU (UY (Z7 (pv 2) (Z7 (BB GK (BB J2d (BB EI (BB EI (BB GK (pv 0) V8) (BB Y7 V8 (pv 1))) V8) V8) V8) BY))))))),?_⟩
   have fin:∀ f:Int,0<=f->∀ p,H p=none->Q (.ref p) (upd H p (.lst [.int f,.int ((c % 2147483647+7919*(i:Int)+13) ^ (5:Int).toNat % 2147483629)])):=fun f hf p hp =>
    k p _ hp (Same.upd hp) (Bag.mk' hf (Int.emod_nonneg _ (by decide)) (Int.lt_trans (Int.emod_lt_of_pos _ (by decide)) (by decide)))
   have hb:c % 2147483647+7919*(i:Int)+13<18446744073709551616/\0<=c % 2147483647+7919*(i:Int)+13:=by
    have h1:=Int.emod_nonneg c (show (2147483647:Int)≠0 by decide)
    have h2:=Int.emod_lt_of_pos c (show (0:Int)<2147483647 by decide)
    omega
   have hab:0<=(if c<0 then -c else c):=by split<;>omega
   have bi:Bd 64 (i:Int):=Bd.of (by omega) (by omega)
   walk_at "rd"
   refine ⟨⟨by decide,by decide,by decide⟩,?_⟩
   walk_at "rd"
   refine J3u (fun h=>?_) (fun h=>?_)
   all_goals
    walk_at "rd"
    refine ⟨(by show (0:Int)<2147483647;decide),?_⟩
    walk_at "rd"
    refine ⟨⟨by decide,by decide,?_⟩,?_⟩
    · show (c % 2147483647+7919*(i:Int)+13).natAbs<2 ^ 64
      omega
    walk_at "rd"
    refine ⟨(by show (0:Int)<2147483629;decide),?_⟩
    refine ⟨(Nat.le_trans (Nat.le_of_ble_eq_true rfl) Y1),?_⟩
   · exact fin 0 (by decide)
   · exact fin _ hab
abbrev ED:Stmt:=top 45
abbrev xl3:List Str:=["_law_bag_here"]
theorem LU:FnScope xl3 xl3 (J4 ED):=⟨rfl,rfl,rfl,by decide +kernel,rfl,by decide +kernel,by decide +kernel⟩
def RE:Sp:=fun vs H Q _=>∃ (p:Addr) (f m:Int),vs=[.ref p]/\H p=some (.lst [.int f,.int m])/\0<=m/\∀ r m':Int,0<=r->0<=m'->m'<2147483647->Q (.int r) (upd H p (.lst [.int f,.int m']))
theorem LX {f:Addr} (F:Fun K "_law_mixed" "_law_mixed" ED f fd) (Z:Bi mg) {c:Cs} (Y:Ex K mg base c):FnOk P w K mg base CX0 1 f fd xl3 RE:=by
 refine F.ok LU (fun vs H Q E h=>?_) (fun cdv A outer s H vs Q E hr h=>?_)
 · obtain ⟨p,f,m,rfl,hp,hm,k⟩:=h
   rfl
 · obtain ⟨p,f,m,rfl,hp,hm,k⟩:=h
   refine ⟨_,(Z8 (KF (BB GK (BB EI (BB Y7 (KG (CZ K (by rfl)) (pv 0) V8 (fun _ _=>rfl)) V8) V8) V8) (UX (pv 0) V8 RM))
    (AN (CU (BB SC (BB GK (BB Y7 (KG (CZ K (by rfl)) (pv 0) V8 (fun _ _=>rfl)) V8) V8) V8)))),?_⟩
   walk_at "rd"
   refine ⟨_,_,_,_,rfl,rfl,SqL.of hp,rfl,?_⟩
   walk_at "rd"
   refine ⟨(by show (0:Int)<2147483647;decide),?_⟩
   walk_at "rd"
   refine ⟨_,_,_,1,rfl,rfl,hp,rfl,?_⟩
   walk_at "rd"
   refine ⟨_,_,_,_,rfl,rfl,SqL.of Q5,rfl,?_⟩
   walk_at "rd"
   refine ⟨(by show (0:Int)<2147483629;decide),?_⟩
   walk_at "rd"
   refine ⟨⟨by decide,64,Bd.num _ (by decide),by decide⟩,?_⟩
   exact k _ _ (Int.ediv_nonneg (Int.emod_nonneg _ (by decide)) (by decide)) (Int.emod_nonneg _ (by decide)) (Int.emod_lt_of_pos _ (by decide))
abbrev CK:Stmt:=top 46
abbrev xl4:List Str:=["_law_bag_here","_law_many"]
theorem AS:FnScope ["_law_bag_here","_law_many","_law_found","_law_k"] xl4 (J4 CK):=⟨rfl,rfl,rfl,by decide +kernel,rfl,by decide +kernel,by decide +kernel⟩
def RF:Sp:=fun vs H Q _=>∃ (p:Addr) (many:Int) (n:Nat),vs=[.ref p,.int many]/\Bag H p/\0<many/\Bd n many/\n<=9000/\J5o p many H Q
structure C__law_digit (P:Program)(w:World)(K:Fg)(mg:Str->Option Value)(base:Heap)(c:Cs):Prop where
 _law_mixed_:Callee P w K mg base CX0 "_law_mixed" 1 xl3 RE
theorem KM {f:Addr} (F:Fun K "_law_digit" "_law_digit" CK f fd) (Z:Bi mg) {c:Cs} (Y:Ex K mg base c) (G:C__law_digit P w K mg base c):FnOk P w K mg base CX0 2 f fd xl4 RF:=by
 refine F.ok AS (fun vs H Q E h=>?_) (fun cdv A outer s H vs Q E hr h=>?_)
 · obtain ⟨p,many,n,rfl,⟨f,m,hp,hf,hm,hm2⟩,h0,hb,hn,k⟩:=h
   rfl
 · obtain ⟨p,many,n,rfl,⟨f,m,hp,hf,hm,hm2⟩,h0,hb,hn,k⟩:=h
   refine ⟨_,(Z8 (RY (FM J2h (KG (CZ K (by rfl)) (pv 0) V8 (fun _ _=>rfl)) V8 (Y0 _)) (Z8 (DR (i:=2) AS.nd rfl (by walk_at "o") (BB GK (KG (CZ K (by rfl)) (pv 0) V8 (fun _ _=>rfl)) (pv 1)))
    (Z8 (KF (BB SC (KG (CZ K (by rfl)) (pv 0) V8 (fun _ _=>rfl)) (pv 1)) (UX (pv 0) V8 RM))
    (AN (CU (pv 2))))) GW)
    (Z8 (DR (i:=2) AS.nd rfl (by walk_at "o") (GJ G._law_mixed_ hr.m rfl (Z7 (pv 0) BY)))
    (Z8 (RY (FM J2h (pv 1) V8 (Y0 _)) (AN (J1t PassesOwn.never rfl (MV rfl Z.range_ (Z7 V8 BY)) (pg_name (i:=3) AS.nd rfl (by walk_at "o")) (AN (DR (i:=2) AS.nd rfl (by walk_at "o") (BB EI (BB Y7 (pv 2) V8) (GJ G._law_mixed_ hr.m rfl (Z7 (pv 0) BY))))))) GW)
    (AN (CU (BB GK (pv 2) (pv 1))))))),?_⟩
   have md:∀ x:Int,0<=x % many/\x % many<many:=fun x=>⟨Int.emod_nonneg _ (by omega),Int.emod_lt_of_pos _ h0⟩
   walk_at "rd"
   refine ⟨_,_,_,_,rfl,rfl,SqL.of hp,rfl,?_⟩
   walk_at "rd"
   refine J3u (fun h=>?_) (fun h=>?_)
   · have h:0<f:=J9s h
     walk_at "rd"
     refine ⟨_,_,_,_,rfl,rfl,SqL.of hp,rfl,?_⟩
     walk_at "rd"
     refine ⟨h0,?_⟩
     walk_at "rd"
     refine ⟨_,_,_,_,rfl,rfl,SqL.of hp,rfl,?_⟩
     walk_at "rd"
     refine ⟨⟨h0,n,hb,hn⟩,?_⟩
     walk_at "rd"
     refine ⟨_,_,_,0,rfl,rfl,hp,rfl,?_⟩
     walk_at "rd"
     exact k _ _ (md f).1 (md f).2 (Bag.mk' (Int.ediv_nonneg hf (by omega)) hm hm2) Keep.upd
   · walk_at "rd"
     refine ⟨p,f,m,rfl,hp,hm,fun r m1 hr0 h1 h1'=>?_⟩
     walk_at "rd"
     refine J3u (fun h=>?_) (fun h=>?_)
     · refine ⟨7,rfl,by decide,by decide,ZO (n:=7) (fun i σ H2=>∃ (x:Int) (m2:Int) (v:Option V),σ=[some (.ref p),some (.int many),some (.int x),v]/\0<=m2/\m2<2147483647/\H2=upd H p (.lst [.int f,.int m2])) ⟨r,m1,none,rfl,h1,h1',rfl⟩ ?_ ?_⟩
       · rintro i σ H2 hi ⟨x,m2,v,rfl,g1,g2,rfl⟩
         walk_at "rd"
         refine ⟨p,f,m2,rfl,Q5,g1,fun r' m3 hr' h3 h3'=>?_⟩
         walk_at "rd"
         exact ⟨_,_,_,rfl,h3,h3',WB⟩
       · rintro σ H2 ⟨x,m2,v,rfl,g1,g2,rfl⟩
         walk_at "rd"
         refine ⟨h0,?_⟩
         exact k _ _ (md x).1 (md x).2 (Bag.mk' hf g1 g2) Keep.upd
     · walk_at "rd"
       refine ⟨h0,?_⟩
       exact k _ _ (md r).1 (md r).2 (Bag.mk' hf h1 h1') Keep.upd
def BT:BagT:=⟨fun p H=>Bag H p,fun p H H' b k=>by
 obtain ⟨f,m,e,q⟩:=b
 exact ⟨f,m,k _ e,q⟩,fun p H b=>by
 obtain ⟨f,m,e,q⟩:=b
 exact ⟨_,e⟩⟩
theorem J7p {p:Addr}{H H':Hp}(k:Keep p H H'):Kp (some p) H H':=fun c o n e=>k c o (fun z=>n (by rw [z])) e
def VZ:DSp:=fun ds P _=>∃ (ns:List Int) (i:Nat),ds=[.scr ns,.int i]/\∀ n,P (.int n)
theorem OF:∀ vs H Q E,(J7 K BT VZ) vs H Q E->(WF K) vs H Q E:=by
 rintro vs H Q E ⟨M,b,ds,P,Ed,⟨ns,i,rfl,hP⟩,⟨v,r,rfl,⟨a,rfl,hS⟩,u,r',rfl,h2,h3⟩,ho,hb,hd,hq,hx⟩
 cases (show _=_ from h2)
 cases (show _=_ from h3)
 exact ⟨a,ns,i,rfl,hS.imp (·.2) id,fun n=>hq _ _ H (hP n) rfl (Kp.refl _ _) ho⟩
theorem PD {f:Addr} (F:Fun K "_law_cell" "_law_cell" DJ f fd) (Z:Bi mg) {c:Cs} (Y:Ex K mg base c):FnOk P w K mg base CX0 1 f fd xl1 (J7 K BT VZ):=FnOk.imp (LZ F Z Y) OF
def OU:List D->Prop:=fun ds=>∃ (c:Int) (i:Nat),ds=[.int c,.int i]/\i<=1000
theorem QX:∀ vs H Q E,(NZ K BT OU) vs H Q E->J0u vs H Q E:=by
 rintro vs H Q E ⟨M,b,ds,hr,⟨c,i,rfl,hi⟩,k⟩
 · obtain ⟨v,r,rfl,h1,u,r',rfl,h2,h3⟩:=hr
   cases (show _=_ from h1)
   cases (show _=_ from h2)
   cases (show _=_ from h3)
   exact ⟨c,i,rfl,hi,k⟩
theorem SH {f:Addr} (F:Fun K "_law_bag" "_law_bag" EE f fd) (Z:Bi mg) {c:Cs} (Y:Ex K mg base c):FnOk P w K mg base CX0 1 f fd xl2 (NZ K BT OU):=FnOk.imp (PF F Z Y) QX
def FU:DSp:=fun ds P _=>∃ (many:Int) (n:Nat),ds=[.bag,.int many]/\0<many/\Bd n many/\n<=9000/\∀ r,0<=r->r<many->P (.int r)
theorem LR:∀ vs H Q E,(J7 K BT FU) vs H Q E->RF vs H Q E:=by
 rintro vs H Q E ⟨M,b,ds,P,Ed,⟨many,n,rfl,h0,hbd,hn,hP⟩,⟨v,r,rfl,⟨p,rfl,rfl⟩,u,r',rfl,h2,h3⟩,ho,hb,hd,hq,hx⟩
 cases (show _=_ from h2)
 cases (show _=_ from h3)
 exact ⟨p,many,n,rfl,ho p rfl,h0,hbd,hn,fun r H' r0 r1 b' k=>hq _ _ H' (hP r r0 r1) rfl (J7p k) fun q e=>by cases e;exact b'⟩
theorem LY {f:Addr} (F:Fun K "_law_digit" "_law_digit" CK f fd) (Z:Bi mg) {c:Cs} (Y:Ex K mg base c) (G:C__law_digit P w K mg base c):FnOk P w K mg base CX0 2 f fd xl4 (J7 K BT FU):=FnOk.imp (KM F Z Y G) LR
def J5k:DSp:=fun ds P _=>∃ a b:Int,ds=[.int a,.int b]/\P (.int (Int.gcd a b))
abbrev AM:Stmt:=top 7
abbrev xl5:List Str:=["one","other"]
theorem DH:FnScope xl5 xl5 (J4 AM):=⟨rfl,rfl,rfl,by decide +kernel,rfl,by decide +kernel,by decide +kernel⟩
def DG:Sp:=fun vs H Q _=>∃ a b:Int,vs=[.int a,.int b]/\Q (.int (Int.gcd a b)) H
theorem GM {f:Addr} (F:Fun K "common_divisor" "common_divisor" AM f fd) (Z:Bi mg) {c:Cs} (Y:Ex K mg base c):FnOk P w K mg base CX0 1 f fd xl5 DG:=by
 refine F.ok DH (fun vs H Q E h=>?_) (fun cdv A outer s H vs Q E hr h=>?_)
 · obtain ⟨a,b,rfl,k⟩:=h
   rfl
 · obtain ⟨a,b,rfl,k⟩:=h
   refine ⟨_,(Z8 (J1r PassesOwn.never (FM J2f (pv 1) V8 (Y0 _)) (AN (Q1h (i:=0) (j:=1) rfl DH.nd rfl rfl (by decide) rfl rfl (Z7 (pv 1) (Z7 (BB J7a (pv 0) (pv 1)) BY)) rfl)))
    (AN (CU (CV UG rfl Z.abs_ J5b (Z7 (pv 0) BY))))),?_⟩
   have ab:∀ x:Int,(if x<0 then -x else x)=(x.natAbs:Int):=fun x=>by split<;>omega
   refine J0i (fun σ H'=>H'=H/\∃ x y:Int,σ=[some (.int x),some (.int y)]/\Int.gcd x y=Int.gcd a b) (fun σ _=>match σ with | [_,some (.int y)]=>y.natAbs|_=>0) ⟨rfl,_,_,rfl,rfl⟩ ?_ ?_
   · rintro σ H' ⟨rfl,x,y,rfl,hg⟩
     walk_at "rd"
     refine J3u (fun h=>?_) (fun h=>?_)
     · have h:y≠0:=J7g h
       walk_at "rd"
       refine ⟨h,?_⟩
       refine ⟨_,_,rfl,⟨rfl,_,_,rfl,by rw [J4c];exact hg⟩,?_⟩
       show (x.fmod y).natAbs<y.natAbs
       exact Q6e h
     · have h:y=0:=J7h h
       walk_at "rd"
       subst h
       have e:((Int.gcd a b:Nat):Int)=(if x<0 then -x else x):=by rw [<- hg,Int.gcd_zero_right,ab]
       rw [e] at k
       exact k
   · rintro σ H' Q1 Q2 hq ⟨v,e1,e2,k',e4,q⟩
     exact ⟨v,e1,e2,k',e4,hq _ _ q⟩
theorem GT:∀ vs H Q E,(J7 K BT J5k) vs H Q E->DG vs H Q E:=by
 rintro vs H Q E ⟨M,b,ds,P,Ed,⟨x,y,rfl,hP⟩,⟨v,r,rfl,h1,u,r',rfl,h2,h3⟩,ho,hb,hd,hq,hx⟩
 cases (show _=_ from h1)
 cases (show _=_ from h2)
 cases (show _=_ from h3)
 exact ⟨x,y,rfl,hq _ _ H hP rfl (Kp.refl _ _) ho⟩
theorem GZ {f:Addr} (F:Fun K "common_divisor" "common_divisor" AM f fd) (Z:Bi mg) {c:Cs} (Y:Ex K mg base c):FnOk P w K mg base CX0 1 f fd xl5 (J7 K BT J5k):=FnOk.imp (GM F Z Y) GT
abbrev UR:Stmt:=top 6
theorem J6g:FnScope ["number"] ["number"] (J4 UR):=⟨rfl,rfl,rfl,by decide +kernel,rfl,by decide +kernel,by decide +kernel⟩
def sgn (n:Int):Int:=if 0<n then 1 else if n<0 then -1 else 0
def J5i:DSp:=fun ds P _=>∃ n:Int,ds=[.int n]/\P (.int (sgn n))
theorem J7d {f:Addr} (F:Fun K "sign" "sign" UR f fd) (Z:Bi mg) {c:Cs} (Y:Ex K mg base c):FnOk P w K mg base CX0 1 f fd ["number"] (J7 K BT J5i):=by
 refine F.okD J6g (fun ds PP Ed h=>?_) (fun cdv A outer s H E M bg ds PP Ed hr hS_=>?_)
 · obtain ⟨n,rfl,hP⟩:=h
   rfl
 · obtain ⟨n,rfl,hP⟩:=hS_
   refine ⟨_,(J5 (AY (Z1 J2h KN (jdv 0) J3 (Y0 _)) (J8 (Q8 J3)) AD)
    (J5 (AY (Z1 SB KN (jdv 0) J3 (Y0 _)) (J8 (Q8 (EL J3))) AD)
    (J8 (Q8 J3)))),?_⟩
   unfold sgn at hP
   walk_at "g"
   walk_at "sp"
   · rename_i h;rw [if_pos h] at hP;exact hP
   · rename_i h
     rw [if_neg h] at hP
     walk_at "g"
     walk_at "sp"
     · rename_i h';rw [if_pos h'] at hP;exact hP
     · rename_i h';rw [if_neg h'] at hP;exact hP
abbrev DP:Stmt:=top 10
abbrev xl6:List Str:=["a","b","c"]
theorem JZ:FnScope xl6 xl6 (J4 DP):=⟨rfl,rfl,rfl,by decide +kernel,rfl,by decide +kernel,by decide +kernel⟩
def det (a0 a1 a2 b0 b1 b2 c0 c1 c2:Int):Int:=a0*(b1*c2 - b2*c1) - a1*(b0*c2 - b2*c0)+a2*(b0*c1 - b1*c0)
def J5l:DSp:=fun ds P _=>∃ (a0 a1 a2 b0 b1 b2 c0 c1 c2:Int),ds=[t3 a0 a1 a2,t3 b0 b1 b2,t3 c0 c1 c2]/\(Bd 2000 a0/\Bd 2000 a1/\Bd 2000 a2)/\(Bd 2000 b0/\Bd 2000 b1/\Bd 2000 b2)/\(Bd 2000 c0/\Bd 2000 c1/\Bd 2000 c2)/\P (.int (det a0 a1 a2 b0 b1 b2 c0 c1 c2))
theorem KJ {f:Addr} (F:Fun K "determinant" "determinant" DP f fd) (Z:Bi mg) {c:Cs} (Y:Ex K mg base c):FnOk P w K mg base CX0 1 f fd xl6 (J7 K BT J5l):=by
 refine F.okD JZ (fun ds PP Ed h=>?_) (fun cdv A outer s H E M bg ds PP Ed hr hS_=>?_)
 · obtain ⟨a0,a1,a2,b0,b1,b2,c0,c1,c2,rfl,⟨p0,p1,p2⟩,⟨q0,q1,q2⟩,⟨r0,r1,r2⟩,hP⟩:=h
   rfl
 · obtain ⟨a0,a1,a2,b0,b1,b2,c0,c1,c2,rfl,⟨p0,p1,p2⟩,⟨q0,q1,q2⟩,⟨r0,r1,r2⟩,hP⟩:=hS_
   refine ⟨_,(J8 (Q8 (V0 EI AT (V0 AQ AT (V0 Y7 FW (Q7 (Q9 K (by rfl)) V4 (jdv 0) J3 (fun _ _=>rfl)) (V0 AQ AT (V0 Y7 FW (Q7 (Q9 K (by rfl)) V4 (jdv 1) J3 (fun _ _=>rfl)) (Q7 (Q9 K (by rfl)) V4 (jdv 2) J3 (fun _ _=>rfl))) (V0 Y7 FW (Q7 (Q9 K (by rfl)) V4 (jdv 1) J3 (fun _ _=>rfl)) (Q7 (Q9 K (by rfl)) V4 (jdv 2) J3 (fun _ _=>rfl))))) (V0 Y7 FW (Q7 (Q9 K (by rfl)) V4 (jdv 0) J3 (fun _ _=>rfl)) (V0 AQ AT (V0 Y7 FW (Q7 (Q9 K (by rfl)) V4 (jdv 1) J3 (fun _ _=>rfl)) (Q7 (Q9 K (by rfl)) V4 (jdv 2) J3 (fun _ _=>rfl))) (V0 Y7 FW (Q7 (Q9 K (by rfl)) V4 (jdv 1) J3 (fun _ _=>rfl)) (Q7 (Q9 K (by rfl)) V4 (jdv 2) J3 (fun _ _=>rfl)))))) (V0 Y7 FW (Q7 (Q9 K (by rfl)) V4 (jdv 0) J3 (fun _ _=>rfl)) (V0 AQ AT (V0 Y7 FW (Q7 (Q9 K (by rfl)) V4 (jdv 1) J3 (fun _ _=>rfl)) (Q7 (Q9 K (by rfl)) V4 (jdv 2) J3 (fun _ _=>rfl))) (V0 Y7 FW (Q7 (Q9 K (by rfl)) V4 (jdv 1) J3 (fun _ _=>rfl)) (Q7 (Q9 K (by rfl)) V4 (jdv 2) J3 (fun _ _=>rfl)))))))),?_⟩
   walk_at "g"
   exact hP
abbrev GF:Stmt:=top 12
theorem RP:FnScope ["a"] ["a"] (J4 GF):=⟨rfl,rfl,rfl,by decide +kernel,rfl,by decide +kernel,by decide +kernel⟩
def GS:DSp:=fun ds P _=>∃ (x y z w:Int),ds=[sp4 x y z w]/\P (t3 x y w)
theorem SE {f:Addr} (F:Fun K "on_board" "on_board" GF f fd) (Z:Bi mg) {c:Cs} (Y:Ex K mg base c):FnOk P w K mg base CX0 1 f fd ["a"] (J7 K BT GS):=by
 refine F.okD RP (fun ds PP Ed h=>?_) (fun cdv A outer s H E M bg ds PP Ed hr hS_=>?_)
 · obtain ⟨x,y,z,w,rfl,hP⟩:=h
   rfl
 · obtain ⟨x,y,z,w,rfl,hP⟩:=hS_
   refine ⟨_,(J8 (Q8 (V1 (J0 (Q7 (Q9 K (by rfl)) V4 (jdv 0) J3 (fun _ _=>rfl)) (J0 (Q7 (Q9 K (by rfl)) V4 (jdv 0) J3 (fun _ _=>rfl)) (J0 (Q7 (Q9 K (by rfl)) V4 (jdv 0) J3 (fun _ _=>rfl)) J1)))))),?_⟩
   walk_at "g"
   exact hP
abbrev BK:Stmt:=top 8
theorem AC:FnScope ["numbers","shared","number"] ["numbers"] (J4 BK):=⟨rfl,rfl,rfl,by decide +kernel,rfl,by decide +kernel,by decide +kernel⟩
def fdD (s:Int):D->D
 | .int x=>.int (x.fdiv s)
 | d=>d
def J9z:DSp:=fun ds P _=>∃ (ns:List Int) (last:Int) (n:Nat),ds=[.tup (ns.map D.int++[.int last])]/\last≠0/\Bd n last/\n<=9000/\ns.length<=10/\P (.tup ((ns.map fun x=>.int (x.fdiv (low ns last)))++[.int (last.fdiv (low ns last))]))
structure C_lowest_terms (P:Program)(w:World)(K:Fg)(mg:Str->Option Value)(base:Heap)(c:Cs):Prop where
 common_divisor_:Callee P w K mg base CX0 "common_divisor" 1 xl5 (J7 K BT J5k)
abbrev xc1 (P:Program) (w:World) (K:Fg) (mg:Str → Option Value) (base:Heap) (f:Addr) (cdv:Value) (A:Around) (outer:List Env) (s:Shared) (H:Hp) (E:XK):Cx:=AJ CX0 P w K mg base ["numbers","shared","number"] "lowest_terms" (J4 BK) f cdv A outer s H E
theorem IQ {f:Addr} (F:Fun K "lowest_terms" "lowest_terms" BK f fd) (Z:Bi mg) {c:Cs} (Y:Ex K mg base c) (G:C_lowest_terms P w K mg base c):FnOk P w K mg base CX0 2 f fd ["numbers"] (J7 K BT J9z):=by
 refine F.okD AC (fun ds PP Ed h=>?_) (fun cdv A outer s H E M bg ds PP Ed hr hS_=>?_)
 · obtain ⟨ns,last,n,rfl,h0,hbd,hn,hl,hP⟩:=h
   rfl
 · obtain ⟨ns,last,n,rfl,h0,hbd,hn,hl,hP⟩:=hS_
   refine ⟨_,(J5 (V2 (i:=1) AC.nd rfl (by walk_at "o") J3)
    (J5 (DK (V3 2) PassesOwn.never rfl (Z2 (by rfl) (jdv 0)) (pg_name (i:=2) AC.nd rfl (by walk_at "o")) (J8 (V2 (i:=1) AC.nd rfl (by walk_at "o") (Q0 G.common_divisor_ hr.m rfl (J0 (jdv 1) (J0 (jdv 2) J1))))))
    (J5 (AY (Z1 SB KN (Q7 (Q9 K (by rfl)) V4 (jdv 0) (EL J3) (fun _ _=>rfl)) J3 (Y0 _)) (J8 (V2 (i:=1) AC.nd rfl (by walk_at "o") (EL (jdv 1)))) AD)
    (J8 (Q8 (AB (Y3 K (by rfl)) BS rfl Z.tuple_ BU (J0 (AI (X:=(xc1 P w K mg base f cdv A outer s H E).nox) (V3 0) (GQ (X:=(xc1 P w K mg base f cdv A outer s H E).nox) (N':=["number","shared"]) (map:=[none,some 1]) (by rfl) (by rfl) (by decide +kernel) (by rfl) ⟨⟨rfl,rfl,rfl,by walk_at "o"⟩,True.intro⟩ (gkeep_name rfl) fun cl0 C0 fp0 s0 H0=>⟨(pg_name (X:=(J9 (xc1 P w K mg base f cdv A outer s H E).nox ["number","shared"] _ cl0 C0 fp0 s0 H0)) (i:=0) (Y2 ["number","shared"] (by decide +kernel)) rfl (by walk_at "o")),Y6,(V0 (X:=(J9 (xc1 P w K mg base f cdv A outer s H E).nox ["number","shared"] _ cl0 C0 fp0 s0 H0)) J2i FW (jdv 0) (jdv 1))⟩) (Z2 (by rfl) (jdv 0))) J1))))))),?_⟩
   have getL:∀ (i:Nat) x,(ns.map D.int++[.int last])[i]?=some x->∃ m,x=.int m/\(ns++[last])[i]?=some m:=fun i x e=>by
    have e':(ns.map D.int++[.int last])=(ns++[last]).map D.int:=by simp
    rw [e',List.getElem?_map] at e
    cases q:(ns++[last])[i]? with
    | none=>rw [q] at e;cases e
    | some m=>rw [q] at e;exact ⟨m,(Option.some.inj e).symm,rfl⟩
   walk_at "g"
   refine ⟨fun i ρ=>∃ v,ρ=[some (.tup (ns.map D.int++[.int last])),some (.int (IU ((ns++[last]).take i))),v],⟨none,rfl⟩,fun i x ρ e ⟨v,q⟩=>?_,fun ρ ⟨v,q⟩=>?_⟩
   · obtain ⟨m,rfl,em⟩:=getL i x e
     subst q
     walk_at "g"
     refine ⟨_,_,rfl,?_⟩
     walk_at "g"
     refine ⟨some (.int m),?_⟩
     rw [List.take_add_one,em,Option.toList_some,NK]
     rfl
   · subst q
     have et:(ns++[last]).take (ns.map D.int++[D.int last]).length=ns++[last]:=List.take_of_length_le (by simp)
     rw [et]
     have hg:=FS (ns:=ns) h0
     have hlow:∀ s:Int,s=low ns last->compI (gdN 0) NQ (dOp (oI (fun _ j=>j≠0/\∃ n,Bd n j/\n<=9000) Int.fdiv) (ZT 0) (ZT 1)) [none,some (.int s)] (ns.map D.int++[.int last]) (fun acc=>PP (.tup acc)):=fun s es=>by
      refine TX (fdD s) (fun x Q hx q=>?_) (fun x hx=>?_) ?_
      · obtain ⟨i,ei⟩:=List.getElem?_of_mem hx
        obtain ⟨m,rfl,_⟩:=getL i x ei
        walk_at "w"
        refine ⟨⟨by rw [es];exact J3c h0,n,?_,hn⟩,q⟩
        rw [es]
        exact Nat.lt_of_le_of_lt (Q2b h0) hbd
      · obtain ⟨i,ei⟩:=List.getElem?_of_mem hx
        obtain ⟨m,rfl,_⟩:=getL i x ei
        rfl
      · rw [List.map_append,List.map_map,es]
        exact hP
     have hlen:(ns.map D.int++[D.int last]).length<=1000:=by simp;omega
     simp only [UJ,J0b,Q3q,J4t,Q3s,Q3u,ZU,gdN,dOp,ZT,dC,dUn,Q1u,J4q,J5f,J5g,LH,dCB,J8t,J4v,Q2m,oI,oB0,oIx,J2t,ES,List.map_cons,List.map_nil,AE,List.length_cons,List.length_nil,List.replicate,List.cons_append,List.nil_append,Nat.reduceAdd,Nat.reduceSub,Nat.zero_add,List.append_nil,Option.bind_some,Option.bind_none,Option.join_some,Option.join_none,List.getElem?_cons_succ,List.getElem?_cons_zero,List.set_cons_succ,List.set_cons_zero,List.all_cons,List.all_nil,GN,L2.plain,Bool.and_true,Bool.true_and,true_and,J9c,Option.elim_some]
     walk_at "sp"
     · rename_i hlt
       refine ⟨hlen,hlow _ ?_⟩
       unfold low;rw [if_pos hlt]
     · rename_i hlt
       refine ⟨hlen,hlow _ ?_⟩
       unfold low;rw [if_neg hlt]
structure T3 where
 ax:Int
 ay:Int
 az:Int
 aw:Int
 bx:Int
 b_y:Int
 bz:Int
 bw:Int
 cx:Int
 cy:Int
 cz:Int
 cw:Int
structure T3.ok (t:T3)(n:Nat):Prop where
 ax:Bd n t.ax
 ay:Bd n t.ay
 az:Bd n t.az
 aw:Bd n t.aw
 bx:Bd n t.bx
 b_y:Bd n t.b_y
 bz:Bd n t.bz
 bw:Bd n t.bw
 cx:Bd n t.cx
 cy:Bd n t.cy
 cz:Bd n t.cz
 cw:Bd n t.cw
abbrev T3.d (t:T3):D:=.tup [sp4 t.ax t.ay t.az t.aw,sp4 t.bx t.b_y t.bz t.bw,sp4 t.cx t.cy t.cz t.cw]
def T3.tn (t:T3):Int:=det t.ax t.ay t.aw t.bx t.b_y t.bw t.cx t.cy t.cw
def T3.wA (t:T3)(px py:Int):Int:=det t.bx t.b_y t.bw t.cx t.cy t.cw px py 1
def T3.wB (t:T3)(px py:Int):Int:=det t.cx t.cy t.cw t.ax t.ay t.aw px py 1
def T3.wC (t:T3)(px py:Int):Int:=det t.ax t.ay t.aw t.bx t.b_y t.bw px py 1
def T3.top (t:T3)(px py:Int):Int:=t.wA px py*t.az+t.wB px py*t.bz+t.wC px py*t.cz
theorem bd1 {n:Nat}(h:3<=n):Bd n 1:=(Bd.of (by decide) (by decide):Bd 3 1).mono h
abbrev DM:Stmt:=top 13
abbrev xl7:List Str:=["a","b","dot"]
theorem JY:FnScope xl7 xl7 (J4 DM):=⟨rfl,rfl,rfl,by decide +kernel,rfl,by decide +kernel,by decide +kernel⟩
def XU:DSp:=fun ds P _=>∃ (ax ay az aw bx b_y bz bw px py:Int),ds=[sp4 ax ay az aw,sp4 bx b_y bz bw,t2 px py]/\(Bd 2000 ax/\Bd 2000 ay/\Bd 2000 aw)/\(Bd 2000 bx/\Bd 2000 b_y/\Bd 2000 bw)/\(Bd 2000 px/\Bd 2000 py)/\P (.int (det ax ay aw bx b_y bw px py 1))
structure C_side_number (P:Program)(w:World)(K:Fg)(mg:Str->Option Value)(base:Heap)(c:Cs):Prop where
 determinant_:Callee P w K mg base CX0 "determinant" 1 xl6 (J7 K BT J5l)
 on_board_:Callee P w K mg base CX0 "on_board" 1 ["a"] (J7 K BT GS)
theorem KH {f:Addr} (F:Fun K "side_number" "side_number" DM f fd) (Z:Bi mg) {c:Cs} (Y:Ex K mg base c) (G:C_side_number P w K mg base c):FnOk P w K mg base CX0 2 f fd xl7 (J7 K BT XU):=by
 refine F.okD JY (fun ds PP Ed h=>?_) (fun cdv A outer s H E M bg ds PP Ed hr hS_=>?_)
 · obtain ⟨ax,ay,az,aw,bx,b_y,bz,bw,px,py,rfl,h1,h2,⟨h3,h4⟩,hP⟩:=h
   rfl
 · obtain ⟨ax,ay,az,aw,bx,b_y,bz,bw,px,py,rfl,h1,h2,⟨h3,h4⟩,hP⟩:=hS_
   refine ⟨_,(J8 (Q8 (Q0 G.determinant_ hr.m rfl (J0 (Q0 G.on_board_ hr.m rfl (J0 (jdv 0) J1)) (J0 (Q0 G.on_board_ hr.m rfl (J0 (jdv 1) J1)) (J0 (V1 (J0 (Q7 (Q9 K (by rfl)) V4 (jdv 2) J3 (fun _ _=>rfl)) (J0 (Q7 (Q9 K (by rfl)) V4 (jdv 2) J3 (fun _ _=>rfl)) (J0 J3 J1)))) J1)))))),?_⟩
   walk_at "g"
   refine ⟨_,_,_,_,rfl,?_⟩
   walk_at "g"
   refine ⟨_,_,_,_,rfl,?_⟩
   walk_at "g"
   exact ⟨_,_,_,_,_,_,_,_,_,rfl,h1,h2,⟨h3,h4,bd1 (by decide)⟩,hP⟩
abbrev UQ:Stmt:=top 19
theorem EC:FnScope ["face","a","b","c"] ["face"] (J4 UQ):=⟨rfl,rfl,rfl,by decide +kernel,rfl,by decide +kernel,by decide +kernel⟩
def J5h:DSp:=fun ds P _=>∃ (t:T3) (n:Nat),ds=[t.d]/\t.ok n/\n<=2000/\P (.int t.tn)
structure C_turn (P:Program)(w:World)(K:Fg)(mg:Str->Option Value)(base:Heap)(c:Cs):Prop where
 determinant_:Callee P w K mg base CX0 "determinant" 1 xl6 (J7 K BT J5l)
 on_board_:Callee P w K mg base CX0 "on_board" 1 ["a"] (J7 K BT GS)
theorem J7c {f:Addr} (F:Fun K "turn" "turn" UQ f fd) (Z:Bi mg) {c:Cs} (Y:Ex K mg base c) (G:C_turn P w K mg base c):FnOk P w K mg base CX0 2 f fd ["face"] (J7 K BT J5h):=by
 refine F.okD EC (fun ds PP Ed h=>?_) (fun cdv A outer s H E M bg ds PP Ed hr hS_=>?_)
 · obtain ⟨t,n,rfl,ok,hn,hP⟩:=h
   rfl
 · obtain ⟨t,n,rfl,ok,hn,hP⟩:=hS_
   refine ⟨_,(J5 (CM (CC [1,2,3]) (jdv 0) (PG.or (AV (n:=3) K (by rfl) (by rfl) (J6 (pg_name (i:=1) EC.nd rfl (by walk_at "o")) (J6 (pg_name (i:=2) EC.nd rfl (by walk_at "o")) (J6 (pg_name (i:=3) EC.nd rfl (by walk_at "o")) V6)))) (AW (n:=3) K (by rfl) (by rfl) (J6 (pg_name (i:=1) EC.nd rfl (by walk_at "o")) (J6 (pg_name (i:=2) EC.nd rfl (by walk_at "o")) (J6 (pg_name (i:=3) EC.nd rfl (by walk_at "o")) V6))))))
    (J8 (Q8 (Q0 G.determinant_ hr.m rfl (J0 (Q0 G.on_board_ hr.m rfl (J0 (jdv 1) J1)) (J0 (Q0 G.on_board_ hr.m rfl (J0 (jdv 2) J1)) (J0 (Q0 G.on_board_ hr.m rfl (J0 (jdv 3) J1)) J1))))))),?_⟩
   walk_at "g"
   refine ⟨_,_,_,_,rfl,?_⟩
   walk_at "g"
   refine ⟨_,_,_,_,rfl,?_⟩
   walk_at "g"
   refine ⟨_,_,_,_,rfl,?_⟩
   walk_at "g"
   exact ⟨_,_,_,_,_,_,_,_,_,rfl,⟨ok.ax.mono hn,ok.ay.mono hn,ok.aw.mono hn⟩,⟨ok.bx.mono hn,ok.b_y.mono hn,ok.bw.mono hn⟩,⟨ok.cx.mono hn,ok.cy.mono hn,ok.cw.mono hn⟩,hP⟩
structure R4 where
 x:Int
 y:Int
 z:Int
 w:Int
abbrev R4.d (r:R4):D:=sp4 r.x r.y r.z r.w
structure R4.ok (r:R4)(n:Nat):Prop where
 x:Bd n r.x
 y:Bd n r.y
 z:Bd n r.z
 w:Bd n r.w
theorem R4.ok.mono {r:R4}{m n:Nat}(h:r.ok m)(k:m<=n):r.ok n:=⟨h.x.mono k,h.y.mono k,h.z.mono k,h.w.mono k⟩
structure M4 where
 a:R4
 b:R4
 c:R4
 e:R4
abbrev M4.d (m:M4):D:=.tup [m.a.d,m.b.d,m.c.d,m.e.d]
structure M4.ok (m:M4)(n:Nat):Prop where
 a:m.a.ok n
 b:m.b.ok n
 c:m.c.ok n
 e:m.e.ok n
theorem M4.ok.mono {r:M4}{m n:Nat}(h:r.ok m)(k:m<=n):r.ok n:=⟨h.a.mono k,h.b.mono k,h.c.mono k,h.e.mono k⟩
def DC (r s:R4):Int:=r.x*s.x+r.y*s.y+r.z*s.z+r.w*s.w
theorem CN {r s:R4}{m n:Nat}(h:r.ok m)(k:s.ok n):Bd (m+n+3) (DC r s) :=
 (Bd.add (Bd.add (Bd.add (Bd.mul h.x k.x) (Bd.mul h.y k.y)) (Bd.mul h.z k.z)) (Bd.mul h.w k.w)).mono (by omega)
def app (m:M4)(s:R4):R4:=⟨DC m.a s,DC m.b s,DC m.c s,DC m.e s⟩
theorem J5e {m:M4}{s:R4}{i j:Nat}(h:m.ok i)(k:s.ok j):(app m s).ok (i+j+3):=⟨CN h.a k,CN h.b k,CN h.c k,CN h.e k⟩
structure Scal (r r':R4):Prop where
 x:r'.x*r.w=r.x*r'.w
 y:r'.y*r.w=r.y*r'.w
 z:r'.z*r.w=r.z*r'.w
 w:0<r'.w
abbrev AL:Stmt:=top 9
theorem GV:FnScope xl5 xl5 (J4 AL):=⟨rfl,rfl,rfl,by decide +kernel,rfl,by decide +kernel,by decide +kernel⟩
def QL:DSp:=fun ds P _=>∃ (r s:R4) (n:Nat),ds=[r.d,s.d]/\r.ok n/\s.ok n/\n<=4000/\P (.int (DC r s))
abbrev xc2 (P:Program) (w:World) (K:Fg) (mg:Str → Option Value) (base:Heap) (f:Addr) (cdv:Value) (A:Around) (outer:List Env) (s:Shared) (H:Hp) (E:XK):Cx:=AJ CX0 P w K mg base xl5 "products_added" (J4 AL) f cdv A outer s H E
abbrev xl8:List Str:=["first","second"]
theorem GY {f:Addr} (F:Fun K "products_added" "products_added" AL f fd) (Z:Bi mg) {c:Cs} (Y:Ex K mg base c):FnOk P w K mg base CX0 1 f fd xl5 (J7 K BT QL):=by
 refine F.okD GV (fun ds PP Ed h=>?_) (fun cdv A outer s H E M bg ds PP Ed hr hS_=>?_)
 · obtain ⟨r,t,n,rfl,⟨h1,h2,h3,h4⟩,⟨k1,k2,k3,k4⟩,hn,hP⟩:=h
   rfl
 · obtain ⟨r,t,n,rfl,⟨h1,h2,h3,h4⟩,⟨k1,k2,k3,k4⟩,hn,hP⟩:=hS_
   refine ⟨_,(J8 (Q8 (Z9 (ZZ K (by rfl) (by rfl)) Q4d rfl Z.sum_ Q4f (J0 (AI (X:=(xc2 P w K mg base f cdv A outer s H E).nox) (CC [0,1]) (GQ (X:=(xc2 P w K mg base f cdv A outer s H E).nox) (N':=xl8) (map:=[none,none]) (by rfl) (by rfl) (by decide +kernel) (by rfl) True.intro (gkeep_seq (js:=[0,1]) (by decide)) fun cl0 C0 fp0 s0 H0=>⟨(PG.or (AV (n:=2) K (by rfl) (by rfl) (J6 (pg_name (i:=0) (Y2 xl8 (by decide +kernel)) rfl (by walk_at "o")) (J6 (pg_name (i:=1) (Y2 xl8 (by decide +kernel)) rfl (by walk_at "o")) V6))) (AW (n:=2) K (by rfl) (by rfl) (J6 (pg_name (i:=0) (Y2 xl8 (by decide +kernel)) rfl (by walk_at "o")) (J6 (pg_name (i:=1) (Y2 xl8 (by decide +kernel)) rfl (by walk_at "o")) V6)))),Y6,(V0 (X:=(J9 (xc2 P w K mg base f cdv A outer s H E).nox xl8 _ cl0 C0 fp0 s0 H0)) Y7 FW (jdv 0) (jdv 1))⟩) (J7r (by rfl) true true rfl Z.zip_ (J0 (jdv 0) (J0 (jdv 1) J1)) (J6s K (by rfl) true true rfl Z.zip_ (JA.h (J0 (jdv 0) (J0 (jdv 1) J1)))))) J1)))),?_⟩
   walk_at "g"
   walk_at "gc"
   have e:[r.x*t.x,r.y*t.y,r.z*t.z,r.w*t.w].sum=DC r t:=by unfold DC;simp only [List.sum_cons,List.sum_nil];omega
   rw [<- e] at hP
   exact hP
structure Prim (r:R4):Prop where
 w:0<r.w
 g:Nat.gcd (Int.gcd r.x r.y) (Int.gcd r.z r.w)=1
def VG (r:R4):R4:=⟨r.x.fdiv (low [r.x,r.y,r.z] r.w),r.y.fdiv (low [r.x,r.y,r.z] r.w),r.z.fdiv (low [r.x,r.y,r.z] r.w),r.w.fdiv (low [r.x,r.y,r.z] r.w)⟩
theorem J7m {r:R4}(h:0<r.w):Prim (VG r)/\Scal r (VG r)/\∀ n,r.ok n->(VG r).ok n:=by
 obtain ⟨a1,a2,a3,a4,e1,e2,e3,e4,p4,pg,⟨q1,q2,q3⟩,⟨l1,l2,l3,l4⟩⟩:=J3b (x:=r.x) (y:=r.y) (z:=r.z) (w:=r.w) (by omega)
 have:VG r=⟨a1,a2,a3,a4⟩:=by unfold VG;rw [e1,e2,e3,e4]
 rw [this]
 exact ⟨⟨p4,pg⟩,⟨q1,q2,q3,p4⟩,fun n ro=>⟨Nat.lt_of_le_of_lt l1 ro.x,Nat.lt_of_le_of_lt l2 ro.y,Nat.lt_of_le_of_lt l3 ro.z,Nat.lt_of_le_of_lt l4 ro.w⟩⟩
abbrev IW:Stmt:=top 40
theorem RQ:FnScope ["move","spot","sums"] ["move","spot"] (J4 IW):=⟨rfl,rfl,rfl,by decide +kernel,rfl,by decide +kernel,by decide +kernel⟩
def XW (c:Cs):DSp:=fun ds P Ed=>∃ (m:M4) (s:R4) (n:Nat),ds=[m.d,s.d]/\m.ok n/\s.ok n/\n<=2000/\((app m s).w<=0->Ed c.Behind)/\(0<(app m s).w->P (VG (app m s)).d)
structure C_moved (P:Program)(w:World)(K:Fg)(mg:Str->Option Value)(base:Heap)(c:Cs):Prop where
 lowest_terms_:Callee P w K mg base CX0 "lowest_terms" 2 ["numbers"] (J7 K BT J9z)
 products_added_:Callee P w K mg base CX0 "products_added" 1 xl5 (J7 K BT QL)
abbrev xc3 (P:Program) (w:World) (K:Fg) (mg:Str → Option Value) (base:Heap) (f:Addr) (cdv:Value) (A:Around) (outer:List Env) (s:Shared) (H:Hp) (E:XK):Cx:=AJ (CX1 P w base) P w K mg base ["move","spot","sums"] "moved" (J4 IW) f cdv A outer s H E
theorem J2o {f:Addr} (F:Fun K "moved" "moved" IW f fd) (Z:Bi mg) {c:Cs} (Y:Ex K mg base c) (G:C_moved P w K mg base c):FnOk P w K mg base (CX1 P w base) 3 f fd ["move","spot"] (J7 K BT (XW c)):=by
 refine F.okDX RQ (fun ds PP Ed h=>?_) (fun cdv A outer s H E M bg ds PP Ed hr hE hS_=>?_)
 · obtain ⟨m,t,n,rfl,mo,so,hn,h0,h1⟩:=h
   rfl
 · obtain ⟨m,t,n,rfl,mo,so,hn,h0,h1⟩:=hS_
   refine ⟨_,(J5 (V2 (i:=2) RQ.nd rfl (by walk_at "o") (AB (Y3 K (by rfl)) BS rfl Z.tuple_ BU (J0 (AI (X:=(xc3 P w K mg base f cdv A outer s H E)) (V3 0) (GQ (X:=(xc3 P w K mg base f cdv A outer s H E)) (N':=["row","spot"]) (map:=[none,some 1]) (by rfl) (by rfl) (by decide +kernel) (by rfl) ⟨⟨rfl,rfl,rfl,by walk_at "o"⟩,True.intro⟩ (gkeep_name rfl) fun cl0 C0 fp0 s0 H0=>⟨(pg_name (X:=(J9 (xc3 P w K mg base f cdv A outer s H E) ["row","spot"] _ cl0 C0 fp0 s0 H0)) (i:=0) (Y2 ["row","spot"] (by decide +kernel)) rfl (by walk_at "o")),Y6,(Q0 (X:=(J9 (xc3 P w K mg base f cdv A outer s H E) ["row","spot"] _ cl0 C0 fp0 s0 H0)) G.products_added_ hr.m rfl (J0 (jdv 0) (J0 (jdv 1) J1)))⟩) (Z2 (by rfl) (jdv 0))) J1)))
    (J5 (AY (Z1 J2g KN (Q7 (Q9 K (by rfl)) V4 (jdv 2) J3 (fun _ _=>rfl)) J3 (Y0 _)) (J8 (FQ hE (FN Y.o_Behind rfl))) AD)
    (J8 (Q8 (Q0 G.lowest_terms_ hr.m rfl (J0 (jdv 2) J1)))))),?_⟩
   have ao:=J5e mo so
   walk_at "g"
   walk_at "gc"
   refine ⟨m.a,t,n,rfl,mo.a,so,by omega,?_⟩
   walk_at "g"
   refine ⟨m.b,t,n,rfl,mo.b,so,by omega,?_⟩
   walk_at "g"
   refine ⟨m.c,t,n,rfl,mo.c,so,by omega,?_⟩
   walk_at "g"
   refine ⟨m.e,t,n,rfl,mo.e,so,by omega,?_⟩
   walk_at "g"
   walk_at "sp"
   · rename_i h
     exact h0 h
   · rename_i h
     have hw:0<(app m t).w:=by have h':¬ DC m.e t<=0:=h;show 0<DC m.e t;omega
     walk_at "g"
     refine ⟨[DC m.a t,DC m.b t,DC m.c t],DC m.e t,n+n+3,rfl,?_,ao.w,by omega,Nat.le_of_ble_eq_true rfl,?_⟩
     · have h':0<DC m.e t:=hw
       omega
     · exact h1 hw
abbrev GG:Stmt:=top 5
theorem RS:FnScope ["thing"] ["thing"] (J4 GG):=⟨rfl,rfl,rfl,by decide +kernel,rfl,by decide +kernel,by decide +kernel⟩
def whD:D->Bool
 | .int _=>true
 | _=>false
def QK:DSp:=fun ds P _=>∃ d,ds=[d]/\(UL d).isSome=true/\GN d=true/\P (.bl (whD d))
theorem SF {f:Addr} (F:Fun K "is_whole" "is_whole" GG f fd) (Z:Bi mg) {c:Cs} (Y:Ex K mg base c):FnOk P w K mg base CX0 1 f fd ["thing"] (J7 K BT QK):=by
 refine F.okD RS (fun ds PP Ed h=>?_) (fun cdv A outer s H E M bg ds PP Ed hr hS_=>?_)
 · obtain ⟨d,rfl,hd,hno,hP⟩:=h
   rfl
 · obtain ⟨d,rfl,hd,hno,hP⟩:=hS_
   refine ⟨_,(J8 (Q8 (JH (Z9 (HG K (by rfl)) NT rfl Z.isinstance_ FY (J0 (jdv 0) (J0 (TD rfl Z.int_ Q4g) J1))) (PL (J7s (Z9 (HG K (by rfl)) NT rfl Z.isinstance_ FY (J0 (jdv 0) (J0 (TD rfl Z.bool_ J9a) J1)))))))),?_⟩
   cases d<;>(try (simp [UL] at hd;done))<;>(try (simp [GN] at hno;done))
   all_goals first
    | (walk_at "g";refine ⟨false,by rfl,?_⟩;walk_at "g";exact hP)
    | (walk_at "g";refine ⟨true,by rfl,?_⟩;walk_at "g";refine ⟨true,by rfl,?_⟩;walk_at "g";exact hP)
    | (walk_at "g";refine ⟨true,by rfl,?_⟩;walk_at "g";refine ⟨false,by rfl,?_⟩;walk_at "g";exact hP)
theorem sb {r:R4}{m n:Nat}{a b c e:Int}(h:r.ok m)(ha:Bd n a)(hb:Bd n b)(hc:Bd n c)(he:Bd n e):Bd (m+n+3) [r.x*a,r.y*b,r.z*c,r.w*e].sum:=by
 have:=CN (s:=⟨a,b,c,e⟩) h ⟨ha,hb,hc,he⟩
 unfold DC at this
 simp only [List.sum_cons,List.sum_nil]
 have e':r.x*a+(r.y*b+(r.z*c+(r.w*e+0)))=r.x*a+r.y*b+r.z*c+r.w*e:=by omega
 rw [e']
 exact this
theorem b1 {n:Nat}(h:3<=n):Bd n 1:=(Bd.of (by decide) (by decide):Bd 3 1).mono h
theorem b0 {n:Nat}(h:3<=n):Bd n 0:=(Bd.of (by decide) (by decide):Bd 3 0).mono h
theorem bm {n:Nat}(h:3<=n):Bd n (-1):=(Bd.of (by decide) (by decide):Bd 3 (-1)).mono h
def cx (b:M4):R4:=⟨b.a.x,b.b.x,b.c.x,b.e.x⟩
def cy (b:M4):R4:=⟨b.a.y,b.b.y,b.c.y,b.e.y⟩
def cz (b:M4):R4:=⟨b.a.z,b.b.z,b.c.z,b.e.z⟩
def cw (b:M4):R4:=⟨b.a.w,b.b.w,b.c.w,b.e.w⟩
def YL (r:R4)(b:M4):R4:=⟨DC r (cx b),DC r (cy b),DC r (cz b),DC r (cw b)⟩
def J2z (a b:M4):M4:=⟨YL a.a b,YL a.b b,YL a.c b,YL a.e b⟩
theorem XL {b:M4}{n:Nat}(h:b.ok n):(cx b).ok n/\(cy b).ok n/\(cz b).ok n/\(cw b).ok n:=⟨⟨h.a.x,h.b.x,h.c.x,h.e.x⟩,⟨h.a.y,h.b.y,h.c.y,h.e.y⟩,⟨h.a.z,h.b.z,h.c.z,h.e.z⟩,⟨h.a.w,h.b.w,h.c.w,h.e.w⟩⟩
theorem IY {r:R4}{b:M4}{m n:Nat}(h:r.ok m)(k:b.ok n):(YL r b).ok (m+n+3):=by
 obtain ⟨c1,c2,c3,c4⟩:=XL k
 exact ⟨CN h c1,CN h c2,CN h c3,CN h c4⟩
theorem J7j {a b:M4}{m n:Nat}(h:a.ok m)(k:b.ok n):(J2z a b).ok (m+n+3):=⟨IY h.a k,IY h.b k,IY h.c k,IY h.e k⟩
def idM:M4:=⟨⟨1,0,0,0⟩,⟨0,1,0,0⟩,⟨0,0,1,0⟩,⟨0,0,0,1⟩⟩
abbrev OP:Stmt:=top 34
theorem J1f:FnScope [] [] (J4 OP):=⟨rfl,rfl,rfl,by decide +kernel,rfl,by decide +kernel,by decide +kernel⟩
def XS:DSp:=fun ds P _=>ds=[]/\P idM.d
theorem J2l {f:Addr} (F:Fun K "still" "still" OP f fd) (Z:Bi mg) {c:Cs} (Y:Ex K mg base c):FnOk P w K mg base CX0 1 f fd [] (J7 K BT XS):=by
 refine F.okD J1f (fun ds PP Ed h=>?_) (fun cdv A outer s H E M bg ds PP Ed hr hS_=>?_)
 · obtain ⟨rfl,hP⟩:=h
   rfl
 · obtain ⟨rfl,hP⟩:=hS_
   refine ⟨_,(J8 (Q8 (HW rfl Y.d_STILL))),?_⟩
   walk_at "g"
   exact hP
abbrev IX:Stmt:=top 39
theorem RT:FnScope ["one","other","places"] xl5 (J4 IX):=⟨rfl,rfl,rfl,by decide +kernel,rfl,by decide +kernel,by decide +kernel⟩
def XZ:DSp:=fun ds P _=>∃ (a b:M4) (n:Nat),ds=[a.d,b.d]/\a.ok n/\b.ok n/\n<=1000/\P (J2z a b).d
structure C_after (P:Program)(w:World)(K:Fg)(mg:Str->Option Value)(base:Heap)(c:Cs):Prop where
 products_added_:Callee P w K mg base CX0 "products_added" 1 xl5 (J7 K BT QL)
abbrev xc4 (P:Program) (w:World) (K:Fg) (mg:Str → Option Value) (base:Heap) (f:Addr) (cdv:Value) (A:Around) (outer:List Env) (s:Shared) (H:Hp) (E:XK):Cx:=AJ CX0 P w K mg base ["one","other","places"] "after" (J4 IX) f cdv A outer s H E
abbrev xl9:List Str:=["place","other"]
abbrev QS:List Str:=["row","places"]
theorem J2p {f:Addr} (F:Fun K "after" "after" IX f fd) (Z:Bi mg) {c:Cs} (Y:Ex K mg base c) (G:C_after P w K mg base c):FnOk P w K mg base CX0 2 f fd xl5 (J7 K BT XZ):=by
 refine F.okD RT (fun ds PP Ed h=>?_) (fun cdv A outer s H E M bg ds PP Ed hr hS_=>?_)
 · obtain ⟨a,b,n,rfl,ao,bo,hn,hP⟩:=h
   rfl
 · obtain ⟨a,b,n,rfl,ao,bo,hn,hP⟩:=hS_
   refine ⟨_,(J5 (V2 (i:=2) RT.nd rfl (by walk_at "o") (AI (X:=(xc4 P w K mg base f cdv A outer s H E).nox) (V3 0) (GQ (X:=(xc4 P w K mg base f cdv A outer s H E).nox) (N':=xl9) (map:=[none,some 1]) (by rfl) (by rfl) (by decide +kernel) (by rfl) ⟨⟨rfl,rfl,rfl,by walk_at "o"⟩,True.intro⟩ (gkeep_name rfl) fun cl0 C0 fp0 s0 H0=>⟨(pg_name (X:=(J9 (xc4 P w K mg base f cdv A outer s H E).nox xl9 _ cl0 C0 fp0 s0 H0)) (i:=0) (Y2 xl9 (by decide +kernel)) rfl (by walk_at "o")),Y6,(AB (X:=(J9 (xc4 P w K mg base f cdv A outer s H E).nox xl9 _ cl0 C0 fp0 s0 H0)) (Y3 K (by rfl)) BS rfl Z.tuple_ BU (J0 (AI (X:=(J9 (xc4 P w K mg base f cdv A outer s H E).nox xl9 _ cl0 C0 fp0 s0 H0)) (V3 0) (GQ (X:=(J9 (xc4 P w K mg base f cdv A outer s H E).nox xl9 _ cl0 C0 fp0 s0 H0)) (N':=["row","place"]) (map:=[none,some 0]) (by rfl) (by rfl) (by decide +kernel) (by rfl) ⟨⟨rfl,rfl,rfl,by walk_at "o"⟩,True.intro⟩ (gkeep_name rfl) fun cl1 C1 fp1 s1 H1=>⟨(pg_name (X:=(J9 (J9 (xc4 P w K mg base f cdv A outer s H E).nox xl9 _ cl0 C0 fp0 s0 H0) ["row","place"] _ cl1 C1 fp1 s1 H1)) (i:=0) (Y2 ["row","place"] (by decide +kernel)) rfl (by walk_at "o")),Y6,(Q7 (X:=(J9 (J9 (xc4 P w K mg base f cdv A outer s H E).nox xl9 _ cl0 C0 fp0 s0 H0) ["row","place"] _ cl1 C1 fp1 s1 H1)) (Q9 K (by rfl)) V4 (jdv 0) (jdv 1) (fun _ _=>rfl))⟩) (Z2 (by rfl) (jdv 1))) J1))⟩) (AZ rfl Z.range_ (J0 J3 J1))))
    (J8 (Q8 (AB (Y3 K (by rfl)) BS rfl Z.tuple_ BU (J0 (AI (X:=(xc4 P w K mg base f cdv A outer s H E).nox) (V3 0) (GQ (X:=(xc4 P w K mg base f cdv A outer s H E).nox) (N':=QS) (map:=[none,some 2]) (by rfl) (by rfl) (by decide +kernel) (by rfl) ⟨⟨rfl,rfl,rfl,by walk_at "o"⟩,True.intro⟩ (gkeep_name rfl) fun cl0 C0 fp0 s0 H0=>⟨(pg_name (X:=(J9 (xc4 P w K mg base f cdv A outer s H E).nox QS _ cl0 C0 fp0 s0 H0)) (i:=0) (Y2 QS (by decide +kernel)) rfl (by walk_at "o")),Y6,(AB (X:=(J9 (xc4 P w K mg base f cdv A outer s H E).nox QS _ cl0 C0 fp0 s0 H0)) (Y3 K (by rfl)) BS rfl Z.tuple_ BU (J0 (AI (X:=(J9 (xc4 P w K mg base f cdv A outer s H E).nox QS _ cl0 C0 fp0 s0 H0)) (V3 0) (GQ (X:=(J9 (xc4 P w K mg base f cdv A outer s H E).nox QS _ cl0 C0 fp0 s0 H0)) (N':=["place","row"]) (map:=[none,some 0]) (by rfl) (by rfl) (by decide +kernel) (by rfl) ⟨⟨rfl,rfl,rfl,by walk_at "o"⟩,True.intro⟩ (gkeep_name rfl) fun cl1 C1 fp1 s1 H1=>⟨(pg_name (X:=(J9 (J9 (xc4 P w K mg base f cdv A outer s H E).nox QS _ cl0 C0 fp0 s0 H0) ["place","row"] _ cl1 C1 fp1 s1 H1)) (i:=0) (Y2 ["place","row"] (by decide +kernel)) rfl (by walk_at "o")),Y6,(Q0 (X:=(J9 (J9 (xc4 P w K mg base f cdv A outer s H E).nox QS _ cl0 C0 fp0 s0 H0) ["place","row"] _ cl1 C1 fp1 s1 H1)) G.products_added_ hr.m rfl (J0 (jdv 1) (J0 (jdv 0) J1)))⟩) (Z2 (by rfl) (jdv 1))) J1))⟩) (Z2 (by rfl) (jdv 0))) J1))))),?_⟩
   obtain ⟨c1,c2,c3,c4⟩:=XL bo
   walk_at "g"
   repeat (walk_at "gc")
   refine ⟨a.a,cx b,n,rfl,ao.a,c1,by omega,?_⟩
   walk_at "g"
   refine ⟨a.a,cy b,n,rfl,ao.a,c2,by omega,?_⟩
   walk_at "g"
   refine ⟨a.a,cz b,n,rfl,ao.a,c3,by omega,?_⟩
   walk_at "g"
   refine ⟨a.a,cw b,n,rfl,ao.a,c4,by omega,?_⟩
   walk_at "g"
   repeat (walk_at "gc")
   refine ⟨a.b,cx b,n,rfl,ao.b,c1,by omega,?_⟩
   walk_at "g"
   refine ⟨a.b,cy b,n,rfl,ao.b,c2,by omega,?_⟩
   walk_at "g"
   refine ⟨a.b,cz b,n,rfl,ao.b,c3,by omega,?_⟩
   walk_at "g"
   refine ⟨a.b,cw b,n,rfl,ao.b,c4,by omega,?_⟩
   walk_at "g"
   repeat (walk_at "gc")
   refine ⟨a.c,cx b,n,rfl,ao.c,c1,by omega,?_⟩
   walk_at "g"
   refine ⟨a.c,cy b,n,rfl,ao.c,c2,by omega,?_⟩
   walk_at "g"
   refine ⟨a.c,cz b,n,rfl,ao.c,c3,by omega,?_⟩
   walk_at "g"
   refine ⟨a.c,cw b,n,rfl,ao.c,c4,by omega,?_⟩
   walk_at "g"
   repeat (walk_at "gc")
   refine ⟨a.e,cx b,n,rfl,ao.e,c1,by omega,?_⟩
   walk_at "g"
   refine ⟨a.e,cy b,n,rfl,ao.e,c2,by omega,?_⟩
   walk_at "g"
   refine ⟨a.e,cz b,n,rfl,ao.e,c3,by omega,?_⟩
   walk_at "g"
   refine ⟨a.e,cw b,n,rfl,ao.e,c4,by omega,?_⟩
   walk_at "g"
   exact hP
abbrev DI:Stmt:=top 32
theorem OM:FnScope ["changes"] ["changes"] (J4 DI):=⟨rfl,rfl,rfl,by decide +kernel,rfl,by decide +kernel,by decide +kernel⟩
def LF:List (List Int)->List Int->List Int->Option Int
 | k::ks,x::xs,n=>if k=n then some x else LF ks xs n
 | _,_,_=>none
theorem TJ:∀ (ks:List (List Int)) (ns:List Int) (k:List Int) (z:Int),(Y8 ks (ns.map D.int) k).getD (.int z)=.int ((LF ks ns k).getD z)
 | [],ns,k,z=>by simp [Y8,LF]
 | _::_,[],k,z=>by simp [Y8,LF]
 | k'::ks,n::ns,k,z=>by
   rw [List.map_cons]
   unfold Y8 LF
   split
   · rfl
   · exact TJ ks ns k z
def cellI (ks:List (List Int))(ns:List Int)(r c z:Int):Int:=(LF ks ns [r,c]).getD z
def sbM (ks:List (List Int))(ns:List Int):M4:=⟨⟨cellI ks ns 0 0 1,cellI ks ns 0 1 0,cellI ks ns 0 2 0,cellI ks ns 0 3 0⟩,⟨cellI ks ns 1 0 0,cellI ks ns 1 1 1,cellI ks ns 1 2 0,cellI ks ns 1 3 0⟩,⟨cellI ks ns 2 0 0,cellI ks ns 2 1 0,cellI ks ns 2 2 1,cellI ks ns 2 3 0⟩,⟨cellI ks ns 3 0 0,cellI ks ns 3 1 0,cellI ks ns 3 2 0,cellI ks ns 3 3 1⟩⟩
def LO:DSp:=fun ds P _=>∃ (t:Tg) (ks:List (List Int)) (ns:List Int),ds=[.dct t ks (ns.map D.int)]/\P (sbM ks ns).d
abbrev xc5 (P:Program) (w:World) (K:Fg) (mg:Str → Option Value) (base:Heap) (f:Addr) (cdv:Value) (A:Around) (outer:List Env) (s:Shared) (H:Hp) (E:XK):Cx:=AJ CX0 P w K mg base ["changes"] "still_but" (J4 DI) f cdv A outer s H E
abbrev QR:List Str:=["row","changes"]
abbrev J5r:List Str:=["place","changes","row"]
theorem OZ {f:Addr} (F:Fun K "still_but" "still_but" DI f fd) (Z:Bi mg) {c:Cs} (Y:Ex K mg base c):FnOk P w K mg base CX0 1 f fd ["changes"] (J7 K BT LO):=by
 refine F.okD OM (fun ds PP Ed h=>?_) (fun cdv A outer s H E M bg ds PP Ed hr hS_=>?_)
 · obtain ⟨tg,ks,ns,rfl,hP⟩:=h
   rfl
 · obtain ⟨tg,ks,ns,rfl,hP⟩:=hS_
   refine ⟨_,(J8 (Q8 (AB (Y3 K (by rfl)) BS rfl Z.tuple_ BU (J0 (AI (X:=(xc5 P w K mg base f cdv A outer s H E).nox) (V3 0) (GQ (X:=(xc5 P w K mg base f cdv A outer s H E).nox) (N':=QR) (map:=[none,some 0]) (by rfl) (by rfl) (by decide +kernel) (by rfl) ⟨⟨rfl,rfl,rfl,by walk_at "o"⟩,True.intro⟩ (gkeep_name rfl) fun cl0 C0 fp0 s0 H0=>⟨(pg_name (X:=(J9 (xc5 P w K mg base f cdv A outer s H E).nox QR _ cl0 C0 fp0 s0 H0)) (i:=0) (Y2 QR (by decide +kernel)) rfl (by walk_at "o")),Y6,(AB (X:=(J9 (xc5 P w K mg base f cdv A outer s H E).nox QR _ cl0 C0 fp0 s0 H0)) (Y3 K (by rfl)) BS rfl Z.tuple_ BU (J0 (AI (X:=(J9 (xc5 P w K mg base f cdv A outer s H E).nox QR _ cl0 C0 fp0 s0 H0)) (V3 0) (GQ (X:=(J9 (xc5 P w K mg base f cdv A outer s H E).nox QR _ cl0 C0 fp0 s0 H0)) (N':=J5r) (map:=[none,some 1,some 0]) (by rfl) (by rfl) (by decide +kernel) (by rfl) ⟨⟨rfl,rfl,rfl,by walk_at "o"⟩,⟨⟨rfl,rfl,rfl,by walk_at "o"⟩,True.intro⟩⟩ (gkeep_name rfl) fun cl1 C1 fp1 s1 H1=>⟨(pg_name (X:=(J9 (J9 (xc5 P w K mg base f cdv A outer s H E).nox QR _ cl0 C0 fp0 s0 H0) J5r _ cl1 C1 fp1 s1 H1)) (i:=0) (Y2 J5r (by decide +kernel)) rfl (by walk_at "o")),Y6,(J3r (X:=(J9 (J9 (xc5 P w K mg base f cdv A outer s H E).nox QR _ cl0 C0 fp0 s0 H0) J5r _ cl1 C1 fp1 s1 H1)) (i:=1) (by rfl) hr.units (J0 (jdv 2) (J0 (jdv 0) J1)) (Q7 (Q9 K (by rfl)) V4 (Q7 (Q9 K (by rfl)) V4 (HW rfl Y.d_STILL) (jdv 2) (fun _ _=>rfl)) (jdv 0) (fun _ _=>rfl)) rfl (by walk_at "v") ⟨rfl,rfl,rfl,rfl⟩)⟩) (AZ rfl Z.range_ (J0 J3 J1))) J1))⟩) (AZ rfl Z.range_ (J0 J3 J1))) J1)))),?_⟩
   unfold sbM cellI at hP
   walk_at "g"
   repeat (first|(rw [TJ];walk_at "g")|walk_at "gc")
   exact hP
abbrev OR:Stmt:=top 35
theorem J1h:FnScope xl6 xl6 (J4 OR):=⟨rfl,rfl,rfl,by decide +kernel,rfl,by decide +kernel,by decide +kernel⟩
def J0z (a b c:Int):M4:=⟨⟨1,0,0,a⟩,⟨0,1,0,b⟩,⟨0,0,1,c⟩,⟨0,0,0,1⟩⟩
def XV:DSp:=fun ds P _=>∃ a b c:Int,ds=[.int a,.int b,.int c]/\P (J0z a b c).d
structure C_shift (P:Program)(w:World)(K:Fg)(mg:Str->Option Value)(base:Heap)(c:Cs):Prop where
 still_but_:Callee P w K mg base CX0 "still_but" 1 ["changes"] (J7 K BT LO)
theorem J2n {f:Addr} (F:Fun K "shift" "shift" OR f fd) (Z:Bi mg) {c:Cs} (Y:Ex K mg base c) (G:C_shift P w K mg base c):FnOk P w K mg base CX0 2 f fd xl6 (J7 K BT XV):=by
 refine F.okD J1h (fun ds PP Ed h=>?_) (fun cdv A outer s H E M bg ds PP Ed hr hS_=>?_)
 · obtain ⟨a,b,c,rfl,hP⟩:=h
   rfl
 · obtain ⟨a,b,c,rfl,hP⟩:=hS_
   refine ⟨_,(J8 (Q8 (Q0 G.still_but_ hr.m rfl (J0 (HC [(_,_),(_,_),(_,_)] (by rfl) hr.units (AH (BM (JA.h (J0 J3 (J0 J3 J1)))) (JE.h (jdv 0)) (AH (BM (JA.h (J0 J3 (J0 J3 J1)))) (JE.h (jdv 1)) (AH (BM (JA.h (J0 J3 (J0 J3 J1)))) (JE.h (jdv 2)) JB)))) J1)))),?_⟩
   walk_at "g"
   exact ⟨⟨by show ([[0,3],[1,3],[2,3]]:List (List Int)).Nodup;decide,by show 3<=15;decide⟩,fun tg=>⟨rfl,tg,[[0,3],[1,3],[2,3]],[a,b,c],rfl,hP⟩⟩
abbrev HK:Stmt:=top 38
theorem JX:FnScope ["a","b","c","number"] xl6 (J4 HK):=⟨rfl,rfl,rfl,by decide +kernel,rfl,by decide +kernel,by decide +kernel⟩
def RA (a b c:Int):M4:=⟨⟨a,0,0,0⟩,⟨0,b,0,0⟩,⟨0,0,c,0⟩,⟨0,0,0,1⟩⟩
def OA:DSp:=fun ds P _=>∃ a b c:Int,ds=[.int a,.int b,.int c]/\a≠0/\b≠0/\c≠0/\P (RA a b c).d
structure C_stretch (P:Program)(w:World)(K:Fg)(mg:Str->Option Value)(base:Heap)(c:Cs):Prop where
 still_but_:Callee P w K mg base CX0 "still_but" 1 ["changes"] (J7 K BT LO)
 is_whole_:Callee P w K mg base CX0 "is_whole" 1 ["thing"] (J7 K BT QK)
theorem UZ {f:Addr} (F:Fun K "stretch" "stretch" HK f fd) (Z:Bi mg) {c:Cs} (Y:Ex K mg base c) (G:C_stretch P w K mg base c):FnOk P w K mg base (CX1 P w base) 2 f fd xl6 (J7 K BT OA):=by
 refine F.okDX JX (fun ds PP Ed h=>?_) (fun cdv A outer s H E M bg ds PP Ed hr hE hS_=>?_)
 · obtain ⟨a,b,c,rfl,ha,hb,hc,hP⟩:=h
   rfl
 · obtain ⟨a,b,c,rfl,ha,hb,hc,hP⟩:=hS_
   refine ⟨_,(J5 (DK (V3 3) PassesOwn.leaving rfl (Z2 (by rfl) (V1 (J0 (jdv 0) (J0 (jdv 1) (J0 (jdv 2) J1))))) (pg_name (i:=3) JX.nd rfl (by walk_at "o")) (J8 (AY (PK (JG (DZ (by rfl) (Q0 G.is_whole_ hr.m rfl (J0 (jdv 3) J1)) (fun _=>rfl))) (JD (Z1 GX EJ (jdv 3) J3 (Y0 _)))) (J8 (FQ hE (FN Y.o_NoMove rfl))) AD)) ZN)
    (J8 (Q8 (Q0 G.still_but_ hr.m rfl (J0 (HC [(_,_),(_,_),(_,_)] (by rfl) hr.units (AH (BM (JA.h (J0 J3 (J0 J3 J1)))) (JE.h (jdv 0)) (AH (BM (JA.h (J0 J3 (J0 J3 J1)))) (JE.h (jdv 1)) (AH (BM (JA.h (J0 J3 (J0 J3 J1)))) (JE.h (jdv 2)) JB)))) J1))))),?_⟩
   walk_at "g"
   refine ⟨fun i ρ=>∃ v,ρ=[some (.int a),some (.int b),some (.int c),v],⟨_,rfl⟩,?_,?_⟩
   · rintro i x ρ e ⟨v,rfl⟩
     obtain ⟨n,rfl,hn⟩:∃ n:Int,x=.int n/\n≠0:=by
      have:=List.mem_of_getElem? e
      simp only [List.mem_cons,List.not_mem_nil,or_false] at this
      rcases this with e|e|e<;>exact ⟨_,e,by assumption⟩
     walk_at "g"
     refine ⟨_,rfl,rfl,rfl,?_⟩
     walk_at "g"
     refine IfP.f (by simp [hn]) ?_
     walk_at "g"
     exact ⟨_,rfl⟩
   · rintro ρ ⟨v,rfl⟩
     walk_at "g"
     exact ⟨⟨by show ([[0,0],[1,1],[2,2]]:List (List Int)).Nodup;decide,by show 3<=15;decide⟩,fun tg=>⟨rfl,tg,[[0,0],[1,1],[2,2]],[a,b,c],rfl,hP⟩⟩
abbrev BW:Stmt:=top 33
theorem HJ:FnScope ["thing"] ["thing"] (J4 BW):=⟨rfl,rfl,rfl,by decide +kernel,rfl,by decide +kernel,by decide +kernel⟩
def IG:DSp:=fun ds P _=>∃ n:Int,ds=[.int n]/\0<=n/\n<=2/\P (.bl true)
structure C_is_coordinate (P:Program)(w:World)(K:Fg)(mg:Str->Option Value)(base:Heap)(c:Cs):Prop where
 is_whole_:Callee P w K mg base CX0 "is_whole" 1 ["thing"] (J7 K BT QK)
theorem HS {f:Addr} (F:Fun K "is_coordinate" "is_coordinate" BW f fd) (Z:Bi mg) {c:Cs} (Y:Ex K mg base c) (G:C_is_coordinate P w K mg base c):FnOk P w K mg base CX0 2 f fd ["thing"] (J7 K BT IG):=by
 refine F.okD HJ (fun ds PP Ed h=>?_) (fun cdv A outer s H E M bg ds PP Ed hr hS_=>?_)
 · obtain ⟨n,rfl,h0,h2,hP⟩:=h
   rfl
 · obtain ⟨n,rfl,h0,h2,hP⟩:=hS_
   refine ⟨_,(J8 (Q8 (JH (Q0 G.is_whole_ hr.m rfl (J0 (jdv 0) J1)) (PL (ZH J2g J2g KN KN J3 (jdv 0) J3))))),?_⟩
   walk_at "g"
   refine ⟨_,rfl,rfl,rfl,?_⟩
   walk_at "g"
   refine IfP.t (by simp [h0]) ?_
   walk_at "g"
   have:(decide (n<=2))=true:=by simp [h2]
   show PP (.bl (decide (n<=2)))
   rw [this]
   exact hP
abbrev HL:Stmt:=top 36
theorem CP:FnScope ["axis","u","v"] ["axis"] (J4 HL):=⟨rfl,rfl,rfl,by decide +kernel,rfl,by decide +kernel,by decide +kernel⟩
def KE (k:Int):M4:=if k=0 then ⟨⟨1,0,0,0⟩,⟨0,0,-1,0⟩,⟨0,1,0,0⟩,⟨0,0,0,1⟩⟩ else if k=1 then ⟨⟨0,0,1,0⟩,⟨0,1,0,0⟩,⟨-1,0,0,0⟩,⟨0,0,0,1⟩⟩ else ⟨⟨0,-1,0,0⟩,⟨1,0,0,0⟩,⟨0,0,1,0⟩,⟨0,0,0,1⟩⟩
def OB:DSp:=fun ds P _=>∃ k:Int,ds=[.int k]/\0<=k/\k<=2/\P (KE k).d
structure C_quarter (P:Program)(w:World)(K:Fg)(mg:Str->Option Value)(base:Heap)(c:Cs):Prop where
 still_but_:Callee P w K mg base CX0 "still_but" 1 ["changes"] (J7 K BT LO)
 is_coordinate_:Callee P w K mg base CX0 "is_coordinate" 2 ["thing"] (J7 K BT IG)
theorem VA {f:Addr} (F:Fun K "quarter" "quarter" HL f fd) (Z:Bi mg) {c:Cs} (Y:Ex K mg base c) (G:C_quarter P w K mg base c):FnOk P w K mg base (CX1 P w base) 3 f fd ["axis"] (J7 K BT OB):=by
 refine F.okDX CP (fun ds PP Ed h=>?_) (fun cdv A outer s H E M bg ds PP Ed hr hE hS_=>?_)
 · obtain ⟨k,rfl,h0,h2,hP⟩:=h
   rfl
 · obtain ⟨k,rfl,h0,h2,hP⟩:=hS_
   refine ⟨_,(J5 (AY (JG (DZ (by rfl) (Q0 G.is_coordinate_ hr.m rfl (J0 (jdv 0) J1)) (fun _=>rfl))) (J8 (FQ hE (FN Y.o_NoMove rfl))) AD)
    (J5 (CM (CC [1,2]) (Q7 (Q9 K (by rfl)) V4 (HW rfl Y.d_OTHERS) (jdv 0) (fun _ _=>rfl)) (PG.or (AV (n:=2) K (by rfl) (by rfl) (J6 (pg_name (i:=1) CP.nd rfl (by walk_at "o")) (J6 (pg_name (i:=2) CP.nd rfl (by walk_at "o")) V6))) (AW (n:=2) K (by rfl) (by rfl) (J6 (pg_name (i:=1) CP.nd rfl (by walk_at "o")) (J6 (pg_name (i:=2) CP.nd rfl (by walk_at "o")) V6)))))
    (J8 (Q8 (Q0 G.still_but_ hr.m rfl (J0 (HC [(_,_),(_,_),(_,_),(_,_)] (by rfl) hr.units (AH (BM (JA.h (J0 (jdv 1) (J0 (jdv 1) J1)))) (JE.h J3) (AH (BM (JA.h (J0 (jdv 1) (J0 (jdv 2) J1)))) (JE.h (EL J3)) (AH (BM (JA.h (J0 (jdv 2) (J0 (jdv 1) J1)))) (JE.h J3) (AH (BM (JA.h (J0 (jdv 2) (J0 (jdv 2) J1)))) (JE.h J3) JB))))) J1)))))),?_⟩
   obtain rfl|rfl|rfl:k=0\/k=1\/k=2:=by omega
   · walk_at "g"
     refine ⟨_,rfl,by decide,by decide,?_⟩
     walk_at "g"
     intro tg
     exact ⟨rfl,tg,[[1,1],[1,2],[2,1],[2,2]],[0,-1,1,0],rfl,hP⟩
   · walk_at "g"
     refine ⟨_,rfl,by decide,by decide,?_⟩
     walk_at "g"
     intro tg
     exact ⟨rfl,tg,[[2,2],[2,0],[0,2],[0,0]],[0,-1,1,0],rfl,hP⟩
   · walk_at "g"
     refine ⟨_,rfl,by decide,by decide,?_⟩
     walk_at "g"
     intro tg
     exact ⟨rfl,tg,[[0,0],[0,1],[1,0],[1,1]],[0,-1,1,0],rfl,hP⟩
abbrev OQ:Stmt:=top 37
theorem J1g:FnScope ["i","j","m"] ["i","j","m"] (J4 OQ):=⟨rfl,rfl,rfl,by decide +kernel,rfl,by decide +kernel,by decide +kernel⟩
def XT:DSp:=fun ds P _=>∃ i j m:Int,ds=[.int i,.int j,.int m]/\(0<=i/\i<=2)/\(0<=j/\j<=2)/\i≠j/\P (sbM [[i,j]] [m]).d
structure C_slant (P:Program)(w:World)(K:Fg)(mg:Str->Option Value)(base:Heap)(c:Cs):Prop where
 still_but_:Callee P w K mg base CX0 "still_but" 1 ["changes"] (J7 K BT LO)
 is_coordinate_:Callee P w K mg base CX0 "is_coordinate" 2 ["thing"] (J7 K BT IG)
theorem J2m {f:Addr} (F:Fun K "slant" "slant" OQ f fd) (Z:Bi mg) {c:Cs} (Y:Ex K mg base c) (G:C_slant P w K mg base c):FnOk P w K mg base (CX1 P w base) 3 f fd ["i","j","m"] (J7 K BT XT):=by
 refine F.okDX J1g (fun ds PP Ed h=>?_) (fun cdv A outer s H E M bg ds PP Ed hr hE hS_=>?_)
 · obtain ⟨i,j,m,rfl,⟨i0,i1⟩,⟨j0,j1⟩,hij,hP⟩:=h
   rfl
 · obtain ⟨i,j,m,rfl,⟨i0,i1⟩,⟨j0,j1⟩,hij,hP⟩:=hS_
   refine ⟨_,(J5 (AY (PK (JG (DZ (by rfl) (Q0 G.is_coordinate_ hr.m rfl (J0 (jdv 0) J1)) (fun _=>rfl))) (Q2g (JG (DZ (by rfl) (Q0 G.is_coordinate_ hr.m rfl (J0 (jdv 1) J1)) (fun _=>rfl))) (JD (Z1 GX EJ (jdv 0) (jdv 1) (Y0 _))))) (J8 (FQ hE (FN Y.o_NoMove rfl))) AD)
    (J8 (Q8 (Q0 G.still_but_ hr.m rfl (J0 (HC [(_,_)] (by rfl) hr.units (AH (BM (JA.h (J0 (jdv 0) (J0 (jdv 1) J1)))) (JE.h (jdv 2)) JB)) J1))))),?_⟩
   walk_at "g"
   refine ⟨_,rfl,i0,i1,?_⟩
   walk_at "g"
   refine ⟨_,rfl,j0,j1,?_⟩
   walk_at "g"
   refine IfP.f (by simp [hij]) ?_
   walk_at "g"
   exact ⟨⟨by show ([[i,j]]:List (List Int)).Nodup;simp,by show 1<=15;decide⟩,fun tg=>⟨rfl,tg,[[i,j]],[m],rfl,hP⟩⟩
abbrev KB:Stmt:=top 14
theorem YJ:FnScope ["a","b"] ["a","b"] (J4 KB):=⟨rfl,rfl,rfl,by decide +kernel,rfl,by decide +kernel,by decide +kernel⟩
def UI:DSp:=fun ds P _=>∃ (ax ay az aw bx b_y bz bw:Int),ds=[sp4 ax ay az aw,sp4 bx b_y bz bw]/\(Bd 2000 ay/\Bd 2000 aw)/\(Bd 2000 b_y/\Bd 2000 bw)/\P (.int (ay*bw - aw*b_y))
theorem YS {f:Addr} (F:Fun K "growth" "growth" KB f fd) (Z:Bi mg) {c:Cs} (Y:Ex K mg base c):FnOk P w K mg base CX0 1 f fd ["a","b"] (J7 K BT UI):=by
 refine F.okD YJ (fun ds PP Ed h=>?_) (fun cdv A outer s H E M bg ds PP Ed hr hS_=>?_)
 · obtain ⟨ax,ay,az,aw,bx,b_y,bz,bw,rfl,⟨h1,h2⟩,⟨h3,h4⟩,hP⟩:=h
   rfl
 · obtain ⟨ax,ay,az,aw,bx,b_y,bz,bw,rfl,⟨h1,h2⟩,⟨h3,h4⟩,hP⟩:=hS_
   refine ⟨_,(J8 (Q8 (V0 AQ AT (V0 Y7 FW (Q7 (Q9 K (by rfl)) V4 (jdv 0) J3 (fun _ _=>rfl)) (Q7 (Q9 K (by rfl)) V4 (jdv 1) J3 (fun _ _=>rfl))) (V0 Y7 FW (Q7 (Q9 K (by rfl)) V4 (jdv 0) J3 (fun _ _=>rfl)) (Q7 (Q9 K (by rfl)) V4 (jdv 1) J3 (fun _ _=>rfl)))))),?_⟩
   walk_at "g"
   exact hP
abbrev CS:Stmt:=top 15
theorem AU:FnScope ["a","b","dot","number"] xl7 (J4 CS):=⟨rfl,rfl,rfl,by decide +kernel,rfl,by decide +kernel,by decide +kernel⟩
def shd (ax ay aw bx b_y bw px py:Int):Int:=if det ax ay aw bx b_y bw px py 1=0 then (if ay*bw - aw*b_y=0 then aw*bx - ax*bw else ay*bw - aw*b_y) else det ax ay aw bx b_y bw px py 1
def J9y:DSp:=fun ds P _=>∃ (ax ay az aw bx b_y bz bw px py:Int),ds=[sp4 ax ay az aw,sp4 bx b_y bz bw,t2 px py]/\(Bd 2000 ax/\Bd 2000 ay/\Bd 2000 aw)/\(Bd 2000 bx/\Bd 2000 b_y/\Bd 2000 bw)/\(Bd 2000 px/\Bd 2000 py)/\P (.int (sgn (shd ax ay aw bx b_y bw px py)))
structure C_shifted_side (P:Program)(w:World)(K:Fg)(mg:Str->Option Value)(base:Heap)(c:Cs):Prop where
 side_number_:Callee P w K mg base CX0 "side_number" 2 xl7 (J7 K BT XU)
 sign_:Callee P w K mg base CX0 "sign" 1 ["number"] (J7 K BT J5i)
 growth_:Callee P w K mg base CX0 "growth" 1 ["a","b"] (J7 K BT UI)
theorem IP {f:Addr} (F:Fun K "shifted_side" "shifted_side" CS f fd) (Z:Bi mg) {c:Cs} (Y:Ex K mg base c) (G:C_shifted_side P w K mg base c):FnOk P w K mg base CX0 3 f fd xl7 (J7 K BT J9y):=by
 refine F.okD AU (fun ds PP Ed h=>?_) (fun cdv A outer s H E M bg ds PP Ed hr hS_=>?_)
 · obtain ⟨ax,ay,az,aw,bx,b_y,bz,bw,px,py,rfl,⟨a1,a2,a3⟩,⟨b1,b2,b3⟩,⟨h3,h4⟩,hP⟩:=h
   rfl
 · obtain ⟨ax,ay,az,aw,bx,b_y,bz,bw,px,py,rfl,⟨a1,a2,a3⟩,⟨b1,b2,b3⟩,⟨h3,h4⟩,hP⟩:=hS_
   refine ⟨_,(J5 (V2 (i:=3) AU.nd rfl (by walk_at "o") (Q0 G.side_number_ hr.m rfl (J0 (jdv 0) (J0 (jdv 1) (J0 (jdv 2) J1)))))
    (J5 (AY (Z1 GX EJ (jdv 3) J3 (Y0 _)) (J8 (V2 (i:=3) AU.nd rfl (by walk_at "o") (Q0 G.growth_ hr.m rfl (J0 (jdv 0) (J0 (jdv 1) J1))))) AD)
    (J5 (AY (Z1 GX EJ (jdv 3) J3 (Y0 _)) (J8 (V2 (i:=3) AU.nd rfl (by walk_at "o") (V0 AQ AT (V0 Y7 FW (Q7 (Q9 K (by rfl)) V4 (jdv 0) J3 (fun _ _=>rfl)) (Q7 (Q9 K (by rfl)) V4 (jdv 1) J3 (fun _ _=>rfl))) (V0 Y7 FW (Q7 (Q9 K (by rfl)) V4 (jdv 0) J3 (fun _ _=>rfl)) (Q7 (Q9 K (by rfl)) V4 (jdv 1) J3 (fun _ _=>rfl)))))) AD)
    (J8 (Q8 (Q0 G.sign_ hr.m rfl (J0 (jdv 3) J1))))))),?_⟩
   walk_at "g"
   refine ⟨ax,ay,az,aw,bx,b_y,bz,bw,px,py,rfl,⟨a1,a2,a3⟩,⟨b1,b2,b3⟩,⟨h3,h4⟩,?_⟩
   walk_at "g"
   walk_at "sp"
   · rename_i z
     walk_at "g"
     refine ⟨ax,ay,az,aw,bx,b_y,bz,bw,rfl,⟨a2,a3⟩,⟨b2,b3⟩,?_⟩
     walk_at "g"
     walk_at "sp"
     · rename_i z2
       walk_at "g"
       refine ⟨_,rfl,?_⟩
       have e:shd ax ay aw bx b_y bw px py=aw*bx - ax*bw:=by unfold shd;rw [if_pos z,if_pos z2]
       rw [e] at hP
       exact hP
     · rename_i z2
       walk_at "g"
       refine ⟨_,rfl,?_⟩
       have e:shd ax ay aw bx b_y bw px py=ay*bw - aw*b_y:=by unfold shd;rw [if_pos z,if_neg z2]
       rw [e] at hP
       exact hP
   · rename_i z
     walk_at "g"
     refine IfP.f (by simp [z]) ?_
     walk_at "g"
     refine ⟨_,rfl,?_⟩
     have e:shd ax ay aw bx b_y bw px py=det ax ay aw bx b_y bw px py 1:=by unfold shd;rw [if_neg z]
     rw [e] at hP
     exact hP
abbrev HM:Stmt:=top 17
abbrev UK:List Str:=["face","dot"]
theorem AG:FnScope ["face","dot","a","b","c","first"] UK (J4 HM):=⟨rfl,rfl,rfl,by decide +kernel,rfl,by decide +kernel,by decide +kernel⟩
def T3.s1 (t:T3)(px py:Int):Int:=sgn (shd t.ax t.ay t.aw t.bx t.b_y t.bw px py)
def T3.s2 (t:T3)(px py:Int):Int:=sgn (shd t.bx t.b_y t.bw t.cx t.cy t.cw px py)
def T3.s3 (t:T3)(px py:Int):Int:=sgn (shd t.cx t.cy t.cw t.ax t.ay t.aw px py)
def T3.has (t:T3)(px py:Int):Prop:=t.s1 px py≠0/\t.s2 px py=t.s1 px py/\t.s3 px py=t.s1 px py
instance (t:T3) (px py:Int):Decidable (t.has px py):=inferInstanceAs (Decidable (_/\_/\_))
def UH:DSp:=fun ds P _=>∃ (t:T3) (px py:Int) (n:Nat),ds=[t.d,t2 px py]/\t.ok n/\Bd n px/\Bd n py/\n<=2000/\P (.bl (decide (t.has px py)))
structure C_has_dot (P:Program)(w:World)(K:Fg)(mg:Str->Option Value)(base:Heap)(c:Cs):Prop where
 shifted_side_:Callee P w K mg base CX0 "shifted_side" 3 xl7 (J7 K BT J9y)
theorem VC {f:Addr} (F:Fun K "has_dot" "has_dot" HM f fd) (Z:Bi mg) {c:Cs} (Y:Ex K mg base c) (G:C_has_dot P w K mg base c):FnOk P w K mg base CX0 4 f fd UK (J7 K BT UH):=by
 refine F.okD AG (fun ds PP Ed h=>?_) (fun cdv A outer s H E M bg ds PP Ed hr hS_=>?_)
 · obtain ⟨t,px,py,n,rfl,ok,hx,hy,hn,hP⟩:=h
   rfl
 · obtain ⟨t,px,py,n,rfl,ok,hx,hy,hn,hP⟩:=hS_
   refine ⟨_,(J5 (CM (CC [2,3,4]) (jdv 0) (PG.or (AV (n:=3) K (by rfl) (by rfl) (J6 (pg_name (i:=2) AG.nd rfl (by walk_at "o")) (J6 (pg_name (i:=3) AG.nd rfl (by walk_at "o")) (J6 (pg_name (i:=4) AG.nd rfl (by walk_at "o")) V6)))) (AW (n:=3) K (by rfl) (by rfl) (J6 (pg_name (i:=2) AG.nd rfl (by walk_at "o")) (J6 (pg_name (i:=3) AG.nd rfl (by walk_at "o")) (J6 (pg_name (i:=4) AG.nd rfl (by walk_at "o")) V6))))))
    (J5 (V2 (i:=5) AG.nd rfl (by walk_at "o") (Q0 G.shifted_side_ hr.m rfl (J0 (jdv 2) (J0 (jdv 3) (J0 (jdv 1) J1)))))
    (J8 (Q8 (JH (HD J2f J2r (jdv 5) J3 (Y0 _)) (JH (HD GX EJ (Q0 G.shifted_side_ hr.m rfl (J0 (jdv 3) (J0 (jdv 4) (J0 (jdv 1) J1)))) (jdv 5) (Y0 _)) (PL (HD GX EJ (Q0 G.shifted_side_ hr.m rfl (J0 (jdv 4) (J0 (jdv 2) (J0 (jdv 1) J1)))) (jdv 5) (Y0 _))))))))),?_⟩
   walk_at "g"
   refine ⟨_,_,_,_,_,_,_,_,_,_,rfl,⟨ok.ax.mono hn,ok.ay.mono hn,ok.aw.mono hn⟩,⟨ok.bx.mono hn,ok.b_y.mono hn,ok.bw.mono hn⟩,⟨hx.mono hn,hy.mono hn⟩,?_⟩
   walk_at "g"
   have key:∀ b:Bool,(b=true↔t.has px py)->PP (.bl b):=fun b h=>by
    rw [show b=decide (t.has px py) from by rw [Bool.eq_iff_iff,h];simp]
    exact hP
   unfold T3.has T3.s1 T3.s2 T3.s3 at key
   walk_at "sp"
   · rename_i h1
     walk_at "g"
     refine ⟨_,_,_,_,_,_,_,_,_,_,rfl,⟨ok.bx.mono hn,ok.b_y.mono hn,ok.bw.mono hn⟩,⟨ok.cx.mono hn,ok.cy.mono hn,ok.cw.mono hn⟩,⟨hx.mono hn,hy.mono hn⟩,?_⟩
     walk_at "g"
     walk_at "sp"
     · rename_i h2
       walk_at "g"
       refine ⟨_,_,_,_,_,_,_,_,_,_,rfl,⟨ok.cx.mono hn,ok.cy.mono hn,ok.cw.mono hn⟩,⟨ok.ax.mono hn,ok.ay.mono hn,ok.aw.mono hn⟩,⟨hx.mono hn,hy.mono hn⟩,?_⟩
       walk_at "g"
       refine key _ ?_
       simp [h1,h2]
     · rename_i h2
       walk_at "g"
       refine key _ ?_
       simp [h2]
   · rename_i h1
     walk_at "g"
     refine key _ ?_
     simp [h1]
theorem CG {n:Int}(h:0<n):sgn n=1:=by unfold sgn;rw [if_pos h]
theorem CH {n:Int}(h:n<0):sgn n = -1:=by unfold sgn;rw [if_neg (by omega),if_pos h]
theorem RJ:sgn 0=0:=by decide
theorem BR (n:Int):sgn (-n)=0 - sgn n:=by
 unfold sgn
 by_cases h1:0<n
 · rw [if_pos h1,if_neg (by omega),if_pos (by omega)];decide
 · by_cases h2:n<0
   · rw [if_neg h1,if_pos h2,if_pos (by omega)];decide
   · rw [if_neg h1,if_neg h2,if_neg (by omega),if_neg (by omega)];decide
theorem RL {n:Int}:sgn n=0↔n=0:=by
 unfold sgn
 by_cases h1:0<n
 · rw [if_pos h1];omega
 · by_cases h2:n<0
   · rw [if_neg h1,if_pos h2];omega
   · rw [if_neg h1,if_neg h2];omega
theorem FJ {a:Int}(n:Int)(h:0<a):sgn (a*n)=sgn n:=by
 by_cases h1:0<n
 · rw [CG h1,CG (Int.mul_pos h h1)]
 · by_cases h2:n<0
   · rw [CH h2,CH (Int.mul_neg_of_pos_of_neg h h2)]
   · have:n=0:=by omega
     subst this
     rw [Int.mul_zero]
theorem J7i {a b M:Int}(h1:(a.natAbs:Int)<=M)(h2:(b.natAbs:Int)<=M) : -(M*M)<=a*b/\a*b<=M*M:=by
 have h3:a.natAbs*b.natAbs<=M.toNat*M.toNat:=Nat.mul_le_mul (by omega) (by omega)
 have h4:(a*b).natAbs=a.natAbs*b.natAbs:=Int.natAbs_mul a b
 have h5:((M.toNat*M.toNat:Nat):Int)=M*M:=by rw [Int.natCast_mul];have:(M.toNat:Int)=M:=(by omega);rw [this]
 omega
theorem J1a {A B C T F:Int}(hT:0<=T)(hF:F=10+8*T)(b1 : -(2*T)<=B)(b2:B<=2*T)(c1 : -(2*T)<=C)(c2:C<=2*T) :
 sgn (F*F*A+F*B+C)=sgn (if A=0 then (if B=0 then C else B) else A):=by
 have F0:0<F:=by omega
 have e1:F*(10+6*T)=F*F - F*(2*T):=by rw [hF];grind
 have e2:10*(10+6*T)<=F*(10+6*T):=Int.mul_le_mul_of_nonneg_right (by omega) (by omega)
 have fb1:F * -(2*T)<=F*B:=Int.mul_le_mul_of_nonneg_left b1 (by omega)
 have fb2:F*B<=F*(2*T):=Int.mul_le_mul_of_nonneg_left b2 (by omega)
 have e3:F * -(2*T) = -(F*(2*T)):=Int.mul_neg _ _
 have FF:0<F*F:=Int.mul_pos F0 F0
 by_cases hA:A=0
 · rw [if_pos hA,hA,Int.mul_zero]
   by_cases hB:B=0
   · rw [if_pos hB,hB,Int.mul_zero]
     congr 1
     omega
   · rw [if_neg hB]
     by_cases hp:0<B
     · have:F*1<=F*B:=Int.mul_le_mul_of_nonneg_left (by omega) (by omega)
       rw [CG hp,CG (by omega)]
     · have:F*B<=F * -1:=Int.mul_le_mul_of_nonneg_left (by omega) (by omega)
       have e4:F * -1 = -F:=by omega
       rw [CH (show B<0 by omega),CH (by omega)]
 · rw [if_neg hA]
   by_cases hp:0<A
   · have:F*F*1<=F*F*A:=Int.mul_le_mul_of_nonneg_left (by omega) (by omega)
     rw [CG hp,CG (by omega)]
   · have:F*F*A<=F*F * -1:=Int.mul_le_mul_of_nonneg_left (by omega) (by omega)
     rw [CH (show A<0 by omega),CH (by omega)]
theorem NC (ax ay aw bx b_y bw px py pw:Int):(bx*aw - ax*bw)*(py*aw - ay*pw) - (b_y*aw - ay*bw)*(px*aw - ax*pw)=aw*det ax ay aw bx b_y bw px py pw:=by unfold det;grind
theorem J2y (ax ay aw bx b_y bw px py F:Int):det ax ay aw bx b_y bw (px*F*F+F) (py*F*F+1) (F*F)=F*F*det ax ay aw bx b_y bw px py 1+F*(ay*bw - aw*b_y)+(aw*bx - ax*bw):=by unfold det;grind
theorem US {ax ay az aw bx b_y bz bw px py M:Int}(hw:0<aw)(hM:1<=M)(h:∀ n∈[ax,ay,az,aw,bx,b_y,bz,bw],(n.natAbs:Int)<=M) :
 sgn ((bx*aw - ax*bw)*((py*(10+8*M*M)*(10+8*M*M)+1)*aw - ay*((10+8*M*M)*(10+8*M*M))) - (b_y*aw - ay*bw)*((px*(10+8*M*M)*(10+8*M*M)+(10+8*M*M))*aw - ax*((10+8*M*M)*(10+8*M*M))))=sgn (shd ax ay aw bx b_y bw px py):=by
 rw [NC,FJ _ hw,J2y]
 have m1:=J7i (h ay (by simp)) (h bw (by simp))
 have m2:=J7i (h aw (by simp)) (h b_y (by simp))
 have m3:=J7i (h aw (by simp)) (h bx (by simp))
 have m4:=J7i (h ax (by simp)) (h bw (by simp))
 have hT:0<=M*M:=Int.mul_nonneg (by omega) (by omega)
 exact J1a (T:=M*M) hT (by rw [Int.mul_assoc]) (by omega) (by omega) (by omega) (by omega)
theorem V9 (n:Int):(0<n/\sgn n=1)\/(n=0/\sgn n=0)\/(n<0/\sgn n = -1):=by
 by_cases h:0<n
 · exact .inl ⟨h,CG h⟩
 · by_cases h':n<0
   · exact .inr (.inr ⟨h',CH h'⟩)
   · have:n=0:=by omega
     subst this
     exact .inr (.inl ⟨rfl,RJ⟩)
structure T3.pos (t:T3):Prop where
 a:0<t.aw
 b:0<t.bw
 c:0<t.cw
def T3.nums (t:T3):List Int:=[t.ax,t.ay,t.az,t.aw,t.bx,t.b_y,t.bz,t.bw,t.cx,t.cy,t.cz,t.cw]
def T3.in (t:T3)(M:Int):Prop:=∀ n∈t.nums,(n.natAbs:Int)<=M
def nX (px M:Int):Int:=px*(10+8*M*M)*(10+8*M*M)+(10+8*M*M)
def nY (py M:Int):Int:=py*(10+8*M*M)*(10+8*M*M)+1
def nW (M:Int):Int:=(10+8*M*M)*(10+8*M*M)
theorem CL {ax ay az aw bx b_y bz bw px py M:Int}(hw:0<aw)(hM:1<=M)(h:∀ n∈[ax,ay,az,aw,bx,b_y,bz,bw],(n.natAbs:Int)<=M):sgn (det ax ay aw bx b_y bw (nX px M) (nY py M) (nW M))=sgn (shd ax ay aw bx b_y bw px py):=by
 have e:=US (px:=px) (py:=py) hw hM h
 rw [NC,FJ _ hw] at e
 exact e
theorem T3.near {t:T3}{px py M:Int}(hp:t.pos)(hM:1<=M)(h:t.in M) :
 sgn (det t.ax t.ay t.aw t.bx t.b_y t.bw (nX px M) (nY py M) (nW M))=t.s1 px py/\sgn (det t.bx t.b_y t.bw t.cx t.cy t.cw (nX px M) (nY py M) (nW M))=t.s2 px py/\sgn (det t.cx t.cy t.cw t.ax t.ay t.aw (nX px M) (nY py M) (nW M))=t.s3 px py:=by
 unfold T3.in T3.nums at h
 refine ⟨CL (az:=t.az) (bz:=t.bz) hp.a hM fun n hn=>h n ?_,CL (az:=t.bz) (bz:=t.cz) hp.b hM fun n hn=>h n ?_,CL (az:=t.cz) (bz:=t.az) hp.c hM fun n hn=>h n ?_⟩
 all_goals
  simp only [List.mem_cons,List.not_mem_nil,or_false] at hn ⊢
  rcases hn with e|e|e|e|e|e|e|e<;>simp [e]
theorem T3.sum_det (t:T3)(x y w:Int):t.cw*det t.ax t.ay t.aw t.bx t.b_y t.bw x y w+t.aw*det t.bx t.b_y t.bw t.cx t.cy t.cw x y w+t.bw*det t.cx t.cy t.cw t.ax t.ay t.aw x y w=t.tn*w:=by
 unfold T3.tn det
 grind
theorem T3.has_tn {t:T3}{px py:Int}(hp:t.pos)(h:t.has px py):t.tn≠0:=by
 intro z
 obtain ⟨f,hf⟩:∃ f:Int->Nat,∀ n,f n=n.natAbs:=⟨Int.natAbs,fun _=>rfl⟩
 obtain ⟨M,hM,hin⟩:∃ M:Int,1<=M/\t.in M:=by
  refine ⟨1+f t.ax+f t.ay+f t.az+f t.aw+f t.bx+f t.b_y+f t.bz+f t.bw+f t.cx+f t.cy+f t.cz+f t.cw,by omega,fun n hn=>?_⟩
  unfold T3.nums at hn
  rw [<- hf]
  clear hf z h
  simp only [List.mem_cons,List.not_mem_nil,or_false] at hn
  rcases hn with e|e|e|e|e|e|e|e|e|e|e|e<;>rw [e]<;>omega
 obtain ⟨e1,e2,e3⟩:=T3.near (px:=px) (py:=py) hp hM hin
 have s:=t.sum_det (nX px M) (nY py M) (nW M)
 rw [z,Int.zero_mul] at s
 obtain ⟨h1,h2,h3⟩:=h
 rw [<- e1] at h1 h2 h3
 rw [<- e2] at h2
 rw [<- e3] at h3
 have pa:=hp.a
 have pb:=hp.b
 have pc:=hp.c
 generalize det t.ax t.ay t.aw t.bx t.b_y t.bw (nX px M) (nY py M) (nW M)=d1 at *
 generalize det t.bx t.b_y t.bw t.cx t.cy t.cw (nX px M) (nY py M) (nW M)=d2 at *
 generalize det t.cx t.cy t.cw t.ax t.ay t.aw (nX px M) (nY py M) (nW M)=d3 at *
 have c1:=V9 d1
 have c2:=V9 d2
 have c3:=V9 d3
 rcases c1 with ⟨c1,q⟩|⟨c1,q⟩|⟨c1,q⟩
 · have k2:0<d2:=by omega
   have k3:0<d3:=by omega
   have m1:=Int.mul_pos pc c1
   have m2:=Int.mul_pos pa k2
   have m3:=Int.mul_pos pb k3
   omega
 · omega
 · have k2:d2<0:=by omega
   have k3:d3<0:=by omega
   have m1:=Int.mul_neg_of_pos_of_neg pc c1
   have m2:=Int.mul_neg_of_pos_of_neg pa k2
   have m3:=Int.mul_neg_of_pos_of_neg pb k3
   omega
theorem T3.has_sgn {t:T3}{px py:Int}(hp:t.pos)(h:t.has px py):sgn t.tn=t.s1 px py:=by
 obtain ⟨f,hf⟩:∃ f:Int->Nat,∀ n,f n=n.natAbs:=⟨Int.natAbs,fun _=>rfl⟩
 obtain ⟨M,hM,hin⟩:∃ M:Int,1<=M/\t.in M:=by
  refine ⟨1+f t.ax+f t.ay+f t.az+f t.aw+f t.bx+f t.b_y+f t.bz+f t.bw+f t.cx+f t.cy+f t.cz+f t.cw,by omega,fun n hn=>?_⟩
  unfold T3.nums at hn
  rw [<- hf]
  clear hf h
  simp only [List.mem_cons,List.not_mem_nil,or_false] at hn
  rcases hn with e|e|e|e|e|e|e|e|e|e|e|e<;>rw [e]<;>omega
 obtain ⟨e1,e2,e3⟩:=T3.near (px:=px) (py:=py) hp hM hin
 have s:=t.sum_det (nX px M) (nY py M) (nW M)
 have w0:0<nW M:=by
  unfold nW
  have:0<=8*M*M:=Int.mul_nonneg (by omega) (by omega)
  exact Int.mul_pos (by omega) (by omega)
 obtain ⟨h1,h2,h3⟩:=h
 rw [<- e1] at h1 h2 h3
 rw [<- e1]
 rw [<- e2] at h2
 rw [<- e3] at h3
 have pa:=hp.a
 have pb:=hp.b
 have pc:=hp.c
 generalize det t.ax t.ay t.aw t.bx t.b_y t.bw (nX px M) (nY py M) (nW M)=d1 at *
 generalize det t.bx t.b_y t.bw t.cx t.cy t.cw (nX px M) (nY py M) (nW M)=d2 at *
 generalize det t.cx t.cy t.cw t.ax t.ay t.aw (nX px M) (nY py M) (nW M)=d3 at *
 generalize nW M=w at *
 have c1:=V9 d1
 have c2:=V9 d2
 have c3:=V9 d3
 rcases c1 with ⟨c1,q⟩|⟨c1,q⟩|⟨c1,q⟩
 · have k2:0<d2:=by omega
   have k3:0<d3:=by omega
   have m1:=Int.mul_pos pc c1
   have m2:=Int.mul_pos pa k2
   have m3:=Int.mul_pos pb k3
   have:0<t.tn:=by
    apply Decidable.byContradiction
    intro n
    have:=Int.mul_nonpos_of_nonpos_of_nonneg (show t.tn<=0 by omega) (show 0<=w by omega)
    omega
   rw [CG this,q]
 · omega
 · have k2:d2<0:=by omega
   have k3:d3<0:=by omega
   have m1:=Int.mul_neg_of_pos_of_neg pc c1
   have m2:=Int.mul_neg_of_pos_of_neg pa k2
   have m3:=Int.mul_neg_of_pos_of_neg pb k3
   have:t.tn<0:=by
    apply Decidable.byContradiction
    intro n
    have:=Int.mul_nonneg (show 0<=t.tn by omega) (show 0<=w by omega)
    omega
   rw [CH this,q]
def tri (a b c:R4):T3:=⟨a.x,a.y,a.z,a.w,b.x,b.y,b.z,b.w,c.x,c.y,c.z,c.w⟩
theorem Q0o {a b c:R4}{n:Nat}(ha:a.ok n)(hb:b.ok n)(hc:c.ok n):(tri a b c).ok n:=⟨ha.x,ha.y,ha.z,ha.w,hb.x,hb.y,hb.z,hb.w,hc.x,hc.y,hc.z,hc.w⟩
def T3.sg (t:T3)(px py:Int):Int:=if t.has px py then sgn t.tn else 0
def BH (x y z:Int):Int:=if x≠0/\y=x/\z=x then x else 0
def dd (a b:R4)(x y w:Int):Int:=det a.x a.y a.w b.x b.y b.w x y w
theorem J8q (a b:R4)(x y w:Int):dd b a x y w = -dd a b x y w:=by unfold dd det;grind
theorem Q3m (a b c n:R4)(x y w:Int):dd a b x y w*dd c n x y w+dd c a x y w*dd b n x y w+dd b c x y w*dd a n x y w=0:=by unfold dd det;grind
def R4.in (r:R4)(M:Int):Prop:=(r.x.natAbs:Int)<=M/\(r.y.natAbs:Int)<=M/\(r.z.natAbs:Int)<=M/\(r.w.natAbs:Int)<=M
theorem PQ {a b:R4}{px py M:Int}(hw:0<a.w)(hM:1<=M)(ha:a.in M)(hb:b.in M):sgn (dd a b (nX px M) (nY py M) (nW M))=sgn (shd a.x a.y a.w b.x b.y b.w px py):=by
 obtain ⟨a1,a2,a3,a4⟩:=ha
 obtain ⟨b1,b2,b3,b4⟩:=hb
 refine CL (az:=a.z) (bz:=b.z) hw hM fun n hn=>?_
 simp only [List.mem_cons,List.not_mem_nil,or_false] at hn
 rcases hn with e|e|e|e|e|e|e|e<;>rw [e]<;>assumption
theorem OL {a b c:R4}{px py M:Int}(ha:0<a.w)(hb:0<b.w)(hc:0<c.w)(hM:1<=M)(ia:a.in M)(ib:b.in M)(ic:c.in M):(tri a b c).sg px py=BH (sgn (dd a b (nX px M) (nY py M) (nW M))) (sgn (dd b c (nX px M) (nY py M) (nW M))) (sgn (dd c a (nX px M) (nY py M) (nW M))):=by
 rw [PQ ha hM ia ib,PQ hb hM ib ic,PQ hc hM ic ia]
 unfold T3.sg BH
 by_cases h:(tri a b c).has px py
 · have h':sgn (shd a.x a.y a.w b.x b.y b.w px py)≠0/\sgn (shd b.x b.y b.w c.x c.y c.w px py)=sgn (shd a.x a.y a.w b.x b.y b.w px py)/\sgn (shd c.x c.y c.w a.x a.y a.w px py)=sgn (shd a.x a.y a.w b.x b.y b.w px py):=h
   rw [if_pos h,T3.has_sgn ⟨ha,hb,hc⟩ h,if_pos h']
   rfl
 · have h':¬ (sgn (shd a.x a.y a.w b.x b.y b.w px py)≠0/\sgn (shd b.x b.y b.w c.x c.y c.w px py)=sgn (shd a.x a.y a.w b.x b.y b.w px py)/\sgn (shd c.x c.y c.w a.x a.y a.w px py)=sgn (shd a.x a.y a.w b.x b.y b.w px py)):=h
   rw [if_neg h,if_neg h']
theorem UP {a b c:R4}{px py M:Int}(ha:0<a.w)(hb:0<b.w)(hM:1<=M)(ia:a.in M)(ib:b.in M)(x y w:Int)(h:sgn (dd a b (nX px M) (nY py M) (nW M))=0):sgn (dd a c x y w)=sgn (dd b c x y w):=by
 rw [PQ ha hM ia ib] at h
 have h:=RL.mp h
 unfold shd at h
 split at h
 · split at h
   · rename_i h1 h2
     have e:dd a c x y w*b.w=dd b c x y w*a.w:=by
      have q1:a.x*b.w=b.x*a.w:=by rw [Int.mul_comm b.x a.w];omega
      have q2:a.y*b.w=b.y*a.w:=by rw [Int.mul_comm b.y a.w];omega
      unfold dd det
      grind
     have e1:=FJ (dd a c x y w) hb
     have e2:=FJ (dd b c x y w) ha
     rw [<- e1,<- e2,Int.mul_comm b.w,Int.mul_comm a.w,e]
   · rename_i h1 h2
     exact absurd h h2
 · rename_i h1
   exact absurd h h1
theorem sg3 (n:Int):sgn n=1\/sgn n=0\/sgn n = -1:=by have:=V9 n;omega
theorem RK (a b:Int):sgn (a*b)=sgn a*sgn b:=by
 rcases V9 a with ⟨h,e⟩|⟨h,e⟩|⟨h,e⟩
 · rw [FJ _ h,e,Int.one_mul]
 · rw [h,Int.zero_mul,RJ,Int.zero_mul]
 · rw [e,show a*b = -((-a)*b) by rw [Int.neg_mul,Int.neg_neg],BR,FJ _ (show 0 < -a by omega)]
   omega
theorem QZ:∀ ab bc ca an bn cn:Int,(ab=1\/ab = -1)->(bc=1\/bc = -1)->(ca=1\/ca = -1)->(an=1\/an = -1)->(bn=1\/bn = -1)->(cn=1\/cn = -1)->¬ (ab*cn=1/\ca*bn=1/\bc*an=1)->¬ (ab*cn = -1/\ca*bn = -1/\bc*an = -1)->BH ab bc ca=BH ab bn (-an)+BH bc cn (-bn)+BH ca an (-cn):=by
 intro ab bc ca an bn cn h1 h2 h3 h4 h5 h6 k1 k2
 rcases h1 with rfl|rfl<;>rcases h2 with rfl|rfl<;>rcases h3 with rfl|rfl<;>rcases h4 with rfl|rfl<;>rcases h5 with rfl|rfl<;>rcases h6 with rfl|rfl<;>first|decide|exact absurd (by decide) k1|exact absurd (by decide) k2
theorem J6a {x y z:Int}(h:x+y+z=0)(q1:sgn x=1)(q2:sgn y=1)(q3:sgn z=1):False:=by
 have r1:=V9 x
 have r2:=V9 y
 have r3:=V9 z
 omega
theorem J6b {x y z:Int}(h:x+y+z=0)(q1:sgn x = -1)(q2:sgn y = -1)(q3:sgn z = -1):False:=by
 have r1:=V9 x
 have r2:=V9 y
 have r3:=V9 z
 omega
theorem ng1 {x y:Int}(h : -x=y):x = -y:=by omega
theorem ng2 {x y:Int}(h : -x = -y):x=y:=by omega
theorem pm1 {s:Int}(h:s=1\/s=0\/s = -1)(n:s≠0):s=1\/s = -1:=by omega
theorem Q0u (x y z:Int)(hx:(x=1\/x=0\/x = -1))(hy:(y=1\/y=0\/y = -1))(hz:(z=1\/z=0\/z = -1)):BH 0 x (-x)=BH 0 y (-y)+BH x z (-y)+BH (-x) y (-z):=by
 rcases hx with rfl|rfl|rfl<;>rcases hy with rfl|rfl|rfl<;>rcases hz with rfl|rfl|rfl<;>decide
theorem Q0s (x y z:Int)(hx:(x=1\/x=0\/x = -1))(hy:(y=1\/y=0\/y = -1))(hz:(z=1\/z=0\/z = -1)):BH x 0 (-x)=BH x z (-y)+BH 0 z (-z)+BH (-x) y (-z):=by
 rcases hx with rfl|rfl|rfl<;>rcases hy with rfl|rfl|rfl<;>rcases hz with rfl|rfl|rfl<;>decide
theorem Q0q (x y z:Int)(hx:(x=1\/x=0\/x = -1))(hy:(y=1\/y=0\/y = -1))(hz:(z=1\/z=0\/z = -1)):BH (-x) x 0=BH (-x) y (-z)+BH x z (-y)+BH 0 z (-z):=by
 rcases hx with rfl|rfl|rfl<;>rcases hy with rfl|rfl|rfl<;>rcases hz with rfl|rfl|rfl<;>decide
theorem Q0t (x y z:Int)(hx:(x=1\/x=0\/x = -1))(hy:(y=1\/y=0\/y = -1))(hz:(z=1\/z=0\/z = -1)):BH (-y) x z=BH (-y) y (-0)+BH x z (-y)+BH z 0 (-z):=by
 rcases hx with rfl|rfl|rfl<;>rcases hy with rfl|rfl|rfl<;>rcases hz with rfl|rfl|rfl<;>decide
theorem Q0r (x y z:Int)(hx:(x=1\/x=0\/x = -1))(hy:(y=1\/y=0\/y = -1))(hz:(z=1\/z=0\/z = -1)):BH x (-z) y=BH x 0 (-x)+BH (-z) z (-0)+BH y x (-z):=by
 rcases hx with rfl|rfl|rfl<;>rcases hy with rfl|rfl|rfl<;>rcases hz with rfl|rfl|rfl<;>decide
theorem Q0p (x y z:Int)(hx:(x=1\/x=0\/x = -1))(hy:(y=1\/y=0\/y = -1))(hz:(z=1\/z=0\/z = -1)):BH x y (-z)=BH x y (-z)+BH y 0 (-y)+BH (-z) z (-0):=by
 rcases hx with rfl|rfl|rfl<;>rcases hy with rfl|rfl|rfl<;>rcases hz with rfl|rfl|rfl<;>decide
theorem J1b {a b c n:R4}(ha:0<a.w)(hb:0<b.w)(hc:0<c.w)(hn:0<n.w)(px py:Int):(tri a b c).sg px py=(tri a b n).sg px py+(tri b c n).sg px py+(tri c a n).sg px py:=by
 obtain ⟨f,hf⟩:∃ f:Int->Nat,∀ n,f n=n.natAbs:=⟨Int.natAbs,fun _=>rfl⟩
 obtain ⟨M,hM,ia,ib,ic,iN⟩:∃ M:Int,1<=M/\a.in M/\b.in M/\c.in M/\n.in M:=by
  refine ⟨1+f a.x+f a.y+f a.z+f a.w+f b.x+f b.y+f b.z+f b.w+f c.x+f c.y+f c.z+f c.w+f n.x+f n.y+f n.z+f n.w,by omega,?_,?_,?_,?_⟩<;>(unfold R4.in;rw [<- hf,<- hf,<- hf,<- hf];omega)
 rw [OL ha hb hc hM ia ib ic,OL ha hb hn hM ia ib iN,OL hb hc hn hM ib ic iN,OL hc ha hn hM ic ia iN]
 have Z:=fun (p q r:R4) hp hq ip iq=>UP (a:=p) (b:=q) (c:=r) (px:=px) (py:=py) hp hq hM ip iq (nX px M) (nY py M) (nW M)
 have R:=Q3m a b c n (nX px M) (nY py M) (nW M)
 have zab1:=Z a b c ha hb ia ib
 have zab2:=Z a b n ha hb ia ib
 have zbc1:=Z b c a hb hc ib ic
 have zbc2:=Z b c n hb hc ib ic
 have zca1:=Z c a b hc ha ic ia
 have zca2:=Z c a n hc ha ic ia
 have zan1:=Z a n b ha hn ia iN
 have zan2:=Z a n c ha hn ia iN
 have zbn1:=Z b n c hb hn ib iN
 have zbn2:=Z b n a hb hn ib iN
 have zcn1:=Z c n a hc hn ic iN
 have zcn2:=Z c n b hc hn ic iN
 clear Z
 have sw:=fun (p q:R4)=>J8q p q (nX px M) (nY py M) (nW M)
 simp only [sw a n,sw b n,sw c n,sw a b,sw b c,sw c a,BR] at zab1 zab2 zbc1 zbc2 zca1 zca2 zan1 zan2 zbn1 zbn2 zcn1 zcn2 ⊢
 clear sw
 generalize dd a b (nX px M) (nY py M) (nW M)=Dab at *
 generalize dd b c (nX px M) (nY py M) (nW M)=Dbc at *
 generalize dd c a (nX px M) (nY py M) (nW M)=Dca at *
 generalize dd a n (nX px M) (nY py M) (nW M)=Dan at *
 generalize dd b n (nX px M) (nY py M) (nW M)=Dbn at *
 generalize dd c n (nX px M) (nY py M) (nW M)=Dcn at *
 have k1:¬ (sgn Dab*sgn Dcn=1/\sgn Dca*sgn Dbn=1/\sgn Dbc*sgn Dan=1):=by
  rintro ⟨q1,q2,q3⟩
  rw [<- RK] at q1 q2 q3
  exact J6a R q1 q2 q3
 have k2:¬ (sgn Dab*sgn Dcn = -1/\sgn Dca*sgn Dbn = -1/\sgn Dbc*sgn Dan = -1):=by
  rintro ⟨q1,q2,q3⟩
  rw [<- RK] at q1 q2 q3
  exact J6b R q1 q2 q3
 clear R
 have t1:=sg3 Dab
 have t2:=sg3 Dbc
 have t3:=sg3 Dca
 have t4:=sg3 Dan
 have t5:=sg3 Dbn
 have t6:=sg3 Dcn
 generalize sgn Dab=ab at *
 generalize sgn Dbc=bc at *
 generalize sgn Dca=ca at *
 generalize sgn Dan=an at *
 generalize sgn Dbn=bn at *
 generalize sgn Dcn=cn at *
 clear hf ia ib ic iN hM ha hb hc hn
 simp only [Int.zero_sub] at zab1 zab2 zbc1 zbc2 zca1 zca2 zan1 zan2 zbn1 zbn2 zcn1 zcn2 ⊢
 by_cases e1:ab=0
 · have h1:ca = -bc:=ng1 (zab1 e1)
   have h2:an=bn:=zab2 e1
   rw [h1,h2,e1]
   exact Q0u bc bn cn t2 t5 t6
 by_cases e2:bc=0
 · have h1:ca = -ab:=(zbc1 e2).symm
   have h2:bn=cn:=zbc2 e2
   rw [h1,h2,e2]
   exact Q0s ab an cn t1 t4 t6
 by_cases e3:ca=0
 · have h1:ab = -bc:=(zca1 e3).symm
   have h2:an=cn:=(zca2 e3).symm
   rw [h1,h2,e3]
   exact Q0q bc bn cn t2 t5 t6
 by_cases e4:an=0
 · have h1:ab = -bn:=zan1 e4
   have h2:ca=cn:=ng2 (zan2 e4)
   rw [h1,h2,e4]
   exact Q0t bc bn cn t2 t5 t6
 by_cases e5:bn=0
 · have h1:bc = -cn:=zbn1 e5
   have h2:an=ab:=(ng2 (zbn2 e5)).symm
   rw [h1,h2,e5]
   exact Q0r ab ca cn t1 t3 t6
 by_cases e6:cn=0
 · have h1:ca = -an:=zcn1 e6
   have h2:bn=bc:=(ng2 (zcn2 e6)).symm
   rw [h1,h2,e6]
   exact Q0p ab bc an t1 t2 t4
 exact QZ ab bc ca an bn cn (pm1 t1 e1) (pm1 t2 e2) (pm1 t3 e3) (pm1 t4 e4) (pm1 t5 e5) (pm1 t6 e6) k1 k2
def hv (ts:List T3)(px py:Int):List T3:=ts.filter fun t=>decide (t.has px py)
def MB (ts:List T3)(px py:Int):Nat:=((hv ts px py).filter fun t=>decide (t.tn<0)).length
def nIn (ts:List T3)(px py:Int):Int:=(hv ts px py).length - MB ts px py
theorem J7z (ts:List T3)(px py:Int)(i:Nat)(t:T3)(h:ts[i]?=some t):hv (ts.take (i+1)) px py=hv (ts.take i) px py++if t.has px py then [t] else []:=by
 unfold hv
 rw [List.take_add_one,h,Option.toList_some,List.filter_append]
 congr 1
 by_cases z:t.has px py<;>simp [z]
theorem Q2n (ts:List T3)(px py:Int):(hv ts px py).length<=ts.length:=List.length_filter_le ..
theorem Q2p {ts:List T3}{i:Nat}{x:D}(h:(ts.map T3.d)[i]?=some x):∃ t,ts[i]?=some t/\x=t.d:=by
 rw [List.getElem?_map] at h
 cases e:ts[i]? with
 | none=>rw [e] at h;cases h
 | some t=>rw [e] at h;exact ⟨t,rfl,(Option.some.inj h).symm⟩
theorem J0s (px py:Int):∀ ts:List T3,(∀ t∈ts,t.pos)->(ts.map fun t=>t.sg px py).sum=nIn ts px py - MB ts px py
 | [],_=>rfl
 | t::ts,h=>by
   have ih:=J0s px py ts fun q hq=>h q (List.mem_cons_of_mem _ hq)
   have tp:=h t (List.mem_cons_self ..)
   rw [List.map_cons,List.sum_cons,ih]
   unfold nIn MB hv T3.sg
   by_cases z:t.has px py
   · have tz:=T3.has_tn tp z
     rcases Int.lt_or_gt_of_ne tz with q|q
     · rw [if_pos z,CH q]
       simp [z,q]
       omega
     · rw [if_pos z,CG q]
       simp [z,show ¬ t.tn<0 by omega]
       omega
   · rw [if_neg z]
     simp [z]
theorem Q2a {ts:List T3}{px py:Int}(h:∀ t∈ts,t.pos)(e:(ts.map fun t=>t.sg px py).sum=0):nIn ts px py=MB ts px py:=by
 have:=J0s px py ts h
 omega
abbrev BL:Stmt:=top 21
theorem BV:FnScope ["faces","dot","turns","outs"] ["faces","dot"] (J4 BL):=⟨rfl,rfl,rfl,by decide +kernel,rfl,by decide +kernel,by decide +kernel⟩
def XX:DSp:=fun ds P _=>∃ (ts:List T3) (px py:Int),ds=[.lst (ts.map T3.d),t2 px py]/\(∀ t∈ts,t.ok 100/\t.pos)/\ts.length<=500/\Bd 100 px/\Bd 100 py/\P (t2 (nIn ts px py) (MB ts px py))
structure C_ins_and_outs (P:Program)(w:World)(K:Fg)(mg:Str->Option Value)(base:Heap)(c:Cs):Prop where
 turn_:Callee P w K mg base CX0 "turn" 2 ["face"] (J7 K BT J5h)
 has_dot_:Callee P w K mg base CX0 "has_dot" 4 UK (J7 K BT UH)
abbrev xc6 (P:Program) (w:World) (K:Fg) (mg:Str → Option Value) (base:Heap) (f:Addr) (cdv:Value) (A:Around) (outer:List Env) (s:Shared) (H:Hp) (E:XK):Cx:=AJ CX0 P w K mg base ["faces","dot","turns","outs"] "ins_and_outs" (J4 BL) f cdv A outer s H E
theorem IR {f:Addr} (F:Fun K "ins_and_outs" "ins_and_outs" BL f fd) (Z:Bi mg) {c:Cs} (Y:Ex K mg base c) (G:C_ins_and_outs P w K mg base c):FnOk P w K mg base CX0 5 f fd ["faces","dot"] (J7 K BT XX):=by
 refine F.okD BV (fun ds PP Ed h=>?_) (fun cdv A outer s H E M bg ds PP Ed hr hS_=>?_)
 · obtain ⟨ts,px,py,rfl,hts,hl,hx,hy,hP⟩:=h
   rfl
 · obtain ⟨ts,px,py,rfl,hts,hl,hx,hy,hP⟩:=hS_
   refine ⟨_,(J5 (SU (X:=(xc6 P w K mg base f cdv A outer s H E).nox) false (i:=2) BV.nd rfl (by walk_at "o") (V3 0) (GQ (X:=(xc6 P w K mg base f cdv A outer s H E).nox) (N':=UK) (map:=[none,some 1]) (by rfl) (by rfl) (by decide +kernel) (by rfl) ⟨⟨rfl,rfl,rfl,by walk_at "o"⟩,True.intro⟩ (gkeep_name rfl) fun cl0 C0 fp0 s0 H0=>⟨(pg_name (X:=(J9 (xc6 P w K mg base f cdv A outer s H E).nox UK _ cl0 C0 fp0 s0 H0)) (i:=0) (Y2 UK (by decide +kernel)) rfl (by walk_at "o")),(SY (DZ (by rfl) (Q0 G.has_dot_ hr.m rfl (J0 (jdv 0) (J0 (jdv 1) J1))) (fun _=>rfl))),(Q0 (X:=(J9 (xc6 P w K mg base f cdv A outer s H E).nox UK _ cl0 C0 fp0 s0 H0)) G.turn_ hr.m rfl (J0 (jdv 0) J1))⟩) (Z2 (by rfl) (jdv 0)))
    (J5 (V2 (i:=3) BV.nd rfl (by walk_at "o") (Z9 (Z6 K (by rfl)) IA rfl Z.len_ GP (J0 (AI (X:=(xc6 P w K mg base f cdv A outer s H E).nox) (V3 0) (GQ (X:=(xc6 P w K mg base f cdv A outer s H E).nox) (N':=["one"]) (map:=[none]) (by rfl) (by rfl) (by decide +kernel) (by rfl) True.intro (gkeep_name rfl) fun cl0 C0 fp0 s0 H0=>⟨(pg_name (X:=(J9 (xc6 P w K mg base f cdv A outer s H E).nox ["one"] _ cl0 C0 fp0 s0 H0)) (i:=0) (Y2 ["one"] (by decide +kernel)) rfl (by walk_at "o")),(SY (Z1 SB KN (jdv 0) J3 (Y0 _))),(jdv (X:=(J9 (xc6 P w K mg base f cdv A outer s H E).nox ["one"] _ cl0 C0 fp0 s0 H0)) 0)⟩) (Z2 (by rfl) (jdv 2))) J1)))
    (J8 (Q8 (V1 (J0 (V0 AQ AT (Z9 (Z6 K (by rfl)) IA rfl Z.len_ GP (J0 (jdv 2) J1)) (jdv 3)) (J0 (jdv 3) J1))))))),?_⟩
   have hlen:=Q2n ts px py
   walk_at "g"
   refine And.intro (by rw [List.length_map];omega) ?_
   refine ⟨fun i acc=>acc=(hv (ts.take i) px py).map fun t=>D.int t.tn,rfl,?_,?_⟩
   · rintro i x acc e rfl
     obtain ⟨t,et,rfl⟩:=Q2p e
     obtain ⟨ok,pos⟩:=hts t (List.mem_of_getElem? et)
     rw [J7z ts px py i t et,List.map_append]
     walk_at "g"
     refine ⟨t,px,py,100,rfl,ok,hx,hy,by decide,?_⟩
     by_cases z:t.has px py
     · refine IfP.t (by simp [z]) ?_
       rw [if_pos z]
       walk_at "g"
       refine ⟨t,100,rfl,ok,by decide,?_⟩
       walk_at "g"
       rfl
     · refine IfP.f (by simp [z]) ?_
       rw [if_neg z,List.map_nil,List.append_nil]
   · rintro acc rfl
     rw [List.length_map,List.take_length]
     walk_at "g"
     refine And.intro (by rw [List.length_map];omega) ?_
     refine ⟨fun i acc=>acc=(((hv ts px py).take i).filter fun t=>decide (t.tn<0)).map fun t=>D.int t.tn,rfl,?_,?_⟩
     · rintro i x acc e rfl
       rw [List.getElem?_map] at e
       obtain ⟨t,et,rfl⟩:=Option.map_eq_some_iff.mp e
       rw [List.take_add_one,et,Option.toList_some,List.filter_append,List.map_append]
       walk_at "g"
       by_cases z:t.tn<0
       · refine IfP.t (by simp [z]) ?_
         walk_at "g"
         simp [z]
       · refine IfP.f (by simp [z]) ?_
         simp [z]
     · rintro acc rfl
       rw [List.length_map,List.take_length]
       walk_at "g"
       rw [List.length_map,List.length_map]
       exact hP
theorem OJ (ax ay aw bx b_y bw px py:Int):shd bx b_y bw ax ay aw px py = -shd ax ay aw bx b_y bw px py:=by
 have e1:det bx b_y bw ax ay aw px py 1 = -det ax ay aw bx b_y bw px py 1:=by unfold det;grind
 have e2:b_y*aw - bw*ay = -(ay*bw - aw*b_y):=by grind
 have e3:bw*ax - bx*aw = -(aw*bx - ax*bw):=by grind
 unfold shd
 rw [e1,e2,e3]
 generalize det ax ay aw bx b_y bw px py 1=p
 generalize ay*bw - aw*b_y=q
 generalize aw*bx - ax*bw=r
 by_cases h1:p=0
 · by_cases h2:q=0
   · rw [if_pos (by omega),if_pos (by omega),if_pos h1,if_pos h2]
   · rw [if_pos (by omega),if_neg (by omega),if_pos h1,if_neg h2]
 · rw [if_neg (by omega),if_neg h1]
theorem WG (a b c:R4)(px py:Int):(tri a c b).sg px py = -(tri a b c).sg px py:=by
 have e0:(tri a c b).tn = -(tri a b c).tn:=by unfold tri T3.tn det;grind
 have s1:(tri a c b).s1 px py=0 - (tri a b c).s3 px py:=by unfold T3.s1 T3.s3 tri;rw [OJ,BR]
 have s2:(tri a c b).s2 px py=0 - (tri a b c).s2 px py:=by unfold T3.s2 tri;rw [OJ,BR]
 have s3:(tri a c b).s3 px py=0 - (tri a b c).s1 px py:=by unfold T3.s1 T3.s3 tri;rw [OJ,BR]
 have hh:(tri a c b).has px py↔(tri a b c).has px py:=by
  unfold T3.has
  rw [s1,s2,s3]
  omega
 unfold T3.sg
 by_cases h:(tri a b c).has px py
 · rw [if_pos h,if_pos (hh.mpr h),e0,BR];omega
 · rw [if_neg h,if_neg (fun z=>h (hh.mp z))];rfl
theorem Q0z (a b c:R4)(px py:Int):(tri b c a).sg px py=(tri a b c).sg px py:=by
 have e0:(tri b c a).tn=(tri a b c).tn:=by unfold tri T3.tn det;grind
 have hh:(tri b c a).has px py↔(tri a b c).has px py:=by
  have s1:(tri b c a).s1 px py=(tri a b c).s2 px py:=rfl
  have s2:(tri b c a).s2 px py=(tri a b c).s3 px py:=rfl
  have s3:(tri b c a).s3 px py=(tri a b c).s1 px py:=rfl
  unfold T3.has
  rw [s1,s2,s3]
  omega
 unfold T3.sg
 by_cases h:(tri a b c).has px py
 · rw [if_pos h,if_pos (hh.mpr h),e0]
 · rw [if_neg h,if_neg (fun z=>h (hh.mp z))]
abbrev CJ:Stmt:=top 41
theorem Z4:FnScope ["body","move","corners","faces","used","face","at","spots"] ["body","move"] (J4 CJ):=⟨rfl,rfl,rfl,by decide +kernel,rfl,by decide +kernel,by decide +kernel⟩
theorem LB {α:Type}{g:α->D}{l:List α}{i:Nat}{x:D}(h:(l.map g)[i]?=some x):∃ a,l[i]?=some a/\x=g a:=by
 rw [List.getElem?_map] at h
 obtain ⟨a,e,rfl⟩:=Option.map_eq_some_iff.mp h
 exact ⟨a,e,rfl⟩
theorem NA (g:Int->D):∀ (ks:List Int) (k:Int),k∈ks->KO ks (ks.map g) k=some (g k)
 | [],k,h=>by cases h
 | n::ks,k,h=>by
   rw [List.map_cons]
   unfold KO
   by_cases q:k=n
   · rw [if_pos q,q]
   · rw [if_neg q]
     exact NA g ks k ((List.mem_cons.mp h).resolve_left q)
structure R3 where
 x:Int
 y:Int
 z:Int
abbrev R3.d (r:R3):D:=t3 r.x r.y r.z
abbrev R3.s (r:R3):R4:=⟨r.x,r.y,r.z,1⟩
structure F3i where
 i:Nat
 j:Nat
 k:Nat
abbrev F3i.d (f:F3i):D:=t3 f.i f.j f.k
def F3i.has (f:F3i)(n:Nat):Prop:=n=f.i\/n=f.j\/n=f.k
def cor (cs:List R3)(n:Nat):R3:=cs.getD n ⟨0,0,0⟩
def spt (m:M4)(cs:List R3)(n:Nat):R4:=VG (app m (cor cs n).s)
abbrev WI (m:M4)(cs:List R3)(f:F3i):D:=.tup [(spt m cs f.i).d,(spt m cs f.j).d,(spt m cs f.k).d]
def XY (c:Cs):DSO:=fun ds P Ed=>∃ (cs:List R3) (fs:List F3i) (m:M4) (n:Nat),ds=[.tup [.lst (cs.map R3.d),.lst (fs.map F3i.d)],m.d]/\m.ok n/\(∀ r∈cs,r.s.ok n)/\n<=2000/\cs.length<=24/\fs.length<=100/\(∀ f∈fs,∀ q,f.has q->q<cs.length) /\
 ((∃ f∈fs,∃ q,f.has q/\(app m (cor cs q).s).w<=0)->Ed c.Behind)/\((∀ f∈fs,∀ q,f.has q->0<(app m (cor cs q).s).w)->P (fs.map (WI m cs)))
structure C_faces_seen (P:Program)(w:World)(K:Fg)(mg:Str->Option Value)(base:Heap)(c:Cs):Prop where
 moved_:Callee P w K mg base (CX1 P w base) "moved" 3 ["move","spot"] (J7 K BT (XW c))
abbrev xc7 (P:Program) (w:World) (K:Fg) (mg:Str → Option Value) (base:Heap) (f:Addr) (cdv:Value) (A:Around) (outer:List Env) (s:Shared) (H:Hp) (E:XK):Cx:=AJ (CX1 P w base) P w K mg base ["body","move","corners","faces","used","face","at","spots"] "faces_seen" (J4 CJ) f cdv A outer s H E
abbrev QQ:List Str:=["face","spots"]
theorem LW {f:Addr} (F:Fun K "faces_seen" "faces_seen" CJ f fd) (Z:Bi mg) {c:Cs} (Y:Ex K mg base c) (G:C_faces_seen P w K mg base c):FnOk P w K mg base (CX1 P w base) 4 f fd ["body","move"] (Y9 K BT (XY c)):=by
 refine F.okDXO Z4 (fun ds PP Ed h=>?_) (fun cdv A outer s H E M bg ds PP Ed hr hE hS_=>?_)
 · obtain ⟨cs,fs,m,n_,rfl,mo,co,hn,hc,hf,hi,h0,h1⟩:=h
   rfl
 · obtain ⟨cs,fs,m,n_,rfl,mo,co,hn,hc,hf,hi,h0,h1⟩:=hS_
   refine ⟨_,(J5 (CM (CC [2,3]) (jdv 0) (PG.or (AV (n:=2) K (by rfl) (by rfl) (J6 (pg_name (i:=2) Z4.nd rfl (by walk_at "o")) (J6 (pg_name (i:=3) Z4.nd rfl (by walk_at "o")) V6))) (AW (n:=2) K (by rfl) (by rfl) (J6 (pg_name (i:=2) Z4.nd rfl (by walk_at "o")) (J6 (pg_name (i:=3) Z4.nd rfl (by walk_at "o")) V6)))))
    (J5 (V2 (i:=4) Z4.nd rfl (by walk_at "o") (ZF (X:=(xc7 P w K mg base f cdv A outer s H E)) (by rfl) rfl Z.sorted_ IB (V3 0) (V3 1) (Q7a (X:=(xc7 P w K mg base f cdv A outer s H E)) (N':=["face","at"]) (map:=[none,none]) (mp2:=[some 0,none]) (by rfl) (by rfl) (by decide +kernel) (by rfl) True.intro (gkeep_name rfl) (gkeep_name rfl) rfl rfl fun cl0 C0 fp0 s0 H0=>⟨(pg_name (X:=(J9 (xc7 P w K mg base f cdv A outer s H E) ["face","at"] _ cl0 C0 fp0 s0 H0).nox) (i:=0) (Y2 ["face","at"] (by decide +kernel)) rfl (by walk_at "o")),(Z2 (X:=(J9 (xc7 P w K mg base f cdv A outer s H E) ["face","at"] _ cl0 C0 fp0 s0 H0).nox) (by rfl) (jdv 0)),(pg_name (X:=(J9 (xc7 P w K mg base f cdv A outer s H E) ["face","at"] _ cl0 C0 fp0 s0 H0).nox) (i:=1) (Y2 ["face","at"] (by decide +kernel)) rfl (by walk_at "o")),Y6,(jdv (X:=(J9 (xc7 P w K mg base f cdv A outer s H E) ["face","at"] _ cl0 C0 fp0 s0 H0).nox) 1)⟩) (Z2 (by rfl) (jdv 3))))
    (J5 (VI (X:=(xc7 P w K mg base f cdv A outer s H E)) (i:=7) (P:=P) (w:=w) rfl rfl Z4.nd rfl (by walk_at "o") (by rfl) (V3 0) (J9b (by rfl) (Q6z (X:=(xc7 P w K mg base f cdv A outer s H E)) (N':=["at","move","corners"]) (map:=[none,some 1,some 2]) (by rfl) (by rfl) (by decide +kernel) (by rfl) ⟨⟨rfl,rfl,rfl,by walk_at "o"⟩,⟨⟨rfl,rfl,rfl,by walk_at "o"⟩,True.intro⟩⟩ (gkeep_name rfl) fun cl0 C0 fp0 s0 H0 hI=>⟨(pg_name (X:=(J9 (xc7 P w K mg base f cdv A outer s H E) ["at","move","corners"] _ cl0 C0 fp0 s0 H0)) (i:=0) (Y2 ["at","move","corners"] (by decide +kernel)) rfl (by walk_at "o")),Y6,(HB (X:=(J9 (xc7 P w K mg base f cdv A outer s H E) ["at","move","corners"] _ cl0 C0 fp0 s0 H0)) hE (ZV hI) G.moved_ hr.m rfl (J0 (jdv 1) (J0 (V0 (J2k K (by rfl)) J2s (Q7 (Q9 K (by rfl)) V4 (jdv 2) (jdv 0) (fun _ _=>rfl)) (V1 (J0 J3 J1))) J1)))⟩) (fun _ _ _ _ _=>jdv 0)) (Z2 (by rfl) (jdv 4)))
    (J8 (J3k (X:=(xc7 P w K mg base f cdv A outer s H E)) (V3 0) (GQ (X:=(xc7 P w K mg base f cdv A outer s H E)) (N':=QQ) (map:=[none,some 7]) (by rfl) (by rfl) (by decide +kernel) (by rfl) ⟨⟨rfl,rfl,rfl,by walk_at "o"⟩,True.intro⟩ (gkeep_name rfl) fun cl0 C0 fp0 s0 H0=>⟨(pg_name (X:=(J9 (xc7 P w K mg base f cdv A outer s H E) QQ _ cl0 C0 fp0 s0 H0)) (i:=0) (Y2 QQ (by decide +kernel)) rfl (by walk_at "o")),Y6,(AB (X:=(J9 (xc7 P w K mg base f cdv A outer s H E) QQ _ cl0 C0 fp0 s0 H0)) (Y3 K (by rfl)) BS rfl Z.tuple_ BU (J0 (AI (X:=(J9 (xc7 P w K mg base f cdv A outer s H E) QQ _ cl0 C0 fp0 s0 H0)) (V3 0) (GQ (X:=(J9 (xc7 P w K mg base f cdv A outer s H E) QQ _ cl0 C0 fp0 s0 H0)) (N':=["at","spots"]) (map:=[none,some 1]) (by rfl) (by rfl) (by decide +kernel) (by rfl) ⟨⟨rfl,rfl,rfl,by walk_at "o"⟩,True.intro⟩ (gkeep_name rfl) fun cl1 C1 fp1 s1 H1=>⟨(pg_name (X:=(J9 (J9 (xc7 P w K mg base f cdv A outer s H E) QQ _ cl0 C0 fp0 s0 H0) ["at","spots"] _ cl1 C1 fp1 s1 H1)) (i:=0) (Y2 ["at","spots"] (by decide +kernel)) rfl (by walk_at "o")),Y6,(Q7 (X:=(J9 (J9 (xc7 P w K mg base f cdv A outer s H E) QQ _ cl0 C0 fp0 s0 H0) ["at","spots"] _ cl1 C1 fp1 s1 H1)) (Q2i (P:=P) (w:=w) (by rfl) (by rfl)) Q1s (jdv 1) (jdv 0) (fun _ _=>rfl))⟩) (Z2 (by rfl) (jdv 0))) J1))⟩) (Z2 (by rfl) (jdv 3))))))),?_⟩
   walk_at "g"
   refine And.intro (by rw [List.length_map];omega) ?_
   refine ⟨fun i acc=>∃ ns:List Int,acc=ns.map D.int/\ns.length=3*i/\i<=fs.length/\(∀ z,z∈ns↔∃ f∈fs.take i,∃ q:Nat,f.has q/\z=(q:Int)),⟨[],rfl,rfl,Nat.zero_le _,by simp⟩,?_,?_⟩
   · rintro i x acc e ⟨ns,rfl,hl,hle,hm⟩
     obtain ⟨f,ef,rfl⟩:=LB e
     have hi':i<fs.length:=(List.getElem?_eq_some_iff.mp ef).1
     walk_at "g"
     refine ⟨fun n acc=>n<=3/\acc=(ns++([(f.i:Int),(f.j:Int),(f.k:Int)].take n)).map D.int,?_,⟨by decide,by simp⟩,?_,?_⟩
     · rintro n acc ⟨h3,rfl⟩
       refine ⟨⟨_,rfl⟩,?_⟩
       rw [List.length_map,List.length_append,List.length_take]
       simp only [List.length_cons,List.length_nil]
       omega
     · rintro n x acc e ⟨h3,rfl⟩
       rcases n with _|_|_|n
       · cases (Option.some.inj e)
         walk_at "g"
         simp
       · cases (Option.some.inj e)
         walk_at "g"
         simp
       · cases (Option.some.inj e)
         walk_at "g"
         simp
       · simp at e
     · rintro acc ⟨_,rfl⟩
       refine ⟨_,rfl,by simp;omega,hi',fun z=>?_⟩
       rw [List.take_add_one,ef]
       simp only [Option.toList_some,List.mem_append,hm z]
       constructor
       · rintro (⟨g',hg,q,hq⟩|hz)
         · exact ⟨g',.inl hg,q,hq⟩
         · have hz:z=f.i\/z=f.j\/z=f.k:=by simpa using hz
           rcases hz with rfl|rfl|rfl
           · exact ⟨f,.inr (by simp),f.i,.inl rfl,rfl⟩
           · exact ⟨f,.inr (by simp),f.j,.inr (.inl rfl),rfl⟩
           · exact ⟨f,.inr (by simp),f.k,.inr (.inr rfl),rfl⟩
       · rintro ⟨g',hg|hg,q,hq,rfl⟩
         · exact .inl ⟨g',hg,q,hq,rfl⟩
         · rw [List.mem_singleton.mp hg] at hq
           refine .inr ?_
           show _∈[(f.i:Int),(f.j:Int),(f.k:Int)]
           rcases hq with rfl|rfl|rfl<;>simp
   · rintro acc ⟨ns,rfl,hl,hle,hm⟩
     rw [List.length_map] at hl hle hm
     rw [List.take_length] at hm
     have rng:∀ z∈ns,0<=z/\z<(24:Nat):=fun z hz=>by
      obtain ⟨f,hf',q,hq,rfl⟩:=(hm z).mp hz
      have:=hi f hf' q hq
      omega
     refine ⟨ns,rfl,24,rng,by decide,fun ks so me=>?_⟩
     have kin:∀ z,z∈ks↔∃ f∈fs,∃ q:Nat,f.has q/\z=(q:Int):=fun z=>(me z).trans (hm z)
     have kl:ks.length<=24:=EY 24 ks (so.imp fun {a b} h=>Int.ne_of_lt h) fun z hz=>rng z ((me z).mp hz)
     walk_at "g"
     refine And.intro (by rw [List.length_map];omega) ?_
     have up:ks.Nodup:=so.imp fun {a b} h=>Int.ne_of_lt h
     refine ⟨fun n acc=>acc=(ks.take n).map (fun z=>(z,(spt m cs z.toNat).d))/\∀ z∈ks.take n,0<(app m (cor cs z.toNat).s).w,⟨rfl,by simp⟩,?_,?_⟩
     · rintro n x acc e ⟨rfl,hpos⟩
       obtain ⟨z,ez,rfl⟩:=LB e
       have zm:=List.mem_of_getElem? ez
       obtain ⟨f,hf',q,hq,rfl⟩:=(kin z).mp zm
       have hqc:=hi f hf' q hq
       have hx:atI (cs.map R3.d) (q:Int)=some (cor cs q).d:=JJ (j:=q) (by
        rw [List.getElem?_map]
        unfold cor
        rw [List.getElem?_eq_getElem hqc,List.getD_eq_getElem?_getD,List.getElem?_eq_getElem hqc]
        rfl)
       have cm:(cor cs q).s.ok n_:=co _ (by
        unfold cor
        rw [List.getD_eq_getElem?_getD,List.getElem?_eq_getElem hqc]
        exact List.getElem_mem hqc)
       have nk:(q:Int)∉((ks.take n).map (fun z:Int=>(z,(spt m cs z.toNat).d))).map (·.1):=by
        rw [List.map_map]
        intro h
        have h:(q:Int)∈ks.take n:=by
         obtain ⟨y,hy,e⟩:=List.mem_map.mp h
         have e:y=(q:Int):=e
         rw [<- e];exact hy
        obtain ⟨j,hj,ej⟩:=List.mem_iff_getElem.mp h
        rw [List.length_take] at hj
        rw [List.getElem_take] at ej
        have hn':n<ks.length:=(List.getElem?_eq_some_iff.mp ez).1
        have en:ks[n]=(q:Int):=(List.getElem?_eq_some_iff.mp ez).2
        have:=List.pairwise_iff_getElem.mp so j n (by omega) hn' (by omega)
        omega
       walk_at "g"
       refine ⟨(q:Int),rfl,nk,?_⟩
       walk_at "g"
       rw [hx]
       walk_at "g"
       refine ⟨m,(cor cs q).s,n_,rfl,mo,cm,hn,fun h=>h0 ⟨f,hf',q,hq,h⟩,fun h=>⟨rfl,?_,fun z hz=>?_⟩⟩
       · rw [List.take_add_one,ez,Option.toList_some,List.map_append]
         rfl
       · rw [List.take_add_one,ez,Option.toList_some] at hz
         rcases List.mem_append.mp hz with hz|hz
         · exact hpos z hz
         · rw [List.mem_singleton.mp hz];exact h
     · rintro acc ⟨rfl,hpos⟩
       intro a
       rw [List.length_map,List.take_length] at hpos
       have e1:((ks.take (ks.map D.int).length).map fun z=>(z,(spt m cs z.toNat).d)).map (·.1)=ks:=by
        rw [List.length_map,List.take_length,List.map_map]
        simp [Function.comp_def]
       have e2:((ks.take (ks.map D.int).length).map fun z=>(z,(spt m cs z.toNat).d)).map (·.2)=ks.map fun z=>(spt m cs z.toNat).d:=by
        rw [List.length_map,List.take_length,List.map_map]
        rfl
       rw [e1,e2]
       have lk:∀ q:Nat,(q:Int)∈ks->KO ks (ks.map fun z=>(spt m cs z.toNat).d) (q:Int)=some (spt m cs q).d:=fun q hq=>by
        rw [NA _ _ _ hq]
        rfl
       generalize (ks.map fun z=>(spt m cs z.toNat).d)=vs at *
       walk_at "g"
       refine And.intro (by rw [List.length_map];omega) ?_
       refine LJ (fun i y=>∃ f,fs[i]?=some f/\y=WI m cs f) (fun j x Q e hQ=>?_) (fun j y ⟨p,_,e⟩=>by rw [e];rfl) fun acc hl' ha=>?_
       · obtain ⟨f,ef,rfl⟩:=LB e
         have fm:=List.mem_of_getElem? ef
         have k1:=lk f.i ((kin _).mpr ⟨f,fm,f.i,.inl rfl,rfl⟩)
         have k2:=lk f.j ((kin _).mpr ⟨f,fm,f.j,.inr (.inl rfl),rfl⟩)
         have k3:=lk f.k ((kin _).mpr ⟨f,fm,f.k,.inr (.inr rfl),rfl⟩)
         walk_at "g"
         walk_at "gc"
         refine ⟨a,ks,vs,(f.i:Int),_,rfl,rfl,k1,?_⟩
         walk_at "g"
         refine ⟨a,ks,vs,(f.j:Int),_,rfl,rfl,k2,?_⟩
         walk_at "g"
         refine ⟨a,ks,vs,(f.k:Int),_,rfl,rfl,k3,?_⟩
         walk_at "g"
         exact hQ _ ⟨f,ef,rfl⟩
       have eacc:acc=fs.map (WI m cs):=by
        apply List.ext_getElem?
        intro n
        rw [List.getElem?_map]
        cases q:acc[n]? with
        | none =>
          have h1:=List.getElem?_eq_none_iff.mp q
          rw [hl',List.length_map] at h1
          rw [List.getElem?_eq_none_iff.mpr h1]
          rfl
        | some y =>
          obtain ⟨p,ep,rfl⟩:=ha n y q
          rw [ep]
          rfl
       rw [eacc]
       exact h1 fun f hf' q hq=>hpos (q:Int) ((kin _).mpr ⟨f,hf',q,hq,rfl⟩)
def sdR (f:F3i):List (List Int):=[[(f.i:Int),(f.j:Int)],[(f.j:Int),(f.k:Int)],[(f.k:Int),(f.i:Int)]]
def sdsR (fs:List F3i):List (List Int):=fs.flatMap sdR
def CD:List Int->List Int
 | [a,b]=>[b,a]
 | r=>r
theorem RO (fs:List F3i):(sdsR fs).length=3*fs.length:=by
 induction fs with
 | nil=>rfl
 | cons f fs ih =>
   show (sdR f++sdsR fs).length=_
   rw [List.length_append,ih,List.length_cons]
   show 3+_=_
   omega
theorem RN {fs:List F3i}{r:List Int}(h:r∈sdsR fs):∃ (f:F3i) (a b:Nat),f∈fs/\f.has a/\f.has b/\r=[(a:Int),(b:Int)]:=by
 obtain ⟨f,hf,hr⟩:=List.mem_flatMap.mp h
 simp only [sdR,List.mem_cons,List.not_mem_nil,or_false] at hr
 rcases hr with rfl|rfl|rfl
 · exact ⟨f,f.i,f.j,hf,.inl rfl,.inr (.inl rfl),rfl⟩
 · exact ⟨f,f.j,f.k,hf,.inr (.inl rfl),.inr (.inr rfl),rfl⟩
 · exact ⟨f,f.k,f.i,hf,.inr (.inr rfl),.inl rfl,rfl⟩
structure Cnt (L:List (List Int))(ks:List (List Int))(xs:List D):Prop where
 len:ks.length=xs.length
 nd:ks.Nodup
 get:∀ r,Y8 ks xs r=if r∈L then some (.int (L.count r)) else none
 mem:∀ r,r∈ks↔r∈L
theorem Cnt.nil:Cnt [] [] []:=⟨rfl,List.nodup_nil,fun r=>by simp [Y8],fun r=>Iff.rfl⟩
theorem Cnt.add {L ks:List (List Int)}{xs:List D}(h:Cnt L ks xs)(n:List Int):Cnt (L++[n]) (DY ks xs n (.int (L.count n+1))).1 (DY ks xs n (.int (L.count n+1))).2:=by
 refine ⟨J1p ks xs h.len,UU h.nd,fun r=>?_,fun r=>?_⟩
 · rw [YN ks xs h.len,h.get r]
   by_cases e:n=r
   · subst e
     rw [if_pos rfl,if_pos (by simp),List.count_append,List.count_singleton]
     simp
   · rw [if_neg e]
     by_cases m:r∈L
     · rw [if_pos m,if_pos (List.mem_append_left _ m),List.count_append,List.count_singleton,if_neg (by simpa using e)]
       rfl
     · rw [if_neg m,if_neg (fun z=>(List.mem_append.mp z).elim m fun y=>e (List.mem_singleton.mp y).symm)]
 · rw [MT]
   by_cases q:n∈ks
   · rw [if_pos q,h.mem r]
     constructor
     · exact fun m=>List.mem_append_left _ m
     · intro m
       rcases List.mem_append.mp m with m|m
       · exact m
       · rw [List.mem_singleton.mp m];exact (h.mem n).mp q
   · rw [if_neg q,List.mem_append,List.mem_append,h.mem r]
theorem Cnt.getD {L ks:List (List Int)}{xs:List D}(h:Cnt L ks xs)(r:List Int):(Y8 ks xs r).getD (.int 0)=.int (L.count r):=by
 rw [h.get r]
 by_cases m:r∈L
 · rw [if_pos m];rfl
 · rw [if_neg m,List.count_eq_zero_of_not_mem m];rfl
theorem Cnt.small {L ks:List (List Int)}{xs:List D}(h:Cnt L ks xs):ks.length<=L.length:=by
 have:∀ (ks L:List (List Int)),ks.Nodup->(∀ r∈ks,r∈L)->ks.length<=L.length:=by
  intro ks
  induction ks with
  | nil=>exact fun _ _ _=>Nat.zero_le _
  | cons k ks ih =>
    intro L nd h
    have hk:=h k (List.mem_cons_self ..)
    have:=ih (L.erase k) (List.nodup_cons.mp nd).2 fun r hr=>(List.mem_erase_of_ne (fun (z:r=k)=>(List.nodup_cons.mp nd).1 (by rw [<- z];exact hr))).mpr (h r (List.mem_cons_of_mem _ hr))
    rw [List.length_erase_of_mem hk] at this
    have:=List.length_pos_of_mem hk
    rw [List.length_cons]
    omega
 exact this ks L h.nd fun r hr=>(h.mem r).mp hr
def CW (L:List (List Int))(r:List Int):Nat:=L.count r - L.count (CD r)
def CY (L ks:List (List Int)):List (List Int):=ks.flatMap fun r=>List.replicate (CW L r) r
theorem II {L:List (List Int)}:∀ {ks:List (List Int)},ks.Nodup->∀ r,(CY L ks).count r=if r∈ks then CW L r else 0
 | [],_,r=>by simp [CY]
 | k::ks,nd,r=>by
   obtain ⟨n1,n2⟩:=List.nodup_cons.mp nd
   have ih:=II (L:=L) n2 r
   show (List.replicate (CW L k) k++CY L ks).count r=_
   rw [List.count_append,ih,List.count_replicate]
   by_cases e:k=r
   · subst e
     rw [if_neg n1,if_pos (by simp)]
     simp
   · have e2:¬ r=k:=fun z=>e z.symm
     simp [e,e2]
theorem MN:∀ {ks:List (List Int)} (L:List (List Int)),ks.Nodup->(ks.map fun k=>L.count k).sum<=L.length
 | [],L,_=>Nat.zero_le _
 | k::ks,L,nd=>by
   obtain ⟨n1,n2⟩:=List.nodup_cons.mp nd
   have ih:=MN (ks:=ks) (L.filter fun x=>x != k) n2
   have e1:(ks.map fun q=>(L.filter fun x=>x != k).count q)=ks.map fun q=>L.count q:=List.map_congr_left fun q hq=>by
    have:q≠k:=fun z=>n1 (z▸hq)
    rw [List.count_filter (by simpa using this)]
   rw [e1] at ih
   have e2:(L.filter fun x=>x != k).length+L.count k=L.length:=by
    have h1:=List.length_eq_countP_add_countP (fun x=>x != k) (l:=L)
    have h2:L.count k=L.countP (fun a=>decide (¬ (a != k)=true)):=by
     unfold List.count
     refine List.countP_congr fun x _=>?_
     simp
    rw [List.countP_eq_length_filter] at h1
    omega
   rw [List.map_cons,List.sum_cons]
   omega
theorem ND {L ks:List (List Int)}(nd:ks.Nodup):(CY L ks).length<=L.length:=by
 refine Nat.le_trans ?_ (MN L nd)
 clear nd
 induction ks with
 | nil=>exact Nat.zero_le _
 | cons k ks ih =>
   show (List.replicate (CW L k) k++CY L ks).length<=_
   rw [List.length_append,List.length_replicate,List.map_cons,List.sum_cons]
   have:CW L k<=L.count k:=Nat.sub_le ..
   omega
theorem VH {L ks:List (List Int)}{i:Nat}{r:List Int}(e:ks[i]?=some r):CY L (ks.take (i+1))=CY L (ks.take i)++List.replicate (CW L r) r:=by
 unfold CY
 rw [List.take_add_one,e,Option.toList_some,List.flatMap_append]
 simp
structure Lack (fs:List F3i)(rows:List (List Int)):Prop where
 srt:rows.Pairwise (fun x y=>BI 0 x<=BI 0 y)
 cnt:∀ r,rows.count r=CW (sdsR fs) r
theorem SR {fs:List F3i}{rows:List (List Int)}(h:Lack fs rows){r:List Int}(m:r∈rows):r∈sdsR fs:=by
 have h1:=h.cnt r
 have h2:=List.count_pos_iff.mpr m
 apply Decidable.byContradiction
 intro n
 have:=List.count_eq_zero_of_not_mem n
 unfold CW at h1
 omega
theorem GH {fs:List F3i}{n:Nat}(hn:n<=1000)(hi:∀ f∈fs,∀ q,f.has q->q<n){r:List Int}(m:r∈sdsR fs):r.length=2/\∀ z∈r,BA z:=by
 obtain ⟨f,a,b,hf,ha,hb,rfl⟩:=RN m
 have:=hi f hf a ha
 have:=hi f hf b hb
 refine ⟨rfl,fun z hz=>?_⟩
 simp only [List.mem_cons,List.not_mem_nil,or_false] at hz
 unfold BA
 omega
theorem SQ {fs:List F3i}{n:Nat}(hn:n<=1000)(hi:∀ f∈fs,∀ q,f.has q->q<n){xs ys:List (List Int)}(hx:Lack fs xs)(hy:Lack fs ys):xs=ys:=by
 have hp:xs.Perm ys:=List.perm_iff_count.mpr fun r=>by rw [hx.cnt,hy.cnt]
 refine List.Perm.eq_of_pairwise (le:=fun r s=>BI 0 r<=BI 0 s) (fun a b ha hb h1 h2=>?_) hx.srt hy.srt hp
 have a1:=GH hn hi (SR hx ha)
 have b1:=GH hn hi (SR hy hb)
 exact (TN a b 0 0 (by rw [a1.1,b1.1]) a1.2 b1.2 (Int.le_antisymm h1 h2)).2
theorem HU (rows:List (List Int)):EK (rows.map DX)=true:=by
 induction rows with
 | nil=>rfl
 | cons r rows ih =>
   rw [List.map_cons]
   unfold EK
   rw [ih]
   have:noL (DX r)=true:=by
    unfold DX noL
    induction r with
    | nil=>rfl
    | cons a r ih=>rw [List.map_cons];unfold EK;rw [ih];rfl
   rw [this];rfl
theorem NM (rows:List (List Int)):DB 2 (rows.map DX)=true:=by
 induction rows with
 | nil=>rfl
 | cons r rows ih =>
   rw [List.map_cons]
   unfold DB
   rw [ih]
   have:BE 2 (DX r)=true:=by
    unfold DX BE
    induction r with
    | nil=>rfl
    | cons a r ih=>rw [List.map_cons];unfold DB;rw [ih];rfl
   rw [this];rfl
theorem J6j (n:Nat)(d:D):(List.replicate n [d]).flatten=List.replicate n d:=by
 induction n with
 | zero=>rfl
 | succ n ih=>rw [List.replicate_succ,List.flatten_cons,ih,List.replicate_succ];rfl
abbrev GE:Stmt:=top 23
theorem AF:FnScope ["face","i","j","k"] ["face"] (J4 GE):=⟨rfl,rfl,rfl,by decide +kernel,rfl,by decide +kernel,by decide +kernel⟩
def Q7c:DSp:=fun ds P _=>∃ f:F3i,ds=[f.d]/\P (.lst ((sdR f).map DX))
theorem SD {f:Addr} (F:Fun K "sides_of" "sides_of" GE f fd) (Z:Bi mg) {c:Cs} (Y:Ex K mg base c):FnOk P w K mg base CX0 1 f fd ["face"] (J7 K BT Q7c):=by
 refine F.okD AF (fun ds PP Ed h=>?_) (fun cdv A outer s H E M bg ds PP Ed hr hS_=>?_)
 · obtain ⟨f_,rfl,hP⟩:=h
   rfl
 · obtain ⟨f_,rfl,hP⟩:=hS_
   refine ⟨_,(J5 (CM (CC [1,2,3]) (jdv 0) (PG.or (AV (n:=3) K (by rfl) (by rfl) (J6 (pg_name (i:=1) AF.nd rfl (by walk_at "o")) (J6 (pg_name (i:=2) AF.nd rfl (by walk_at "o")) (J6 (pg_name (i:=3) AF.nd rfl (by walk_at "o")) V6)))) (AW (n:=3) K (by rfl) (by rfl) (J6 (pg_name (i:=1) AF.nd rfl (by walk_at "o")) (J6 (pg_name (i:=2) AF.nd rfl (by walk_at "o")) (J6 (pg_name (i:=3) AF.nd rfl (by walk_at "o")) V6))))))
    (J8 (Q8 (AX (J0 (V1 (J0 (jdv 1) (J0 (jdv 2) J1))) (J0 (V1 (J0 (jdv 2) (J0 (jdv 3) J1))) (J0 (V1 (J0 (jdv 3) (J0 (jdv 1) J1))) J1))))))),?_⟩
   walk_at "g"
   exact hP
abbrev KC:Stmt:=top 24
theorem YK:FnScope ["pair"] ["pair"] (J4 KC):=⟨rfl,rfl,rfl,by decide +kernel,rfl,by decide +kernel,by decide +kernel⟩
def Q0c:DSp:=fun ds P _=>∃ a b:Int,ds=[t2 a b]/\P (t2 b a)
theorem YT {f:Addr} (F:Fun K "fellow" "fellow" KC f fd) (Z:Bi mg) {c:Cs} (Y:Ex K mg base c):FnOk P w K mg base CX0 1 f fd ["pair"] (J7 K BT Q0c):=by
 refine F.okD YK (fun ds PP Ed h=>?_) (fun cdv A outer s H E M bg ds PP Ed hr hS_=>?_)
 · obtain ⟨a,b,rfl,hP⟩:=h
   rfl
 · obtain ⟨a,b,rfl,hP⟩:=hS_
   refine ⟨_,(J8 (Q8 (V1 (J0 (Q7 (Q9 K (by rfl)) V4 (jdv 0) J3 (fun _ _=>rfl)) (J0 (Q7 (Q9 K (by rfl)) V4 (jdv 0) J3 (fun _ _=>rfl)) J1))))),?_⟩
   walk_at "g"
   exact hP
abbrev DN:Stmt:=top 25
theorem BJ:FnScope ["faces","counts","face","pair"] ["faces"] (J4 DN):=⟨rfl,rfl,rfl,by decide +kernel,rfl,by decide +kernel,by decide +kernel⟩
def J5j:DSp:=fun ds P _=>∃ fs:List F3i,ds=[.lst (fs.map F3i.d)]/\fs.length<=300/\∀ t ks xs,Cnt (sdsR fs) ks xs->P (.dct t ks xs)
theorem J1d {fs:List F3i}{i:Nat}{f:F3i}(e:fs[i]?=some f):sdsR (fs.take (i+1))=sdsR (fs.take i)++sdR f:=by
 unfold sdsR
 rw [List.take_add_one,e,Option.toList_some,List.flatMap_append]
 simp
structure C_side_counts (P:Program)(w:World)(K:Fg)(mg:Str->Option Value)(base:Heap)(c:Cs):Prop where
 sides_of_:Callee P w K mg base CX0 "sides_of" 1 ["face"] (J7 K BT Q7c)
theorem KI {f:Addr} (F:Fun K "side_counts" "side_counts" DN f fd) (Z:Bi mg) {c:Cs} (Y:Ex K mg base c) (G:C_side_counts P w K mg base c):FnOk P w K mg base CX0 2 f fd ["faces"] (J7 K BT J5j):=by
 refine F.okD BJ (fun ds PP Ed h=>?_) (fun cdv A outer s H E M bg ds PP Ed hr hS_=>?_)
 · obtain ⟨fs,rfl,hl,hP⟩:=h
   rfl
 · obtain ⟨fs,rfl,hl,hP⟩:=hS_
   refine ⟨_,(J5 (ZE (i:=1) BJ.nd rfl (by walk_at "o"))
    (J5 (DK (V3 2) PassesOwn.never rfl (Z2 (by rfl) (jdv 0)) (pg_name (i:=2) BJ.nd rfl (by walk_at "o")) (J8 (DK (V3 3) PassesOwn.never rfl (Z2 (by rfl) (Q0 G.sides_of_ hr.m rfl (J0 (jdv 2) J1))) (pg_name (i:=3) BJ.nd rfl (by walk_at "o")) (J8 (J3i (i:=1) (by rfl) (V0 EI AT (SZ (i:=1) (by rfl) hr.units (jdv 3) J3 rfl (by walk_at "v") ⟨rfl,rfl,rfl,rfl⟩) J3) (UX (pv 1) (JE.h (jdv 3)) (J6f K (by rfl) hr.units)))))))
    (ZD 1 (J8 (Q8 (jdv 1)))))),?_⟩
   walk_at "g"
   intro a t
   walk_at "g"
   refine ⟨fun i ρ=>∃ a t ks xs v2 v3,ρ=[some (.lst (fs.map F3i.d)),some (dcg K a t ks xs),v2,v3]/\Cnt (sdsR (fs.take i)) ks xs,⟨a,t,[],[],_,_,rfl,Cnt.nil⟩,?_,?_⟩
   · rintro i x ρ e ⟨a,t,ks,xs,v2,v3,rfl,hc⟩
     obtain ⟨f_,ef,rfl⟩:=LB e
     have hi:i<fs.length:=(List.getElem?_eq_some_iff.mp ef).1
     rw [J1d ef]
     have hz:(sdsR (fs.take i)).length<=900:=by rw [RO,List.length_take];omega
     generalize sdsR (fs.take i)=L at *
     walk_at "g"
     refine ⟨f_,rfl,?_⟩
     walk_at "g"
     refine ⟨fun n ρ=>∃ a t ks xs v3,ρ=[some (.lst (fs.map F3i.d)),some (dcg K a t ks xs),some f_.d,v3]/\Cnt (L++(sdR f_).take n) ks xs,⟨a,t,ks,xs,_,rfl,by rw [List.take_zero,List.append_nil];exact hc⟩,?_,?_⟩
     · rintro n y ρ e2 ⟨a,t,ks,xs,v3,rfl,hc⟩
       obtain ⟨r,er,rfl⟩:=LB e2
       have hn:n<3:=(List.getElem?_eq_some_iff.mp er).1
       have es:(sdR f_).take (n+1)=(sdR f_).take n++[r]:=by rw [List.take_add_one,er,Option.toList_some]
       rw [es,<- List.append_assoc]
       have hz:ks.length<1000:=by
        have:=hc.small
        rw [List.length_append,List.length_take] at this
        have:(sdR f_).length=3:=rfl
        omega
       obtain ⟨p,q,rfl⟩:∃ p q:Int,r=[p,q]:=by
        have:=List.mem_of_getElem? er
        simp only [sdR,List.mem_cons,List.not_mem_nil,or_false] at this
        rcases this with rfl|rfl|rfl<;>exact ⟨_,_,rfl⟩
       generalize L++(sdR f_).take n=L' at *
       walk_at "g"
       refine ⟨a,t,ks,xs,rfl,?_⟩
       walk_at "g"
       refine ⟨_,t,ks,xs,rfl,.inr ⟨a,rfl⟩,?_⟩
       walk_at "g"
       refine ⟨[p,q],rfl,?_⟩
       walk_at "g"
       rw [hc.getD]
       walk_at "g"
       refine ⟨[p,q],rfl,hz,fun t'=>?_⟩
       walk_at "g"
       exact ⟨a,t',_,_,_,rfl,hc.add _⟩
     · rintro ρ ⟨a,t,ks,xs,v3,rfl,hc⟩
       have e3:(sdR f_).take ((sdR f_).map DX).length=sdR f_:=rfl
       rw [e3] at hc
       exact ⟨a,t,ks,xs,_,_,rfl,hc⟩
   · rintro ρ ⟨a,t,ks,xs,v2,v3,rfl,hc⟩
     rw [List.length_map,List.take_length] at hc
     walk_at "g"
     exact hP t ks xs hc
abbrev FK:Stmt:=top 26
theorem CQ:FnScope ["body","counts","told","pair","more"] ["body"] (J4 FK):=⟨rfl,rfl,rfl,by decide +kernel,rfl,by decide +kernel,by decide +kernel⟩
def IF:DSO:=fun ds P _=>∃ (cs:List D) (fs:List F3i) (n:Nat),ds=[.tup [.lst cs,.lst (fs.map F3i.d)]]/\fs.length<=21/\n<=1000/\(∀ f∈fs,∀ q,f.has q->q<n)/\∀ rows,Lack fs rows->P (rows.map DX)
structure C_lacking (P:Program)(w:World)(K:Fg)(mg:Str->Option Value)(base:Heap)(c:Cs):Prop where
 side_counts_:Callee P w K mg base CX0 "side_counts" 2 ["faces"] (J7 K BT J5j)
 fellow_:Callee P w K mg base CX0 "fellow" 1 ["pair"] (J7 K BT Q0c)
theorem VB {f:Addr} (F:Fun K "lacking" "lacking" FK f fd) (Z:Bi mg) {c:Cs} (Y:Ex K mg base c) (G:C_lacking P w K mg base c):FnOk P w K mg base CX0 3 f fd ["body"] (Y9 K BT IF):=by
 refine F.okDO CQ (fun ds PP Ed h=>?_) (fun cdv A outer s H E M bg ds PP Ed hr hS_=>?_)
 · obtain ⟨cs,fs,n_,rfl,hl,hn_,hi,hP⟩:=h
   rfl
 · obtain ⟨cs,fs,n_,rfl,hl,hn_,hi,hP⟩:=hS_
   refine ⟨_,(J5 (V2 (i:=1) CQ.nd rfl (by walk_at "o") (Q0 G.side_counts_ hr.m rfl (J0 (Q7 (Q9 K (by rfl)) V4 (jdv 0) J3 (fun _ _=>rfl)) J1)))
    (J5 (SV (i:=2) CQ.nd rfl (by walk_at "o") J1)
    (J5 (DK (V3 3) PassesOwn.never rfl (J3m (by rfl) (jdv 1)) (pg_name (i:=3) CQ.nd rfl (by walk_at "o")) (J5 (V2 (i:=4) CQ.nd rfl (by walk_at "o") (V0 AQ AT (Q7 (J7w K (by rfl) hr.units) Q1r (jdv 1) (jdv 3) (fun _ _=>rfl)) (SZ (i:=1) (by rfl) hr.units (Q0 G.fellow_ hr.m rfl (J0 (jdv 3) J1)) J3 rfl (by walk_at "v") ⟨rfl,rfl,rfl,rfl⟩)))
    (J8 (KS (i:=2) (by rfl) (J0 (V0 J2c J2q (AX (J0 (jdv 3) J1)) (Z9 (NU (by rfl)) J9w rfl Z.max_ J5a (J0 (jdv 4) (J0 J3 J1)))) J1) (WP PySem.F.plainAttrs_list PySem.F.slot_list_extend PySem.F.type_list_extend MZ (pv 2) (JA.h (J0 (V0 J2c J2q (AX (J0 (jdv 3) J1)) (Z9 (NU (by rfl)) J9w rfl Z.max_ J5a (J0 (jdv 4) (J0 J3 J1)))) J1)))))))
    (J8 (J3j (NF (X:=(AJ CX0 P w K mg base ["body","counts","told","pair","more"] "lacking" (J4 FK) f cdv A outer s H E).nox) (J0 (jdv 2) J1) (CV (LL K (by rfl) (by rfl)) rfl Z.sorted_ IB (JA.h (J0 (jdv 2) J1))))))))),?_⟩
   walk_at "g"
   refine ⟨fs,rfl,by omega,fun t ks xs hc=>?_⟩
   walk_at "g"
   refine ⟨t,ks,xs,.inl rfl,?_⟩
   have zl:=RO fs
   have sm:=fun {r}=>GH (r:=r) hn_ hi
   have lr:∀ rows:List (List Int),rows.Perm (CY (sdsR fs) ks)->rows.Pairwise (fun x y=>BI 0 x<=BI 0 y)->Lack fs rows:=fun rows p so=>⟨so,fun r=>by
    rw [p.count_eq,II hc.nd]
    by_cases m:r∈ks
    · rw [if_pos m]
    · rw [if_neg m]
      have:(sdsR fs).count r=0:=List.count_eq_zero_of_not_mem fun z=>m ((hc.mem r).mpr z)
      unfold CW
      omega⟩
   have lm:∀ r∈CY (sdsR fs) ks,r∈sdsR fs:=fun r hr=>by
    obtain ⟨k,hk,hr⟩:=List.mem_flatMap.mp hr
    rw [List.eq_of_mem_replicate hr]
    exact (hc.mem k).mp hk
   have zz:=ND (L:=sdsR fs) hc.nd
   generalize sdsR fs=L at *
   refine ⟨fun i ρ=>∃ v3 v4,ρ=[some (.tup [.lst cs,.lst (fs.map F3i.d)]),some (.dct t ks xs),some (.own ((CY L (ks.take i)).map DX)),v3,v4],⟨_,_,rfl⟩,?_,?_⟩
   · rintro i x ρ e ⟨v3,v4,rfl⟩
     have e':(ER ks)[i]?=some x:=e
     unfold ER at e'
     rw [List.getElem?_map] at e'
     obtain ⟨r,er,rfl⟩:=Option.map_eq_some_iff.mp e'
     have rm:r∈L:=(hc.mem r).mp (List.mem_of_getElem? er)
     obtain ⟨p,q,rfl⟩:∃ p q:Int,r=[p,q]:=by
      have:=(sm rm).1
      match r,this with
      | [p,q],_=>exact ⟨p,q,rfl⟩
     have g1:Y8 ks xs [p,q]=some (.int (L.count [p,q])):=by rw [hc.get,if_pos rm]
     have tk:(CY L (ks.take i)).length<=L.length:=ND (List.Sublist.nodup (List.take_sublist i ks) hc.nd)
     have nk:CW L [p,q]<=L.length:=Nat.le_trans (Nat.sub_le ..) List.count_le_length
     have nm:((fun i j=>if j>i then j else i) ((L.count [p,q]:Int) - (L.count [q,p]:Int)) 0:Int)=(CW L [p,q]:Int):=by
      dsimp only
      show _=((L.count [p,q] - L.count [q,p]:Nat):Int)
      split<;>omega
     clear e e'
     walk_at "g"
     refine ⟨t,ks,xs,[p,q],_,.inl rfl,rfl,g1,?_⟩
     walk_at "g"
     refine ⟨_,t,ks,xs,rfl,.inl rfl,?_⟩
     walk_at "g"
     refine ⟨p,q,rfl,?_⟩
     walk_at "g"
     refine ⟨[q,p],rfl,?_⟩
     walk_at "g"
     rw [hc.getD]
     walk_at "g"
     rw [nm]
     refine And.intro ⟨by omega,by omega,by rw [Int.toNat_natCast];simp;omega⟩ ?_
     rw [Int.toNat_natCast]
     walk_at "g"
     refine And.intro (by simp;omega) ?_
     rw [VH er]
     exact ⟨_,_,by rw [J6j,List.map_append,List.map_replicate];rfl⟩
   · rintro ρ ⟨v3,v4,rfl⟩
     walk_at "g"
     have e3:(CY L (List.take ((fun ks x=>ER ks) ks xs).length ks))=CY L ks:=by
      show CY L (ks.take (ER ks).length)=_
      unfold ER
      rw [List.length_map,List.take_length]
     rw [e3]
     exact ⟨_,2,rfl,by decide,by omega,fun r hr=>sm (lm r hr),fun rows' p so=>hP rows' (lr rows' p so)⟩
abbrev EW:Stmt:=top 27
theorem ON:FnScope ["body"] ["body"] (J4 EW):=⟨rfl,rfl,rfl,by decide +kernel,rfl,by decide +kernel,by decide +kernel⟩
def Q0b:DSp:=fun ds P _=>∃ (cs:List D) (fs:List F3i) (n:Nat),ds=[.tup [.lst cs,.lst (fs.map F3i.d)]]/\fs.length<=21/\n<=1000/\(∀ f∈fs,∀ q,f.has q->q<n)/\∀ rows,Lack fs rows->P (.bl rows.isEmpty)
structure C_is_closed (P:Program)(w:World)(K:Fg)(mg:Str->Option Value)(base:Heap)(c:Cs):Prop where
 lacking_:Callee P w K mg base CX0 "lacking" 3 ["body"] (Y9 K BT IF)
theorem PB {f:Addr} (F:Fun K "is_closed" "is_closed" EW f fd) (Z:Bi mg) {c:Cs} (Y:Ex K mg base c) (G:C_is_closed P w K mg base c):FnOk P w K mg base CX0 4 f fd ["body"] (J7 K BT Q0b):=by
 refine F.okD ON (fun ds PP Ed h=>?_) (fun cdv A outer s H E M bg ds PP Ed hr hS_=>?_)
 · obtain ⟨cs,fs,n_,rfl,hl,hn_,hi,hP⟩:=h
   rfl
 · obtain ⟨cs,fs,n_,rfl,hl,hn_,hi,hP⟩:=hS_
   refine ⟨_,(J8 (Q8 (HD (J2j K (by rfl) hr.units) PH (KU G.lacking_ hr.m rfl (J0 (jdv 0) J1)) (AX J1) (Y0 _)))),?_⟩
   walk_at "g"
   refine ⟨cs,fs,n_,rfl,hl,hn_,hi,fun rows lk=>?_⟩
   have hP:=hP rows lk
   refine ⟨HU rows,?_⟩
   walk_at "g"
   refine TM 2 (NM rows) ?_
   have e:((rows.map DX).isEmpty != false)=rows.isEmpty:=by cases rows<;>rfl
   rw [e]
   walk_at "g"
   exact hP
theorem Q1w (cs:List R3):EK (cs.map R3.d)=true:=noLs_all fun d hd=>by
 obtain ⟨t,_,rfl⟩:=List.mem_map.mp hd
 rfl
theorem Q1x (fs:List F3i):EK (fs.map F3i.d)=true:=noLs_all fun d hd=>by
 obtain ⟨t,_,rfl⟩:=List.mem_map.mp hd
 rfl
theorem Q1y (cs:List R3)(fs:List F3i):∀ r∈[cs.map R3.d,fs.map F3i.d],EK r=true:=fun r hr=>by
 rcases List.mem_cons.mp hr with rfl|hr
 · exact Q1w cs
 · rw [List.mem_singleton.mp hr]
   exact Q1x fs
def F3i.flip (f:F3i):F3i:=⟨f.i,f.k,f.j⟩
def flD:D->D
 | .tup [a,b,c]=>.tup [a,c,b]
 | d=>d
theorem J8a (fs:List F3i):(fs.map F3i.d).map flD=(fs.map F3i.flip).map F3i.d:=by
 rw [List.map_map,List.map_map]
 exact List.map_congr_left fun f _=>rfl
theorem HY (r:List Int):CD (CD r)=r:=by
 match r with
 | []=>rfl
 | [_]=>rfl
 | [_,_]=>rfl
 | _::_::_::_=>rfl
theorem BF (L:List (List Int))(r:List Int):(L.map CD).count r=L.count (CD r):=by
 induction L with
 | nil=>rfl
 | cons k L ih =>
   rw [List.map_cons,List.count_cons,List.count_cons,ih]
   have:(CD k==r)=(k==CD r):=by
    rw [Bool.eq_iff_iff]
    simp only [beq_iff_eq]
    exact ⟨fun h=>by rw [<- h,HY],fun h=>by rw [h,HY]⟩
   rw [this]
theorem JV (fs:List F3i):(sdsR (fs.map F3i.flip)).Perm ((sdsR fs).map CD):=by
 induction fs with
 | nil=>exact List.Perm.refl _
 | cons f fs ih =>
   show (sdR f.flip++sdsR (fs.map F3i.flip)).Perm ((sdR f++sdsR fs).map CD)
   rw [List.map_append]
   refine List.Perm.append ?_ ih
   show List.Perm [[(f.i:Int),(f.k:Int)],[(f.k:Int),(f.j:Int)],[(f.j:Int),(f.i:Int)]] ([[(f.j:Int),(f.i:Int)],[(f.k:Int),(f.j:Int)],[(f.i:Int),(f.k:Int)]])
   exact (List.reverse_perm _).symm
theorem J4d {fs:List F3i}{n:Nat}(hi:∀ f∈fs,∀ q,f.has q->q<n):∀ f∈fs.map F3i.flip,∀ q,f.has q->q<n:=fun f hf q hq=>by
 obtain ⟨f0,h0,rfl⟩:=List.mem_map.mp hf
 refine hi f0 h0 q ?_
 rcases hq with z|z|z
 · exact .inl z
 · exact .inr (.inr z)
 · exact .inr (.inl z)
def Z3 (fs:List F3i):Prop:=∀ r,(sdsR fs).count r=(sdsR fs).count (CD r)
theorem UB {fs:List F3i}(h:Z3 fs):Lack fs []:=⟨List.Pairwise.nil,fun r=>by
 unfold CW
 rw [h r]
 simp⟩
theorem UD {fs:List F3i}(h:Z3 fs):Z3 (fs.map F3i.flip):=fun r=>by
 rw [(JV fs).count_eq,(JV fs).count_eq,BF,BF]
 exact h _
theorem EU (f:F3i)(fs:List F3i):sdsR (f::fs)=sdR f++sdsR fs:=rfl
theorem CO (xs ys:List F3i):sdsR (xs++ys)=sdsR xs++sdsR ys:=List.flatMap_append
structure F3i.un (f:F3i):Prop where
 ij:f.i≠f.j
 jk:f.j≠f.k
 ki:f.k≠f.i
theorem J1e {f:F3i}(u:f.un)(r:List Int):(sdR f).count r+(sdR f).count (CD r)<=1:=by
 have a1:=u.ij
 have a2:=u.jk
 have a3:=u.ki
 unfold sdR
 simp only [List.count_cons,List.count_nil,beq_iff_eq]
 match r with
 | []=>simp [CD]
 | [_]=>simp [CD]
 | _::_::_::_=>simp [CD]
 | [p,q] =>
   show _+_+(0+(if _=[q,p] then 1 else 0)+(if _=[q,p] then 1 else 0)+(if _=[q,p] then 1 else 0))<=1
   simp only [List.cons.injEq,and_true]
   repeat' split
   all_goals omega
theorem ZM {xs ys:List F3i}{f:F3i}(u:f.un)(h:Z3 (xs++f::ys)){rows:List (List Int)}(p:rows.Perm ((sdR f).map CD))(so:rows.Pairwise (fun x y=>BI 0 x<=BI 0 y)):Lack (xs++ys) rows:=⟨so,fun r=>by
 rw [p.count_eq,BF]
 unfold CW
 have h:=h r
 rw [CO,EU,List.count_append,List.count_append,List.count_append,List.count_append] at h
 rw [CO,List.count_append,List.count_append]
 have:=J1e u r
 omega⟩
theorem WJ (f:F3i):(sdR f.flip).Perm ((sdR f).map CD):=by
 have:=JV [f]
 simpa [sdsR] using this
theorem NR {fs:List F3i}(σ:Nat->Int)(L:List (Nat×Nat))(h:(L.map Prod.swap).Perm L)(e:sdsR fs=L.map fun p=>[σ p.1,σ p.2]):Z3 fs:=fun r=>by
 rw [<- BF,e,List.map_map]
 have:(CD∘fun p:Nat×Nat=>[σ p.1,σ p.2])=(fun p:Nat×Nat=>[σ p.1,σ p.2])∘Prod.swap:=rfl
 rw [this,<- List.map_map]
 exact ((h.map _).count_eq r).symm
theorem UC (i j k t:Nat):Z3 [⟨i,k,j⟩,⟨i,j,t⟩,⟨j,k,t⟩,⟨k,i,t⟩] :=
 NR (fun n=>match n with|0=>(i:Int)|1=>(j:Int)|2=>(k:Int)|_=>(t:Int)) [(0,2),(2,1),(1,0),(0,1),(1,3),(3,0),(1,2),(2,3),(3,1),(2,0),(0,3),(3,2)] (by decide) rfl
theorem UA {xs ys:List F3i}{f:F3i}(n:Nat)(h:Z3 (xs++f::ys)):Z3 (xs++ys++[⟨f.i,f.j,n⟩,⟨f.j,f.k,n⟩,⟨f.k,f.i,n⟩]):=fun r=>by
 have b:Z3 [⟨f.i,f.k,f.j⟩,⟨f.i,f.j,n⟩,⟨f.j,f.k,n⟩,⟨f.k,f.i,n⟩]:=UC f.i f.j f.k n
 have h:=h r
 have b:=b r
 rw [CO,EU,List.count_append,List.count_append,List.count_append,List.count_append] at h
 rw [EU,List.count_append,List.count_append] at b
 rw [CO,CO,List.count_append,List.count_append,List.count_append,List.count_append]
 have e:(⟨f.i,f.k,f.j⟩:F3i)=f.flip:=rfl
 rw [e,(WJ f).count_eq,(WJ f).count_eq,BF,BF,HY] at b
 omega
abbrev CI:Stmt:=top 28
theorem AR:FnScope ["body","corners","faces"] ["body"] (J4 CI):=⟨rfl,rfl,rfl,by decide +kernel,rfl,by decide +kernel,by decide +kernel⟩
def Q7e (K:Fg):J0c:=fun ds P _=>∃ (xs:List D) (fs:List F3i),ds=[.tup [.lst xs,.lst (fs.map F3i.d)]]/\fs.length<=42/\∀ p rs,P (tpF K p rs [xs,(fs.map F3i.flip).map F3i.d]) (.tup ([xs,(fs.map F3i.flip).map F3i.d].map D.lst))
abbrev xc8 (P:Program) (w:World) (K:Fg) (mg:Str → Option Value) (base:Heap) (f:Addr) (cdv:Value) (A:Around) (outer:List Env) (s:Shared) (H:Hp) (E:XK):Cx:=AJ (CX1 P w base) P w K mg base ["body","corners","faces"] "inside_out" (J4 CI) f cdv A outer s H E
abbrev QP:List Str:=["i","j","k"]
theorem LV {f:Addr} (F:Fun K "inside_out" "inside_out" CI f fd) (Z:Bi mg) {c:Cs} (Y:Ex K mg base c):FnOk P w K mg base (CX1 P w base) 1 f fd ["body"] (BP K BT (Q7e K)):=by
 refine F.okDXP AR (fun ds PP Ed h=>?_) (fun cdv A outer s H E M bg ds PP Ed hr hE hS_=>?_)
 · obtain ⟨xs,fs,rfl,hl,hP⟩:=h
   rfl
 · obtain ⟨xs,fs,rfl,hl,hP⟩:=hS_
   refine ⟨_,(J3g (CM (CC [1,2]) (jdv 0) (PG.or (AV (n:=2) K (by rfl) (by rfl) (J6 (pg_name (i:=1) AR.nd rfl (by walk_at "o")) (J6 (pg_name (i:=2) AR.nd rfl (by walk_at "o")) V6))) (AW (n:=2) K (by rfl) (by rfl) (J6 (pg_name (i:=1) AR.nd rfl (by walk_at "o")) (J6 (pg_name (i:=2) AR.nd rfl (by walk_at "o")) V6)))))
    (ZC (Z7 (JF.h (J3n (J0 (jdv 1) J1) (MW (FX K (by rfl)) rfl Z.list_ XO (JA.h (J0 (jdv 1) J1))))) (Z7 (JF.h (J3o (X:=(xc8 P w K mg base f cdv A outer s H E)) (CC [0,1,2]) (GQ (X:=(xc8 P w K mg base f cdv A outer s H E)) (N':=QP) (map:=[none,none,none]) (by rfl) (by rfl) (by decide +kernel) (by rfl) True.intro (gkeep_seq (js:=[0,1,2]) (by decide)) fun cl0 C0 fp0 s0 H0=>⟨(PG.or (AV (n:=3) K (by rfl) (by rfl) (J6 (pg_name (i:=0) (Y2 QP (by decide +kernel)) rfl (by walk_at "o")) (J6 (pg_name (i:=1) (Y2 QP (by decide +kernel)) rfl (by walk_at "o")) (J6 (pg_name (i:=2) (Y2 QP (by decide +kernel)) rfl (by walk_at "o")) V6)))) (AW (n:=3) K (by rfl) (by rfl) (J6 (pg_name (i:=0) (Y2 QP (by decide +kernel)) rfl (by walk_at "o")) (J6 (pg_name (i:=1) (Y2 QP (by decide +kernel)) rfl (by walk_at "o")) (J6 (pg_name (i:=2) (Y2 QP (by decide +kernel)) rfl (by walk_at "o")) V6))))),Y6,(V1 (X:=(J9 (xc8 P w K mg base f cdv A outer s H E) QP _ cl0 C0 fp0 s0 H0)) (J0 (jdv 0) (J0 (jdv 2) (J0 (jdv 1) J1))))⟩) (Z2 (by rfl) (jdv 2)))) BY)))),?_⟩
   walk_at "g"
   refine And.intro (by rw [List.length_map];omega) ?_
   refine TX flD (fun x Q hx hQ=>?_) (fun x hx=>?_) ?_
   · obtain ⟨f,_,rfl⟩:=List.mem_map.mp hx
     walk_at "g"
     exact hQ
   · obtain ⟨f,_,rfl⟩:=List.mem_map.mp hx
     rfl
   rw [J8a]
   exact hP
theorem WE (G:List Int->Int)(hG:∀ r,G (CD r) = -G r\/r.length≠2):∀ L:List (List Int),(∀ r∈L,r.length=2)->((L.map CD).map G).sum = -(L.map G).sum
 | [],_=>rfl
 | r::L,h=>by
   have ih:=WE G hG L fun x hx=>h x (List.mem_cons_of_mem _ hx)
   have e:=(hG r).resolve_right fun z=>z (h r (List.mem_cons_self ..))
   simp only [List.map_cons,List.sum_cons] at ih ⊢
   rw [ih,e]
   omega
theorem J0t {l m:List Int}(h:l.Perm m):l.sum=m.sum:=by
 induction h with
 | nil=>rfl
 | cons x _ ih=>simp only [List.sum_cons,ih]
 | swap x y l=>simp only [List.sum_cons];omega
 | trans _ _ h1 h2=>exact h1.trans h2
theorem TZ {fs:List F3i}(h:Z3 fs)(G:List Int->Int)(hG:∀ r,G (CD r) = -G r\/r.length≠2):((sdsR fs).map G).sum=0:=by
 have l2:∀ r∈sdsR fs,r.length=2:=fun r hr=>by
  obtain ⟨f,a,b,_,_,_,rfl⟩:=RN hr
  rfl
 have p:((sdsR fs).map CD).Perm (sdsR fs):=List.perm_iff_count.mpr fun r=>by rw [BF];exact (h r).symm
 have e1:=WE G hG (sdsR fs) l2
 have e2:=J0t (p.map G)
 omega
def J0y (q:Int->R4)(px py:Int):List Int->Int
 | [a,b]=>(tri (q a) (q b) ⟨0,0,0,1⟩).sg px py
 | _=>0
theorem ZX {fs:List F3i}(h:Z3 fs)(q:Int->R4)(hw:∀ n,0<(q n).w)(px py:Int):(fs.map fun f=>(tri (q f.i) (q f.j) (q f.k)).sg px py).sum=0:=by
 have e0:=TZ h (J0y q px py) fun r=>by
  match r with
  | []=>exact .inr (by simp)
  | [_]=>exact .inr (by simp)
  | _::_::_::_=>exact .inr (by simp)
  | [a,b] =>
    refine .inl ?_
    show (tri (q b) (q a) ⟨0,0,0,1⟩).sg px py = -(tri (q a) (q b) ⟨0,0,0,1⟩).sg px py
    rw [<- Q0z (q b) (q a) ⟨0,0,0,1⟩,WG (q a) (q b) ⟨0,0,0,1⟩]
 have e1:∀ fs:List F3i,((sdsR fs).map (J0y q px py)).sum=(fs.map fun f=>(tri (q f.i) (q f.j) (q f.k)).sg px py).sum:=fun fs=>by
  induction fs with
  | nil=>rfl
  | cons f fs ih =>
    rw [EU,List.map_append,List.sum_append,ih,List.map_cons,List.sum_cons]
    rw [J1b (hw f.i) (hw f.j) (hw f.k) (show 0<(⟨0,0,0,1⟩:R4).w by decide)]
    show (_+(_+(_+0)))+_=_
    simp only [J0y]
    omega
 rw [<- e1,e0]
abbrev DQ:Stmt:=top 47
abbrev J5q:List Str:=["_law_bag_here","_law_far"]
theorem KA:FnScope J5q J5q (J4 DQ):=⟨rfl,rfl,rfl,by decide +kernel,rfl,by decide +kernel,by decide +kernel⟩
def R3.s8 (r:R3):Prop:=(-2<=r.x/\r.x<=8)/\(-2<=r.y/\r.y<=8)/\(-2<=r.z/\r.z<=8)
def Q0a:DSp:=fun ds P _=>ds=[.bag,.int 11]/\∀ r:R3,r.s8->P r.d
structure C__law_corner (P:Program)(w:World)(K:Fg)(mg:Str->Option Value)(base:Heap)(c:Cs):Prop where
 _law_digit_:Callee P w K mg base CX0 "_law_digit" 2 xl4 (J7 K BT FU)
theorem KK {f:Addr} (F:Fun K "_law_corner" "_law_corner" DQ f fd) (Z:Bi mg) {c:Cs} (Y:Ex K mg base c) (G:C__law_corner P w K mg base c):FnOk P w K mg base CX0 3 f fd J5q (J7 K BT Q0a):=by
 refine F.okD KA (fun ds PP Ed h=>?_) (fun cdv A outer s H E M bg ds PP Ed hr hS_=>?_)
 · obtain ⟨rfl,hP⟩:=h
   rfl
 · obtain ⟨rfl,hP⟩:=hS_
   refine ⟨_,(J8 (Q8 (V1 (J0 (V0 AQ AT (Q0 G._law_digit_ hr.m rfl (J0 (jdv 0) (J0 (jdv 1) J1))) J3) (J0 (V0 AQ AT (Q0 G._law_digit_ hr.m rfl (J0 (jdv 0) (J0 (jdv 1) J1))) J3) (J0 (V0 AQ AT (Q0 G._law_digit_ hr.m rfl (J0 (jdv 0) (J0 (jdv 1) J1))) J3) J1)))))),?_⟩
   walk_at "g"
   refine ⟨_,64,rfl,by decide,Bd.num _ (by decide),by decide,fun a a0 a1=>?_⟩
   walk_at "g"
   refine ⟨_,64,rfl,by decide,Bd.num _ (by decide),by decide,fun b b0 b1=>?_⟩
   walk_at "g"
   refine ⟨_,64,rfl,by decide,Bd.num _ (by decide),by decide,fun c c0 c1=>?_⟩
   walk_at "g"
   exact hP ⟨a - 2,b - 2,c - 2⟩ ⟨⟨by dsimp only;omega,by dsimp only;omega⟩,⟨by dsimp only;omega,by dsimp only;omega⟩,⟨by dsimp only;omega,by dsimp only;omega⟩⟩
structure CB (cs:List R3)(fs:List F3i):Prop where
 l4:4<=cs.length
 s8:∀ r∈cs,r.s8
 lt:∀ f∈fs,∀ q,f.has q->q<cs.length
 un:∀ f∈fs,f.un
 ne:0<fs.length
 cl:Z3 fs
theorem J5n (Q:R3->Prop):∀ {acc:List D},(∀ y∈acc,∃ t:R3,Q t/\y=t.d)->∃ ts:List R3,acc=ts.map R3.d/\∀ t∈ts,Q t
 | [],_=>⟨[],rfl,by simp⟩
 | y::r,h=>by
   obtain ⟨t,ht,rfl⟩:=h y (by simp)
   obtain ⟨ts,rfl,hts⟩:=J5n Q (acc:=r) fun y' h'=>h y' (List.mem_cons_of_mem _ h')
   exact ⟨t::ts,rfl,fun t' h'=>by
    rcases List.mem_cons.mp h' with rfl|q
    · exact ht
    · exact hts t' q⟩
abbrev bdD (cs:List R3)(fs:List F3i):D:=.tup [.lst (cs.map R3.d),.lst (fs.map F3i.d)]
abbrev AA:Stmt:=top 48
abbrev Q4t:List Str:=["_law_bag_here","_law_most","_law_far","_law_corners","_law_faces","_law_again","_law_i","_law_j","_law_k","_law_new"]
abbrev Q0e:List Str:=["_law_bag_here","_law_most","_law_far"]
theorem Q6:FnScope Q4t Q0e (J4 AA):=⟨rfl,rfl,rfl,by decide +kernel,rfl,by decide +kernel,by decide +kernel⟩
def Q0d:DSp:=fun ds P _=>ds=[.bag,.int 9,.int 11]/\∀ cs fs,CB cs fs->cs.length<=12->fs.length<=20->P (bdD cs fs)
structure C__law_closed_body (P:Program)(w:World)(K:Fg)(mg:Str->Option Value)(base:Heap)(c:Cs):Prop where
 _law_corner_:Callee P w K mg base CX0 "_law_corner" 3 J5q (J7 K BT Q0a)
 _law_digit_:Callee P w K mg base CX0 "_law_digit" 2 xl4 (J7 K BT FU)
abbrev xc9 (P:Program) (w:World) (K:Fg) (mg:Str → Option Value) (base:Heap) (f:Addr) (cdv:Value) (A:Around) (outer:List Env) (s:Shared) (H:Hp) (E:XK):Cx:=AJ CX0 P w K mg base Q4t "_law_closed_body" (J4 AA) f cdv A outer s H E
abbrev J5p:List Str:=["_law_again","_law_bag_here","_law_far"]
theorem FV {f:Addr} (F:Fun K "_law_closed_body" "_law_closed_body" AA f fd) (Z:Bi mg) {c:Cs} (Y:Ex K mg base c) (G:C__law_closed_body P w K mg base c):FnOk P w K mg base CX0 4 f fd Q0e (J7 K BT Q0d):=by
 refine F.okD Q6 (fun ds PP Ed h=>?_) (fun cdv A outer s H E M bg ds PP Ed hr hS_=>?_)
 · obtain ⟨rfl,hP⟩:=h
   rfl
 · obtain ⟨rfl,hP⟩:=hS_
   refine ⟨_,(J5 (SU (X:=(xc9 P w K mg base f cdv A outer s H E).nox) true (i:=3) Q6.nd rfl (by walk_at "o") (V3 0) (GQ (X:=(xc9 P w K mg base f cdv A outer s H E).nox) (N':=J5p) (map:=[none,some 0,some 2]) (by rfl) (by rfl) (by decide +kernel) (by rfl) ⟨⟨rfl,rfl,rfl,by walk_at "o"⟩,⟨⟨rfl,rfl,rfl,by walk_at "o"⟩,True.intro⟩⟩ (gkeep_name rfl) fun cl0 C0 fp0 s0 H0=>⟨(pg_name (X:=(J9 (xc9 P w K mg base f cdv A outer s H E).nox J5p _ cl0 C0 fp0 s0 H0)) (i:=0) (Y2 J5p (by decide +kernel)) rfl (by walk_at "o")),Y6,(Q0 (X:=(J9 (xc9 P w K mg base f cdv A outer s H E).nox J5p _ cl0 C0 fp0 s0 H0)) G._law_corner_ hr.m rfl (J0 (jdv 1) (J0 (jdv 2) J1)))⟩) (AZ rfl Z.range_ (J0 J3 J1)))
    (J5 (SV (i:=4) Q6.nd rfl (by walk_at "o") (J0 (V1 (J0 J3 (J0 J3 (J0 J3 J1)))) (J0 (V1 (J0 J3 (J0 J3 (J0 J3 J1)))) (J0 (V1 (J0 J3 (J0 J3 (J0 J3 J1)))) (J0 (V1 (J0 J3 (J0 J3 (J0 J3 J1)))) J1)))))
    (J5 (DK (V3 5) PassesOwn.never rfl (AZ rfl Z.range_ (J0 (Q0 G._law_digit_ hr.m rfl (J0 (jdv 0) (J0 (jdv 1) J1))) J1)) (pg_name (i:=5) Q6.nd rfl (by walk_at "o")) (J5 (J3l (i:=4) (by rfl) (CC [6,7,8]) (J0 (Q0 G._law_digit_ hr.m rfl (J0 (jdv 0) (J0 (Z9 (Z6 K (by rfl)) IA rfl Z.len_ GP (J0 (jdv 4) J1)) J1))) J1) (PG.or (AV (n:=3) K (by rfl) (by rfl) (J6 (pg_name (i:=6) Q6.nd rfl (by walk_at "o")) (J6 (pg_name (i:=7) Q6.nd rfl (by walk_at "o")) (J6 (pg_name (i:=8) Q6.nd rfl (by walk_at "o")) V6)))) (AW (n:=3) K (by rfl) (by rfl) (J6 (pg_name (i:=6) Q6.nd rfl (by walk_at "o")) (J6 (pg_name (i:=7) Q6.nd rfl (by walk_at "o")) (J6 (pg_name (i:=8) Q6.nd rfl (by walk_at "o")) V6))))) (WP PySem.F.plainAttrs_list PySem.F.slot_list_pop PySem.F.type_list_pop J3a (pv 4) (JA.h (J0 (Q0 G._law_digit_ hr.m rfl (J0 (jdv 0) (J0 (Z9 (Z6 K (by rfl)) IA rfl Z.len_ GP (J0 (jdv 4) J1)) J1))) J1))))
    (J5 (V2 (i:=9) Q6.nd rfl (by walk_at "o") (Z9 (Z6 K (by rfl)) IA rfl Z.len_ GP (J0 (jdv 3) J1)))
    (J5 (VJ (i:=3) (by rfl) rfl (by walk_at "v") (J0 (Q0 G._law_corner_ hr.m rfl (J0 (jdv 0) (J0 (jdv 2) J1))) J1) (WP PySem.F.plainAttrs_list PySem.F.slot_list_append PySem.F.type_list_append YX (pv 3) (JA.h (J0 (Q0 G._law_corner_ hr.m rfl (J0 (jdv 0) (J0 (jdv 2) J1))) J1))))
    (J8 (KS (i:=4) (by rfl) (J0 (AX (J0 (V1 (J0 (jdv 6) (J0 (jdv 7) (J0 (jdv 9) J1)))) (J0 (V1 (J0 (jdv 7) (J0 (jdv 8) (J0 (jdv 9) J1)))) (J0 (V1 (J0 (jdv 8) (J0 (jdv 6) (J0 (jdv 9) J1)))) J1)))) J1) (WP PySem.F.plainAttrs_list PySem.F.slot_list_extend PySem.F.type_list_extend MZ (pv 4) (JA.h (J0 (AX (J0 (V1 (J0 (jdv 6) (J0 (jdv 7) (J0 (jdv 9) J1)))) (J0 (V1 (J0 (jdv 7) (J0 (jdv 8) (J0 (jdv 9) J1)))) (J0 (V1 (J0 (jdv 8) (J0 (jdv 6) (J0 (jdv 9) J1)))) J1)))) J1)))))))))
    (ST 4 (ST 3 (J8 (Q8 (V1 (J0 (jdv 3) (J0 (jdv 4) J1)))))))))),?_⟩
   walk_at "g"
   refine LJ (fun _ y=>∃ t:R3,t.s8/\y=t.d) (fun k y Q e hQ=>?_) (fun k y ⟨t,_,h⟩=>by rw [h];rfl) (fun acc hla ha=>?_)
   · walk_at "g"
     exact fun r hr=>hQ _ ⟨r,hr,rfl⟩
   obtain ⟨cs,rfl,hcs⟩:=J5n R3.s8 (acc:=acc) (fun y hy=>by obtain ⟨k,ek⟩:=List.getElem?_of_mem hy;exact ha k y ek)
   rw [List.length_map] at hla
   have hla:cs.length=4:=hla
   clear ha
   walk_at "g"
   refine ⟨_,64,rfl,by decide,Bd.num _ (by decide),by decide,fun n n0 n1=>?_⟩
   walk_at "g"
   refine And.intro ⟨by omega,by omega⟩ ?_
   have inv0:CB cs [⟨0,1,2⟩,⟨0,3,1⟩,⟨1,3,2⟩,⟨0,2,3⟩]:=⟨by omega,hcs,fun f hf q hq=>by
    simp only [List.mem_cons,List.not_mem_nil,or_false] at hf
    rcases hf with rfl|rfl|rfl|rfl<;>rcases hq with z|z|z<;>simp only at z<;>omega,fun f hf=>by
    simp only [List.mem_cons,List.not_mem_nil,or_false] at hf
    rcases hf with rfl|rfl|rfl|rfl<;>exact ⟨by decide,by decide,by decide⟩,by simp,by
    have:=NR (fs:=[⟨0,1,2⟩,⟨0,3,1⟩,⟨1,3,2⟩,⟨0,2,3⟩]) (fun n=>(n:Int)) [(0,1),(1,2),(2,0),(0,3),(3,1),(1,0),(1,3),(3,2),(2,1),(0,2),(2,3),(3,0)] (by decide) rfl
    exact this⟩
   refine ⟨fun i ρ=>∃ (cs:List R3) (fs:List F3i) (v5 v6 v7 v8 v9:Option D),ρ=[some .bag,some (.int 9),some (.int 11),some (.own (cs.map R3.d)),some (.own (fs.map F3i.d)),v5,v6,v7,v8,v9]/\CB cs fs/\cs.length=4+i/\fs.length=4+2*i,⟨cs,_,_,_,_,_,_,rfl,inv0,by omega,rfl⟩,?_,?_⟩
   · clear inv0 hcs hla
     rintro i x ρ e ⟨cs,fs,v5,v6,v7,v8,v9,rfl,B,cl,fl⟩
     obtain ⟨rfl,hi⟩:=GI e
     have hi8:i<8:=by omega
     clear e
     walk_at "g"
     rw [show (fs.map F3i.d).length=fs.length from List.length_map ..]
     refine ⟨(fs.length:Int),64,rfl,by omega,Bd.of (by omega) (by omega),by decide,fun u u0 u1=>?_⟩
     obtain ⟨un,rfl⟩:∃ un:Nat,u=un:=⟨u.toNat,by omega⟩
     have hu:un<fs.length:=by omega
     walk_at "g"
     refine And.intro ⟨by omega,by omega,by omega⟩ ?_
     obtain ⟨f0,ef⟩:∃ f0,fs[un]?=some f0:=⟨fs[un],List.getElem?_eq_getElem hu⟩
     rw [Int.toNat_natCast,List.getElem?_map,ef]
     have fm:=List.mem_of_getElem? ef
     have hsplit:fs=fs.take un++f0::fs.drop (un+1):=by
      have:=(List.take_append_drop un fs).symm
      rw [List.drop_eq_getElem_cons hu] at this
      rw [(List.getElem?_eq_some_iff.mp ef).2] at this
      exact this
     have her:(fs.map F3i.d).eraseIdx un=(fs.take un++fs.drop (un+1)).map F3i.d:=by
      rw [List.eraseIdx_eq_take_drop_succ,List.map_append,List.map_take,List.map_drop]
     rw [her]
     have cS:Z3 (fs.take un++f0::fs.drop (un+1)):=by rw [<- hsplit];exact B.cl
     have mt:∀ f∈fs.take un++fs.drop (un+1),f∈fs:=fun f hf=>by
      rcases List.mem_append.mp hf with hf|hf
      · exact List.mem_of_mem_take hf
      · exact List.mem_of_mem_drop hf
     have lt':(fs.take un++fs.drop (un+1)).length=fs.length - 1:=by rw [List.length_append,List.length_take,List.length_drop];omega
     generalize fs.take un=xs at *
     generalize fs.drop (un+1)=ys at *
     walk_at "g"
     rw [show (cs.map R3.d).length=cs.length from List.length_map ..]
     intro r hr
     walk_at "g"
     refine And.intro (by show (true&&decide (cs.length<1000))=true;simp;omega) ?_
     walk_at "g"
     refine And.intro (by rw [List.length_map];show _+3<=1000;omega) ?_
     refine ⟨cs++[r],xs++ys++[⟨f0.i,f0.j,cs.length⟩,⟨f0.j,f0.k,cs.length⟩,⟨f0.k,f0.i,cs.length⟩],_,_,_,_,_,by rw [List.map_append (l₁:=cs),List.map_append (l₁:=xs++ys)];rfl,⟨by rw [List.length_append];omega,fun y hy=>?_,fun f hf q hq=>?_,fun f hf=>?_,by rw [List.length_append];exact Nat.lt_of_lt_of_le (by decide) (Nat.le_add_left 3 _),UA cs.length cS⟩,by rw [List.length_append];show _+1=_;omega,by rw [List.length_append];show _+3=_;omega⟩
     · rcases List.mem_append.mp hy with hy|hy
       · exact B.s8 y hy
       · rw [List.mem_singleton.mp hy];exact hr
     · rw [List.length_append]
       show q<cs.length+1
       have l0:=B.lt f0 fm
       have li:=l0 _ (.inl rfl)
       have lj:=l0 _ (.inr (.inl rfl))
       have lk:=l0 _ (.inr (.inr rfl))
       rcases List.mem_append.mp hf with hf|hf
       · have:=B.lt f (mt f hf) q hq
         omega
       · simp only [List.mem_cons,List.not_mem_nil,or_false] at hf
         rcases hf with rfl|rfl|rfl<;>rcases hq with z|z|z<;>simp only at z<;>omega
     · have l0:=B.lt f0 fm
       have li:=l0 _ (.inl rfl)
       have lj:=l0 _ (.inr (.inl rfl))
       have lk:=l0 _ (.inr (.inr rfl))
       have u0:=B.un f0 fm
       have:=u0.ij
       have:=u0.jk
       have:=u0.ki
       rcases List.mem_append.mp hf with hf|hf
       · exact B.un f (mt f hf)
       · simp only [List.mem_cons,List.not_mem_nil,or_false] at hf
         rcases hf with rfl|rfl|rfl<;>exact ⟨by dsimp only;omega,by dsimp only;omega,by dsimp only;omega⟩
   · rintro ρ ⟨cs,fs,v5,v6,v7,v8,v9,rfl,B,cl,fl⟩
     rw [KD] at cl fl
     walk_at "g"
     exact hP cs fs B (by omega) (by omega)
def Q8e (d1 d2:DS):DS:=fun F ρ=>∃ C:Ev->Prop,d1 { F with nx:=C } ρ/\∀ ρ',C ρ'->d2 F ρ'
theorem J3h {X:Cx}{W:Wd}{st:Stmt}{rest:List Stmt}{d1 d2:DS}(h1:JS X W st d1)(h2:JSs X W rest d2):JSs X W (st::rest) (Q8e d1 d2):=⟨(Z8 h1.h h2.h).mono fun E σ H hh=>hh.elim fun pn M b ρ F s l h=>by
 obtain ⟨C,q1,q2⟩:=h
 exact ⟨pn,M,b,ρ,{ F with nx:=C },s,⟨fun M b ρ σ H s' h'=>⟨pn,M,b,ρ,F,s',l,q2 ρ h'⟩,l.rt,l.bk,l.ct,l.ro⟩,q1⟩⟩
theorem b5 {z:Int}(h : -8<=z)(k:z<=8):Bd 5 z:=Bd.of (by omega) (by omega)
abbrev e4:R4:=⟨0,0,0,1⟩
structure Aff (m:M4)(n:Nat):Prop where
 ok:m.ok n
 e:m.e=e4
theorem Aff.mul {a b:M4}{m n:Nat}(h:Aff a m)(k:Aff b n):Aff (J2z a b) (m+n+3):=⟨J7j h.ok k.ok,by
 have e1:=h.e
 have e2:=k.e
 unfold J2z
 simp only
 rw [e1]
 unfold YL
 simp [DC,cx,cy,cz,cw,e2]⟩
theorem XN (i j m r c z:Int):cellI [[i,j]] [m] r c z=if i=r/\j=c then m else z:=by
 unfold cellI LF
 by_cases h:i=r/\j=c
 · rw [if_pos h,if_pos (by rw [h.1,h.2])]
   rfl
 · rw [if_neg h,if_neg (fun e=>h (by simpa using e))]
   rfl
theorem Q4j {i j m:Int}(hi:0<=i/\i<=2)(h:Bd 5 m):Aff (sbM [[i,j]] [m]) 5:=by
 have b:∀ r c z,Bd 5 z->Bd 5 (cellI [[i,j]] [m] r c z):=fun r c z hz=>by
  rw [XN]
  split
  · exact h
  · exact hz
 have c0:Bd 5 0:=b0 (by decide)
 have c1:Bd 5 1:=b1 (by decide)
 have e:∀ c z,cellI [[i,j]] [m] 3 c z=z:=fun c z=>by rw [XN,if_neg (fun y=>by omega)]
 refine ⟨⟨⟨b _ _ _ c1,b _ _ _ c0,b _ _ _ c0,b _ _ _ c0⟩,⟨b _ _ _ c0,b _ _ _ c1,b _ _ _ c0,b _ _ _ c0⟩,⟨b _ _ _ c0,b _ _ _ c0,b _ _ _ c1,b _ _ _ c0⟩,⟨b _ _ _ c0,b _ _ _ c0,b _ _ _ c0,b _ _ _ c1⟩⟩,?_⟩
 show (⟨cellI [[i,j]] [m] 3 0 0,cellI [[i,j]] [m] 3 1 0,cellI [[i,j]] [m] 3 2 0,cellI [[i,j]] [m] 3 3 1⟩:R4)=e4
 rw [e,e,e,e]
theorem Q4k:Aff idM 5:=⟨⟨⟨b1 (by decide),b0 (by decide),b0 (by decide),b0 (by decide)⟩,⟨b0 (by decide),b1 (by decide),b0 (by decide),b0 (by decide)⟩,⟨b0 (by decide),b0 (by decide),b1 (by decide),b0 (by decide)⟩,⟨b0 (by decide),b0 (by decide),b0 (by decide),b1 (by decide)⟩⟩,rfl⟩
abbrev EX:Stmt:=top 49
theorem V7:FnScope ["_law_bag_here","_law_found","_law_again","_law_way","_law_p","_law_q","_law_one"] xl3 (J4 EX):=⟨rfl,rfl,rfl,by decide +kernel,rfl,by decide +kernel,by decide +kernel⟩
def Q7d:DSp:=fun ds P _=>ds=[.bag]/\∀ m:M4,Aff m 37->P m.d
structure C__law_move (P:Program)(w:World)(K:Fg)(mg:Str->Option Value)(base:Heap)(c:Cs):Prop where
 still_:Callee P w K mg base CX0 "still" 1 [] (J7 K BT XS)
 _law_digit_:Callee P w K mg base CX0 "_law_digit" 2 xl4 (J7 K BT FU)
 after_:Callee P w K mg base CX0 "after" 2 xl5 (J7 K BT XZ)
 shift_:Callee P w K mg base CX0 "shift" 2 xl6 (J7 K BT XV)
 quarter_:Callee P w K mg base (CX1 P w base) "quarter" 3 ["axis"] (J7 K BT OB)
 slant_:Callee P w K mg base (CX1 P w base) "slant" 3 ["i","j","m"] (J7 K BT XT)
 stretch_:Callee P w K mg base (CX1 P w base) "stretch" 2 xl6 (J7 K BT OA)
theorem PC {f:Addr} (F:Fun K "_law_move" "_law_move" EX f fd) (Z:Bi mg) {c:Cs} (Y:Ex K mg base c) (G:C__law_move P w K mg base c):FnOk P w K mg base CX0 4 f fd xl3 (J7 K BT Q7d):=by
 refine F.okD V7 (fun ds PP Ed h=>?_) (fun cdv A outer s H E M bg ds PP Ed hr hS_=>?_)
 · obtain ⟨rfl,hP⟩:=h
   rfl
 · obtain ⟨rfl,hP⟩:=hS_
   refine ⟨_,(J5 (V2 (i:=1) V7.nd rfl (by walk_at "o") (J3q G.still_ hr.m rfl))
    (J5 (DK (V3 2) PassesOwn.never rfl (AZ rfl Z.range_ (J0 (Q0 G._law_digit_ hr.m rfl (J0 (jdv 0) (J0 J3 J1))) J1)) (pg_name (i:=2) V7.nd rfl (by walk_at "o")) (J5 (V2 (i:=3) V7.nd rfl (by walk_at "o") (Q0 G._law_digit_ hr.m rfl (J0 (jdv 0) (J0 J3 J1))))
    (J5 (V2 (i:=4) V7.nd rfl (by walk_at "o") (Q0 G._law_digit_ hr.m rfl (J0 (jdv 0) (J0 J3 J1))))
    (J5 (V2 (i:=5) V7.nd rfl (by walk_at "o") (V0 AQ AT (Q0 G._law_digit_ hr.m rfl (J0 (jdv 0) (J0 J3 J1))) J3))
    (J3h (AY (Z1 GX EJ (jdv 3) J3 (Y0 _)) (J8 (V2 (i:=6) V7.nd rfl (by walk_at "o") (Q0 G.shift_ hr.m rfl (J0 (jdv 5) (J0 (V0 AQ AT (Q0 G._law_digit_ hr.m rfl (J0 (jdv 0) (J0 J3 J1))) J3) (J0 (V0 AQ AT (Q0 G._law_digit_ hr.m rfl (J0 (jdv 0) (J0 J3 J1))) J3) J1)))))) (J8 (AY (Z1 GX EJ (jdv 3) J3 (Y0 _)) (J8 (V2 (i:=6) V7.nd rfl (by walk_at "o") (HB FE HQ G.quarter_ hr.m rfl (J0 (jdv 4) J1)))) (J8 (AY (Z1 GX EJ (jdv 3) J3 (Y0 _)) (J8 (V2 (i:=6) V7.nd rfl (by walk_at "o") (HB FE HQ G.slant_ hr.m rfl (J0 (jdv 4) (J0 (V0 GK FW (V0 EI AT (V0 EI AT (jdv 4) J3) (Q0 G._law_digit_ hr.m rfl (J0 (jdv 0) (J0 J3 J1)))) J3) (J0 (jdv 5) J1)))))) (J8 (V2 (i:=6) V7.nd rfl (by walk_at "o") (HB FE HQ G.stretch_ hr.m rfl (J0 (Q7 (Q9 K (by rfl)) V4 (AX (J0 J3 (J0 J3 (J0 (EL J3) J1)))) (jdv 4) (fun _ _=>rfl)) (J0 (Q7 (Q9 K (by rfl)) V4 (AX (J0 J3 (J0 (EL J3) (J0 J3 J1)))) (Q0 G._law_digit_ hr.m rfl (J0 (jdv 0) (J0 J3 J1))) (fun _ _=>rfl)) (J0 (Q7 (Q9 K (by rfl)) V4 (AX (J0 J3 (J0 (EL J3) J1))) (Q0 G._law_digit_ hr.m rfl (J0 (jdv 0) (J0 J3 J1))) (fun _ _=>rfl)) J1)))))))))))
    (J8 (V2 (i:=1) V7.nd rfl (by walk_at "o") (Q0 G.after_ hr.m rfl (J0 (jdv 6) (J0 (jdv 1) J1))))))))))
    (J8 (Q8 (jdv 1))))),?_⟩
   walk_at "g"
   refine ⟨_,64,rfl,by decide,Bd.num _ (by decide),by decide,fun n n0 n1=>?_⟩
   walk_at "g"
   refine And.intro ⟨by omega,by omega⟩ ?_
   refine ⟨fun i ρ=>∃ (m:M4) (v2 v3 v4 v5 v6:Option D),ρ=[some .bag,some m.d,v2,v3,v4,v5,v6]/\Aff m (5+8*i),⟨idM,_,_,_,_,_,rfl,Q4k⟩,?_,?_⟩
   · rintro i x ρ e ⟨m,v2,v3,v4,v5,v6,rfl,mA⟩
     obtain ⟨rfl,hi⟩:=GI e
     have hi4:i<4:=by omega
     clear e
     walk_at "g"
     refine ⟨_,64,rfl,by decide,Bd.num _ (by decide),by decide,fun a a0 a1=>?_⟩
     walk_at "g"
     refine ⟨_,64,rfl,by decide,Bd.num _ (by decide),by decide,fun p p0 p1=>?_⟩
     walk_at "g"
     refine ⟨_,64,rfl,by decide,Bd.num _ (by decide),by decide,fun q q0 q1=>?_⟩
     walk_at "g"
     refine ⟨fun ρ=>∃ (o:M4) (v2 v3 v4 v5:Option D),ρ=[some .bag,some m.d,v2,v3,v4,v5,some o.d]/\Aff o 5,?_,?_⟩
     · walk_at "g"
       by_cases z0:a=0
       · refine IfP.t (by simp [z0]) ?_
         walk_at "g"
         refine ⟨_,64,rfl,by decide,Bd.num _ (by decide),by decide,fun b c0 c1=>?_⟩
         walk_at "g"
         refine ⟨_,64,rfl,by decide,Bd.num _ (by decide),by decide,fun d d0 d1=>?_⟩
         walk_at "g"
         refine ⟨_,_,_,rfl,?_⟩
         exact ⟨rfl,J0z (q - 3) (b - 3) (d - 3),_,_,_,_,rfl,⟨⟨⟨b1 (by decide),b0 (by decide),b0 (by decide),(show Bd 5 (q - 3) from b5 (by omega) (by omega))⟩,⟨b0 (by decide),b1 (by decide),b0 (by decide),(show Bd 5 (b - 3) from b5 (by omega) (by omega))⟩,⟨b0 (by decide),b0 (by decide),b1 (by decide),(show Bd 5 (d - 3) from b5 (by omega) (by omega))⟩,⟨b0 (by decide),b0 (by decide),b0 (by decide),b1 (by decide)⟩⟩,rfl⟩⟩
       refine IfP.f (by simp [z0]) ?_
       walk_at "g"
       by_cases z1:a=1
       · refine IfP.t (by simp [z1]) ?_
         walk_at "g"
         refine ⟨p,rfl,p0,by omega,?_⟩
         refine ⟨rfl,KE p,_,_,_,_,rfl,?_⟩
         unfold KE
         split
         · exact ⟨⟨⟨b1 (by decide),b0 (by decide),b0 (by decide),b0 (by decide)⟩,⟨b0 (by decide),b0 (by decide),bm (by decide),b0 (by decide)⟩,⟨b0 (by decide),b1 (by decide),b0 (by decide),b0 (by decide)⟩,⟨b0 (by decide),b0 (by decide),b0 (by decide),b1 (by decide)⟩⟩,rfl⟩
         split
         · exact ⟨⟨⟨b0 (by decide),b0 (by decide),b1 (by decide),b0 (by decide)⟩,⟨b0 (by decide),b1 (by decide),b0 (by decide),b0 (by decide)⟩,⟨bm (by decide),b0 (by decide),b0 (by decide),b0 (by decide)⟩,⟨b0 (by decide),b0 (by decide),b0 (by decide),b1 (by decide)⟩⟩,rfl⟩
         · exact ⟨⟨⟨b0 (by decide),bm (by decide),b0 (by decide),b0 (by decide)⟩,⟨b1 (by decide),b0 (by decide),b0 (by decide),b0 (by decide)⟩,⟨b0 (by decide),b0 (by decide),b1 (by decide),b0 (by decide)⟩,⟨b0 (by decide),b0 (by decide),b0 (by decide),b1 (by decide)⟩⟩,rfl⟩
       refine IfP.f (by simp [z1]) ?_
       walk_at "g"
       by_cases z2:a=2
       · refine IfP.t (by simp [z2]) ?_
         walk_at "g"
         refine ⟨_,64,rfl,by decide,Bd.num _ (by decide),by decide,fun r r0 r1=>?_⟩
         walk_at "g"
         refine ⟨p,_,_,rfl,⟨p0,by omega⟩,⟨by omega,by omega⟩,by omega,?_⟩
         exact ⟨rfl,_,_,_,_,_,rfl,Q4j ⟨p0,by omega⟩ (b5 (by omega) (by omega))⟩
       refine IfP.f (by simp [z2]) ?_
       walk_at "g"
       have small:∀ {d:D} {l:List D},(∀ y∈l,∃ z:Int,y=.int z/\z≠0/\-8<=z/\z<=8)->d∈l->∃ z:Int,d=.int z/\z≠0/\-8<=z/\z<=8:=fun h m=>h _ m
       refine ixm p0 p1 fun d1 m1=>?_
       obtain ⟨x1,rfl,x1n,x1a,x1b⟩:=small (fun y hy=>by
        simp only [List.mem_cons,List.not_mem_nil,or_false] at hy
        rcases hy with rfl|rfl|rfl<;>exact ⟨_,rfl,by decide,by decide,by decide⟩) m1
       walk_at "g"
       refine ⟨_,64,rfl,by decide,Bd.num _ (by decide),by decide,fun r r0 r1=>?_⟩
       walk_at "g"
       refine ixm r0 r1 fun d2 m2=>?_
       obtain ⟨x2,rfl,x2n,x2a,x2b⟩:=small (fun y hy=>by
        simp only [List.mem_cons,List.not_mem_nil,or_false] at hy
        rcases hy with rfl|rfl|rfl<;>exact ⟨_,rfl,by decide,by decide,by decide⟩) m2
       walk_at "g"
       refine ⟨_,64,rfl,by decide,Bd.num _ (by decide),by decide,fun t t0 t1=>?_⟩
       walk_at "g"
       refine ixm t0 t1 fun d3 m3=>?_
       obtain ⟨x3,rfl,x3n,x3a,x3b⟩:=small (fun y hy=>by
        simp only [List.mem_cons,List.not_mem_nil,or_false] at hy
        rcases hy with rfl|rfl<;>exact ⟨_,rfl,by decide,by decide,by decide⟩) m3
       walk_at "g"
       refine ⟨x1,x2,x3,rfl,x1n,x2n,x3n,?_⟩
       exact ⟨rfl,RA x1 x2 x3,_,_,_,_,rfl,⟨⟨⟨b5 x1a x1b,b0 (by decide),b0 (by decide),b0 (by decide)⟩,⟨b0 (by decide),b5 x2a x2b,b0 (by decide),b0 (by decide)⟩,⟨b0 (by decide),b0 (by decide),b5 x3a x3b,b0 (by decide)⟩,⟨b0 (by decide),b0 (by decide),b0 (by decide),b1 (by decide)⟩⟩,rfl⟩⟩
     · rintro ρ' ⟨o,w2,w3,w4,w5,rfl,oA⟩
       walk_at "g"
       refine ⟨o,m,100,rfl,oA.ok.mono (by decide),mA.ok.mono (by omega),by decide,?_⟩
       refine ⟨rfl,J2z o m,_,_,_,_,_,rfl,?_⟩
       have:=oA.mul mA
       exact ⟨this.ok.mono (by omega),this.e⟩
   · rintro ρ ⟨m,v2,v3,v4,v5,v6,rfl,mA⟩
     rw [KD] at mA
     walk_at "g"
     exact hP m ⟨mA.ok.mono (by omega),mA.e⟩
theorem Q4c {xs:List D}{k:Nat}(h:k<=xs.length):L2.LI xs none (some (k:Int))=xs.take k:=by
 unfold L2.LI
 have e1:HT.sIx xs.length 0 none=0:=rfl
 have e2:HT.sIx xs.length xs.length (some (k:Int))=k:=by rw [HT.sIx_nat,Nat.min_eq_left h]
 rw [e1,e2,List.drop_zero,Nat.sub_zero]
theorem J4x {xs:List D}{k:Nat}(h:k<=xs.length):L2.LI xs (some (k:Int)) none=xs.drop k:=by
 unfold L2.LI
 have e1:HT.sIx xs.length 0 (some (k:Int))=k:=by rw [HT.sIx_nat,Nat.min_eq_left h]
 have e2:HT.sIx xs.length xs.length none=xs.length:=rfl
 rw [e1,e2]
 exact List.take_of_length_le (by simp)
theorem Q2o {xs ys:List F3i}{f:F3i}(u:f.un)(h:Z3 (xs++f::ys))(r:List Int):CW (sdsR (xs++ys)) r=((sdR f).map CD).count r:=by
 rw [BF]
 unfold CW
 have h:=h r
 rw [CO,EU,List.count_append,List.count_append,List.count_append,List.count_append] at h
 rw [CO,List.count_append,List.count_append]
 have:=J1e u r
 omega
abbrev tM (m:M4)(cs:List R3)(f:F3i):T3:=tri (spt m cs f.i) (spt m cs f.j) (spt m cs f.k)
theorem WH {m:M4}{cs:List R3}{fs:List F3i}:fs.map (WI m cs)=(fs.map (tM m cs)).map T3.d:=by
 rw [List.map_map];rfl
theorem Q8f {cs:List R3}(h:∀ r∈cs,r.s8)(n:Nat):(cor cs n).s8:=by
 unfold cor
 rw [List.getD_eq_getElem?_getD]
 cases e:cs[n]? with
 | none=>exact ⟨by decide,by decide,by decide⟩
 | some r=>exact h r (List.mem_of_getElem? e)
theorem J9h {r:R3}(h:r.s8):r.s.ok 37:=by
 obtain ⟨h1,h2,h3⟩:=h
 exact ⟨(b5 (by omega) h1.2).mono (by decide),(b5 (by omega) h2.2).mono (by decide),(b5 (by omega) h3.2).mono (by decide),b1 (by decide)⟩
theorem J9x {m:M4}(h:Aff m 37)(r:R3):(app m r.s).w=1:=by
 show DC m.e r.s=1
 rw [h.e]
 simp [DC,R3.s]
theorem GC {m:M4}(h:Aff m 37){cs:List R3}(hc:∀ r∈cs,r.s8)(n:Nat):(spt m cs n).ok 100/\0<(spt m cs n).w:=by
 have e:=J9x h (cor cs n)
 obtain ⟨p,_,k⟩:=J7m (r:=app m (cor cs n).s) (by rw [e];decide)
 exact ⟨(k _ (J5e h.ok (J9h (Q8f hc n)))).mono (by decide),p.1⟩
theorem J0o {m:M4}(h:Aff m 37){cs:List R3}(hc:∀ r∈cs,r.s8)(fs:List F3i):∀ t∈fs.map (tM m cs),t.ok 100/\t.pos:=fun t ht=>by
 obtain ⟨f,_,rfl⟩:=List.mem_map.mp ht
 have a:=GC h hc f.i
 have b:=GC h hc f.j
 have c:=GC h hc f.k
 exact ⟨Q0o a.1 b.1 c.1,⟨a.2,b.2,c.2⟩⟩
theorem J4b {t:T3}(h:t.pos)(px py:Int):t.has px py↔t.sg px py≠0:=by
 unfold T3.sg
 by_cases z:t.has px py
 · rw [if_pos z]
   have tz:=T3.has_tn h z
   rcases V9 t.tn with ⟨q,_⟩|⟨q,e⟩|⟨_,e⟩<;>simp [z]<;>omega
 · rw [if_neg z];simp [z]
theorem XB {m:M4}(h:Aff m 37){cs:List R3}(hc:∀ r∈cs,r.s8)(px py:Int):∀ fs:List F3i,(hv ((fs.map F3i.flip).map (tM m cs)) px py).length=(hv (fs.map (tM m cs)) px py).length
 | []=>rfl
 | f::fs=>by
   have ih:=XB h hc px py fs
   have a:=GC h hc f.i
   have b:=GC h hc f.j
   have c:=GC h hc f.k
   have p1:(tM m cs f).pos:=⟨a.2,b.2,c.2⟩
   have p2:(tM m cs f.flip).pos:=⟨a.2,c.2,b.2⟩
   have e:(tM m cs f.flip).has px py↔(tM m cs f).has px py:=by
    rw [J4b p1,J4b p2]
    have:=WG (spt m cs f.i) (spt m cs f.j) (spt m cs f.k) px py
    show (tri (spt m cs f.i) (spt m cs f.k) (spt m cs f.j)).sg px py≠0↔(tri (spt m cs f.i) (spt m cs f.j) (spt m cs f.k)).sg px py≠0
    rw [this]
    omega
   unfold hv at ih ⊢
   simp only [List.map_cons,List.filter_cons,e]
   split
   · rw [List.length_cons,List.length_cons,ih]
   · exact ih
theorem Q6f {m:M4}(h:Aff m 37){cs:List R3}(hc:∀ r∈cs,r.s8){fs:List F3i}(cl:Z3 fs)(px py:Int) :
 nIn (fs.map (tM m cs)) px py=MB (fs.map (tM m cs)) px py/\nIn ((fs.map F3i.flip).map (tM m cs)) px py=MB (fs.map (tM m cs)) px py/\(MB ((fs.map F3i.flip).map (tM m cs)) px py:Int)=nIn (fs.map (tM m cs)) px py:=by
 have z:∀ gs:List F3i,Z3 gs->nIn (gs.map (tM m cs)) px py=MB (gs.map (tM m cs)) px py:=fun gs k=>Q2a (fun t ht=>(J0o h hc gs t ht).2) (by
  have:=ZX k (fun n=>spt m cs n.toNat) (fun n=>(GC h hc n.toNat).2) px py
  rw [List.map_map]
  exact this)
 have z1:=z _ cl
 have z2:=z _ (UD cl)
 have z3:=XB h hc px py fs
 unfold nIn at z1 z2 ⊢
 omega
abbrev WK:Stmt:=top 50
abbrev Q4s:List Str:=["_law_script","_law_bag_here","_law_corners","_law_faces","_law_body","_law_move_here","_law_seen","_law_other","_law_again","_law_dot","_law_ins","_law_outs","_law_number","_law_i","_law_j","_law_k","_law_fewer"]
theorem Y4:FnScope Q4s ["_law_script"] (J4 WK):=⟨rfl,rfl,rfl,by decide +kernel,rfl,by decide +kernel,by decide +kernel⟩
def OH (K:Fg):Sp:=fun vs H Q _=>∃ (a:Addr) (ns:List Int),vs=[.ref a]/\SqL K H a (ns.map V.int)/\ns.length<=63/\∀ H',Q (.bl true) H'
structure C_law (P:Program)(w:World)(K:Fg)(mg:Str->Option Value)(base:Heap)(c:Cs):Prop where
 _law_bag_:Callee P w K mg base CX0 "_law_bag" 1 xl2 (NZ K BT OU)
 _law_closed_body_:Callee P w K mg base CX0 "_law_closed_body" 4 Q0e (J7 K BT Q0d)
 _law_move_:Callee P w K mg base CX0 "_law_move" 4 xl3 (J7 K BT Q7d)
 faces_seen_:Callee P w K mg base (CX1 P w base) "faces_seen" 4 ["body","move"] (Y9 K BT (XY c))
 _law_digit_:Callee P w K mg base CX0 "_law_digit" 2 xl4 (J7 K BT FU)
 _law_cell_:Callee P w K mg base CX0 "_law_cell" 1 xl1 (J7 K BT VZ)
 inside_out_:Callee P w K mg base (CX1 P w base) "inside_out" 1 ["body"] (BP K BT (Q7e K))
 ins_and_outs_:Callee P w K mg base CX0 "ins_and_outs" 5 ["faces","dot"] (J7 K BT XX)
 is_closed_:Callee P w K mg base CX0 "is_closed" 4 ["body"] (J7 K BT Q0b)
 lacking_:Callee P w K mg base CX0 "lacking" 3 ["body"] (Y9 K BT IF)
theorem Q1q {f:Addr} (F:Fun K "law" "law" WK f fd) (Z:Bi mg) {c:Cs} (Y:Ex K mg base c) (G:C_law P w K mg base c):FnOk P w K mg base CX0 6 f fd ["_law_script"] (OH K):=by
 refine F.okL BT Y4 (fun cdv A outer s H E ns hr hlen=>?_)
 · refine ⟨_,(J5 (J7q (i:=1) rfl Y4.nd rfl (by walk_at "o") G._law_bag_ hr.m rfl (J0 (Q0 G._law_cell_ hr.m rfl (J0 (jdv 0) (J0 J3 J1))) (J0 J3 J1)))
    (J5 (CM (CC [2,3]) (Q0 G._law_closed_body_ hr.m rfl (J0 (jdv 1) (J0 J3 (J0 J3 J1)))) (PG.or (AV (n:=2) K (by rfl) (by rfl) (J6 (pg_name (i:=2) Y4.nd rfl (by walk_at "o")) (J6 (pg_name (i:=3) Y4.nd rfl (by walk_at "o")) V6))) (AW (n:=2) K (by rfl) (by rfl) (J6 (pg_name (i:=2) Y4.nd rfl (by walk_at "o")) (J6 (pg_name (i:=3) Y4.nd rfl (by walk_at "o")) V6)))))
    (J5 (V2 (i:=4) Y4.nd rfl (by walk_at "o") (V1 (J0 (jdv 2) (J0 (jdv 3) J1))))
    (J5 (AY (PK (Z1 WQ WR (Q0 G.is_closed_ hr.m rfl (J0 (jdv 4) J1)) KW (Y0 _)) (JD (Z1 (J2e K (by rfl) hr.units) PH (KU G.lacking_ hr.m rfl (J0 (jdv 4) J1)) (AX J1) (Y0 _)))) (J8 (Q8 KW)) AD)
    (J5 (V2 (i:=5) Y4.nd rfl (by walk_at "o") (J3p G._law_move_ hr.m rfl G._law_bag_ hr.m rfl (J0 (Q0 G._law_cell_ hr.m rfl (J0 (jdv 0) (J0 J3 J1))) (J0 J3 J1)) J1))
    (J5 (V2 (i:=6) Y4.nd rfl (by walk_at "o") (NH FE HQ G.faces_seen_ hr.m rfl (J0 (jdv 4) (J0 (jdv 5) J1))))
    (J5 (V2 (i:=7) Y4.nd rfl (by walk_at "o") (NH FE HQ G.faces_seen_ hr.m rfl (J0 (ZG FE HQ G.inside_out_ hr.m rfl (J0 (jdv 4) J1)) (J0 (jdv 5) J1))))
    (J5 (DK (V3 8) PassesOwn.never rfl (AZ rfl Z.range_ (J0 J3 J1)) (pg_name (i:=8) Y4.nd rfl (by walk_at "o")) (J5 (V2 (i:=9) Y4.nd rfl (by walk_at "o") (V1 (J0 (V0 AQ AT (Q0 G._law_digit_ hr.m rfl (J0 (jdv 1) (J0 J3 J1))) J3) (J0 (V0 AQ AT (Q0 G._law_digit_ hr.m rfl (J0 (jdv 1) (J0 J3 J1))) J3) J1))))
    (J5 (CM (CC [10,11]) (Q0 G.ins_and_outs_ hr.m rfl (J0 (jdv 6) (J0 (jdv 9) J1))) (PG.or (AV (n:=2) K (by rfl) (by rfl) (J6 (pg_name (i:=10) Y4.nd rfl (by walk_at "o")) (J6 (pg_name (i:=11) Y4.nd rfl (by walk_at "o")) V6))) (AW (n:=2) K (by rfl) (by rfl) (J6 (pg_name (i:=10) Y4.nd rfl (by walk_at "o")) (J6 (pg_name (i:=11) Y4.nd rfl (by walk_at "o")) V6)))))
    (J8 (AY (PK (Z1 J2f J2r (jdv 10) (jdv 11) (Y0 _)) (JD (Z1 (J2e K (by rfl) hr.units) PH (Q0 G.ins_and_outs_ hr.m rfl (J0 (jdv 7) (J0 (jdv 9) J1))) (V1 (J0 (jdv 11) (J0 (jdv 10) J1))) (Y0 _)))) (J8 (Q8 KW)) AD)))))
    (J5 (V2 (i:=12) Y4.nd rfl (by walk_at "o") (Q0 G._law_digit_ hr.m rfl (J0 (jdv 1) (J0 (Z9 (Z6 K (by rfl)) IA rfl Z.len_ GP (J0 (jdv 3) J1)) J1))))
    (J5 (CM (CC [13,14,15]) (Q7 (Q9 K (by rfl)) V4 (jdv 3) (jdv 12) (fun _ _=>rfl)) (PG.or (AV (n:=3) K (by rfl) (by rfl) (J6 (pg_name (i:=13) Y4.nd rfl (by walk_at "o")) (J6 (pg_name (i:=14) Y4.nd rfl (by walk_at "o")) (J6 (pg_name (i:=15) Y4.nd rfl (by walk_at "o")) V6)))) (AW (n:=3) K (by rfl) (by rfl) (J6 (pg_name (i:=13) Y4.nd rfl (by walk_at "o")) (J6 (pg_name (i:=14) Y4.nd rfl (by walk_at "o")) (J6 (pg_name (i:=15) Y4.nd rfl (by walk_at "o")) V6))))))
    (J5 (V2 (i:=16) Y4.nd rfl (by walk_at "o") (V1 (J0 (AB (FX K (by rfl)) J8x rfl Z.list_ XO (J0 (jdv 2) J1)) (J0 (V0 Q1o Q1t (NG (J0v K (by rfl)) (jdv 3) SX (SW (jdv 12))) (NG (J0v K (by rfl)) (jdv 3) (SW (V0 EI AT (jdv 12) J3)) SX)) J1))))
    (J5 (AY (Z1 WQ WR (Q0 G.is_closed_ hr.m rfl (J0 (jdv 16) J1)) KW (Y0 _)) (J8 (Q8 KW)) AD)
    (J8 (Q8 (HD (J2j K (by rfl) hr.units) PH (KU G.lacking_ hr.m rfl (J0 (jdv 16) J1)) (J7t (NF (X:=(AJ CX0 P w K mg base Q4s "law" (J4 WK) f cdv A outer s H E).nox) (J0 (AX (J0 (V1 (J0 (jdv 14) (J0 (jdv 13) J1))) (J0 (V1 (J0 (jdv 15) (J0 (jdv 14) J1))) (J0 (V1 (J0 (jdv 13) (J0 (jdv 15) J1))) J1)))) J1) (CV (LL K (by rfl) (by rfl)) rfl Z.sorted_ IB (JA.h (J0 (AX (J0 (V1 (J0 (jdv 14) (J0 (jdv 13) J1))) (J0 (V1 (J0 (jdv 15) (J0 (jdv 14) J1))) (J0 (V1 (J0 (jdv 13) (J0 (jdv 15) J1))) J1)))) J1))))) (Y0 _)))))))))))))))),?_⟩
   walk_at "g"
   refine ⟨ns,0,rfl,fun n=>?_⟩
   walk_at "g"
   refine And.intro ⟨n,1,rfl,by omega⟩ ?_
   walk_at "g"
   intro cs fs B c12 f20
   walk_at "g"
   have nn:cs.length<=1000:=by omega
   have fl0:(fs.map F3i.d).length=fs.length:=List.length_map _
   have nil_of:∀ {rows:List (List Int)},Lack fs rows->rows=[]:=fun h4=>SQ nn B.lt h4 (UB B.cl)
   refine ⟨_,fs,cs.length,rfl,by omega,nn,B.lt,fun rows lk=>?_⟩
   cases nil_of lk
   walk_at "g"
   refine ⟨_,fs,cs.length,rfl,by omega,nn,B.lt,fun rows lk=>⟨HU _,?_⟩⟩
   cases nil_of lk
   walk_at "g"
   refine TM 2 rfl ?_
   walk_at "g"
   refine ⟨ns,1,rfl,fun n=>?_⟩
   walk_at "g"
   refine And.intro ⟨n,2,rfl,by omega⟩ ?_
   walk_at "g"
   intro m mA
   walk_at "g"
   have mo:=mA.ok
   have c8:=B.s8
   have c37:∀ r∈cs,r.s.ok 37:=fun r hr=>J9h (c8 r hr)
   have cw:∀ q,(app m (cor cs q).s).w=1:=fun q=>J9x mA (cor cs q)
   have tok:=J0o mA c8 fs
   have tok2:=J0o mA c8 (fs.map F3i.flip)
   have flow:=fun px py=>Q6f mA c8 B.cl px py
   refine ⟨cs,fs,m,37,rfl,mo,c37,by decide,by omega,by omega,B.lt,fun ⟨f,_,q,_,z⟩=>absurd z (by rw [cw q];decide),fun _=>?_⟩
   rw [WH]
   walk_at "g"
   refine And.intro (noLs_all fun x hx=>by obtain ⟨t,_,rfl⟩:=List.mem_map.mp hx;rfl) (And.intro rfl ?_)
   walk_at "g"
   refine ⟨_,fs,rfl,by omega,fun p rs=>⟨p,rs,_,rfl,rfl,Q1y cs (fs.map F3i.flip),?_⟩⟩
   walk_at "g"
   refine ⟨cs,fs.map F3i.flip,m,37,rfl,mo,c37,by decide,by omega,by rw [List.length_map];omega,J4d B.lt,fun ⟨f,_,q,_,z⟩=>absurd z (by rw [cw q];decide),fun _=>?_⟩
   rw [WH]
   have tl:(fs.map (tM m cs)).length=fs.length:=List.length_map _
   have tl2:((fs.map F3i.flip).map (tM m cs)).length=fs.length:=by rw [List.length_map,List.length_map]
   generalize fs.map (tM m cs)=ts at *
   generalize (fs.map F3i.flip).map (tM m cs)=us at *
   walk_at "g"
   refine And.intro (noLs_all fun x hx=>by obtain ⟨t,_,rfl⟩:=List.mem_map.mp hx;rfl) (And.intro rfl ?_)
   walk_at "g"
   refine ⟨fun i ρ=>∃ v8 v9 v10 v11 v12 v13 v14 v15 v16,ρ=[some (.scr ns),some .bag,some (.lst (cs.map R3.d)),some (.lst (fs.map F3i.d)),some (bdD cs fs),some m.d,some (.lst (ts.map T3.d)),some (.lst (us.map T3.d)),v8,v9,v10,v11,v12,v13,v14,v15,v16],⟨_,_,_,_,_,_,_,_,_,rfl⟩,?_,?_⟩
   · rintro i x ρ e ⟨v8,v9,v10,v11,v12,v13,v14,v15,v16,rfl⟩
     obtain ⟨rfl,hi⟩:=GI e
     clear e
     walk_at "g"
     refine ⟨_,64,rfl,by decide,Bd.num _ (by decide),by decide,fun px p0 p1=>?_⟩
     walk_at "g"
     refine ⟨_,64,rfl,by decide,Bd.num _ (by decide),by decide,fun py q0 q1=>?_⟩
     have bx:Bd 100 (px - 3):=Bd.of (by omega) (by omega)
     have by':Bd 100 (py - 3):=Bd.of (by omega) (by omega)
     walk_at "g"
     have fw:=flow (px - 3) (py - 3)
     generalize px - 3=X at *
     generalize py - 3=Y at *
     refine ⟨ts,X,Y,rfl,tok,by omega,bx,by',?_⟩
     obtain ⟨w1,w2,w3⟩:=fw
     walk_at "g"
     refine IfP.f (by simp [w1]) ?_
     walk_at "g"
     refine ⟨us,X,Y,rfl,tok2,by omega,bx,by',?_⟩
     walk_at "g"
     refine TL (x:=t2 (nIn us X Y) (MB us X Y)) 2 rfl (by rw [w2,w3]) (by decide) ?_
     walk_at "g"
     exact ⟨_,_,_,_,_,_,_,_,_,rfl⟩
   · rintro ρ ⟨v8,v9,v10,v11,v12,v13,v14,v15,v16,rfl⟩
     have fne:=B.ne
     walk_at "g"
     rw [show (fs.map F3i.d).length=fs.length from List.length_map ..]
     refine ⟨(fs.length:Int),64,rfl,by omega,Bd.of (by omega) (by omega),by decide,fun u u0 u1=>?_⟩
     obtain ⟨n,rfl⟩:∃ un:Nat,u=un:=⟨u.toNat,by omega⟩
     have hn:n<fs.length:=by omega
     obtain ⟨f0,ef⟩:∃ f0,fs[n]?=some f0:=⟨fs[n],List.getElem?_eq_getElem hn⟩
     have fm:=List.mem_of_getElem? ef
     have hx:atI (fs.map F3i.d) (n:Int)=some f0.d:=JJ (j:=n) (by rw [List.getElem?_map,ef];rfl)
     walk_at "g"
     rw [hx]
     walk_at "g"
     have e1:L2.LI (fs.map F3i.d) none (some (n:Int))=(fs.take n).map F3i.d:=by rw [Q4c (by rw [List.length_map];omega),List.map_take]
     have e2:L2.LI (fs.map F3i.d) (some ((n:Int)+1)) none=(fs.drop (n+1)).map F3i.d:=by rw [show (n:Int)+1=((n+1:Nat):Int) by omega,J4x (by rw [List.length_map];omega),List.map_drop]
     rw [e1,e2]
     refine And.intro (by rw [List.length_map,List.length_map,List.length_take,List.length_drop];omega) ?_
     rw [<- List.map_append]
     have hsplit:fs=fs.take n++f0::fs.drop (n+1):=by
      have:=(List.take_append_drop n fs).symm
      rw [List.drop_eq_getElem_cons hn] at this
      rw [(List.getElem?_eq_some_iff.mp ef).2] at this
      exact this
     have cS:Z3 (fs.take n++f0::fs.drop (n+1)):=by rw [<- hsplit];exact B.cl
     have mt:∀ f∈fs.take n++fs.drop (n+1),f∈fs:=fun f hf=>by
      rcases List.mem_append.mp hf with hf|hf
      · exact List.mem_of_mem_take hf
      · exact List.mem_of_mem_drop hf
     have lt':(fs.take n++fs.drop (n+1)).length<=20:=by rw [List.length_append,List.length_take,List.length_drop];omega
     have hi2:∀ f∈fs.take n++fs.drop (n+1),∀ q,f.has q->q<cs.length:=fun f hf=>B.lt f (mt f hf)
     have u:=B.un f0 fm
     have l0:=B.lt f0 fm
     have li:=l0 _ (.inl rfl)
     have lj:=l0 _ (.inr (.inl rfl))
     have lk0:=l0 _ (.inr (.inr rfl))
     generalize fs.take n=xs at *
     generalize fs.drop (n+1)=ys at *
     walk_at "g"
     refine ⟨_,xs++ys,cs.length,rfl,by omega,nn,hi2,fun rows lk=>?_⟩
     have pm:rows.Perm ((sdR f0).map CD):=List.perm_iff_count.mpr fun r=>by rw [lk.cnt,Q2o u cS]
     have ne:rows.isEmpty=false:=by
      have:=pm.length_eq
      cases rows with
      | nil=>cases this
      | cons r l=>rfl
     rw [ne]
     walk_at "g"
     refine ⟨_,xs++ys,cs.length,rfl,by omega,nn,hi2,fun rows' lk'=>⟨HU _,?_⟩⟩
     walk_at "g"
     refine ⟨(sdR f0).map CD,2,rfl,by decide,by show 3<64;decide,fun r hr=>?_,fun two p2 s2=>?_⟩
     · simp only [sdR,List.map_cons,List.map_nil,CD,List.mem_cons,List.not_mem_nil,or_false] at hr
       rcases hr with rfl|rfl|rfl<;>refine ⟨rfl,fun z hz=>?_⟩<;>simp only [List.mem_cons,List.not_mem_nil,or_false] at hz<;>unfold BA<;>omega
     have e:=SQ nn hi2 lk' (ZM u cS p2 s2)
     subst e
     walk_at "g"
     refine TL (x:=.lst (rows'.map DX)) 3 (by unfold BE;exact NM _) rfl (by decide) ?_
     rfl
end K
namespace K
open PySem L2
structure FnIn (K:Fg)(x:Str)(st:Stmt):Prop where
 ex:∃ (f:Addr) (fd:FuncData),PySem.W.nsIn K mainGlobals x=some (some (.ref f))/\Fun K x x st f fd
theorem fn_in {x:Str}{st:Stmt}{f:Addr}{oc:Value}{od an:Option Addr}{osl:Array (Option Value)}{kV doc pm cdv ct:Value}(a:PySem.W.nsIn K mainGlobals x=some (some (.ref f)))(l:K.lookup f=some ⟨oc,od,.func (PySem.W.fnOf x x (HF st) (AO st) (J4 st) .none kV doc pm an cdv ct),osl⟩)(c:PySem.W.codeIn K cdv x=true)(k:PySem.W.keepIn K (.ref f)=true):FnIn K x st:=⟨⟨_,_,a,Q2r l c k⟩⟩
local macro_rules | `(tactic| walk_at "b0") => `(tactic| exact fun _ _ _ _ _ _ us hl => match us,hl with | [],_ => rfl)
local macro_rules | `(tactic| walk_at "b1") => `(tactic| exact fun _ _ _ _ _ _ us hl => match us,hl with | [_],_ => rfl)
local macro_rules | `(tactic| walk_at "b2") => `(tactic| exact fun _ _ _ _ _ _ us hl => match us,hl with | [_,_],_ => rfl)
local macro_rules | `(tactic| walk_at "b3") => `(tactic| exact fun _ _ _ _ _ _ us hl => match us,hl with | [_,_,_],_ => rfl)
theorem Q4i {l:PySem.W.OpenLaw}{w:World} {h:Heap} {fa:Addr}(X:K.In h)(G:h.Ns mainGlobals mg)(hfa:mg "law" = some (.ref fa))
 (h0:FnIn K "_law_bag" EE)
 (h1:FnIn K "_law_mixed" ED)
 (h2:FnIn K "_law_digit" CK)
 (h3:FnIn K "_law_corner" DQ)
 (h4:FnIn K "_law_closed_body" AA)
 (h5:FnIn K "still" OP)
 (h6:FnIn K "products_added" AL)
 (h7:FnIn K "after" IX)
 (h8:FnIn K "still_but" DI)
 (h9:FnIn K "shift" OR)
 (h10:FnIn K "is_whole" GG)
 (h11:FnIn K "is_coordinate" BW)
 (h12:FnIn K "quarter" HL)
 (h13:FnIn K "slant" OQ)
 (h14:FnIn K "stretch" HK)
 (h15:FnIn K "_law_move" EX)
 (h16:FnIn K "common_divisor" AM)
 (h17:FnIn K "lowest_terms" BK)
 (h18:FnIn K "moved" IW)
 (h19:FnIn K "faces_seen" CJ)
 (h20:FnIn K "_law_cell" DJ)
 (h21:FnIn K "inside_out" CI)
 (h22:FnIn K "determinant" DP)
 (h23:FnIn K "on_board" GF)
 (h24:FnIn K "turn" UQ)
 (h25:FnIn K "side_number" DM)
 (h26:FnIn K "sign" UR)
 (h27:FnIn K "growth" KB)
 (h28:FnIn K "shifted_side" CS)
 (h29:FnIn K "has_dot" HM)
 (h30:FnIn K "ins_and_outs" BL)
 (h31:FnIn K "sides_of" GE)
 (h32:FnIn K "side_counts" DN)
 (h33:FnIn K "fellow" KC)
 (h34:FnIn K "lacking" FK)
 (h35:FnIn K "is_closed" EW)
 (h36:FnIn K "law" WK)
 (z_abs:PySem.W.nsIn K mainGlobals "abs" = some none)
 (z_len:PySem.W.nsIn K mainGlobals "len" = some none)
 (z_max:PySem.W.nsIn K mainGlobals "max" = some none)
 (z_min:PySem.W.nsIn K mainGlobals "min" = some none)
 (z_range:PySem.W.nsIn K mainGlobals "range" = some none)
 (z_isinstance:PySem.W.nsIn K mainGlobals "isinstance" = some none)
 (z_int:PySem.W.nsIn K mainGlobals "int" = some none)
 (z_bool:PySem.W.nsIn K mainGlobals "bool" = some none)
 (z_tuple:PySem.W.nsIn K mainGlobals "tuple" = some none)
 (z_zip:PySem.W.nsIn K mainGlobals "zip" = some none)
 (z_sum:PySem.W.nsIn K mainGlobals "sum" = some none)
 (z_all:PySem.W.nsIn K mainGlobals "all" = some none)
 (z_any:PySem.W.nsIn K mainGlobals "any" = some none)
 (z_list:PySem.W.nsIn K mainGlobals "list" = some none)
 (z_sorted:PySem.W.nsIn K mainGlobals "sorted" = some none)
 {c_ShadeError:Addr} (e_ShadeError:PySem.W.nsIn K mainGlobals "ShadeError" = some (some (.ref c_ShadeError)))
 {c_NoMove:Addr} (e_NoMove:PySem.W.nsIn K mainGlobals "NoMove" = some (some (.ref c_NoMove)))
 {c_Behind:Addr} (e_Behind:PySem.W.nsIn K mainGlobals "Behind" = some (some (.ref c_Behind)))
 (q_NoMove:PySem.W.excIn K c_NoMove bmV "ValueError.__new__" = true) (x1_NoMove:PySem.W.findIn K (.ref c_NoMove) "__getattribute__" = some (some (.builtin "BaseException.__getattribute__"))) (x5_NoMove:PySem.W.findIn K (.ref c_NoMove) "__getattr__" = some none) (x6_NoMove:PySem.W.subIn K (.ref c_NoMove) (.type "BaseException")=some true) (x2_NoMove:PySem.W.findObj K c_NoMove none "__class__" = some (.bind (.builtin "getset_descriptor.__get__") (.builtin "object.__class__"))) (x3_NoMove:PySem.W.mroIn K c_NoMove (.type "object")=some true) (x4_NoMove:(PySem.W.clsIn K c_NoMove).isSome=true) (v_NoMove:PySem.W.subIn K (.ref c_NoMove) (.type "ValueError")=some true) (s_NoMove:PySem.W.subIn K (.ref c_NoMove) (.ref c_ShadeError)=some true)
 (n_NoMove_Behind:PySem.W.kin_not K c_NoMove c_Behind=true)
 (q_Behind:PySem.W.excIn K c_Behind bmV "ValueError.__new__" = true) (x1_Behind:PySem.W.findIn K (.ref c_Behind) "__getattribute__" = some (some (.builtin "BaseException.__getattribute__"))) (x5_Behind:PySem.W.findIn K (.ref c_Behind) "__getattr__" = some none) (x6_Behind:PySem.W.subIn K (.ref c_Behind) (.type "BaseException")=some true) (x2_Behind:PySem.W.findObj K c_Behind none "__class__" = some (.bind (.builtin "getset_descriptor.__get__") (.builtin "object.__class__"))) (x3_Behind:PySem.W.mroIn K c_Behind (.type "object")=some true) (x4_Behind:(PySem.W.clsIn K c_Behind).isSome=true) (v_Behind:PySem.W.subIn K (.ref c_Behind) (.type "ValueError")=some true) (s_Behind:PySem.W.subIn K (.ref c_Behind) (.ref c_ShadeError)=some true)
 (n_Behind_NoMove:PySem.W.kin_not K c_Behind c_NoMove=true)
 (xb1:(PySem.W.clsIn K c_ShadeError).isSome=true) (xb2:PySem.W.typeIn K (.ref c_ShadeError)=some (.type "type")) (xb3:PySem.W.subIn K (.ref c_ShadeError) (.type "BaseException")=some true)
 {ad_STILL:Addr} {od_STILL:Option Addr} {nd_STILL:Nat} {sd_STILL:Array (Option Value)}
 {td_STILL_0_0 td_STILL_0_1 td_STILL_0_2 td_STILL_0_3:Tok}    {ad_STILL_0:Addr} {od_STILL_0:Option Addr} {nd_STILL_0:Nat} {sd_STILL_0:Array (Option Value)}
 {td_STILL_1_0 td_STILL_1_1 td_STILL_1_2 td_STILL_1_3:Tok}    {ad_STILL_1:Addr} {od_STILL_1:Option Addr} {nd_STILL_1:Nat} {sd_STILL_1:Array (Option Value)}
 {td_STILL_2_0 td_STILL_2_1 td_STILL_2_2 td_STILL_2_3:Tok}    {ad_STILL_2:Addr} {od_STILL_2:Option Addr} {nd_STILL_2:Nat} {sd_STILL_2:Array (Option Value)}
 {td_STILL_3_0 td_STILL_3_1 td_STILL_3_2 td_STILL_3_3:Tok}    {ad_STILL_3:Addr} {od_STILL_3:Option Addr} {nd_STILL_3:Nat} {sd_STILL_3:Array (Option Value)}
 (zd_STILL:PySem.W.nsIn K mainGlobals "STILL" = some (some (.ref ad_STILL)))
 (ld_STILL:K.lookup ad_STILL=some ⟨.type "tuple",od_STILL,.seq #[.ref ad_STILL_0,.ref ad_STILL_1,.ref ad_STILL_2,.ref ad_STILL_3] nd_STILL,sd_STILL⟩)
 (ld_STILL_0:K.lookup ad_STILL_0=some ⟨.type "tuple",od_STILL_0,.seq #[.int (1) td_STILL_0_0,.int (0) td_STILL_0_1,.int (0) td_STILL_0_2,.int (0) td_STILL_0_3] nd_STILL_0,sd_STILL_0⟩)
 (ld_STILL_1:K.lookup ad_STILL_1=some ⟨.type "tuple",od_STILL_1,.seq #[.int (0) td_STILL_1_0,.int (1) td_STILL_1_1,.int (0) td_STILL_1_2,.int (0) td_STILL_1_3] nd_STILL_1,sd_STILL_1⟩)
 (ld_STILL_2:K.lookup ad_STILL_2=some ⟨.type "tuple",od_STILL_2,.seq #[.int (0) td_STILL_2_0,.int (0) td_STILL_2_1,.int (1) td_STILL_2_2,.int (0) td_STILL_2_3] nd_STILL_2,sd_STILL_2⟩)
 (ld_STILL_3:K.lookup ad_STILL_3=some ⟨.type "tuple",od_STILL_3,.seq #[.int (0) td_STILL_3_0,.int (0) td_STILL_3_1,.int (0) td_STILL_3_2,.int (1) td_STILL_3_3] nd_STILL_3,sd_STILL_3⟩)
 {ad_OTHERS:Addr} {od_OTHERS:Option Addr} {nd_OTHERS:Nat} {sd_OTHERS:Array (Option Value)}
 {td_OTHERS_0_0 td_OTHERS_0_1:Tok}    {ad_OTHERS_0:Addr} {od_OTHERS_0:Option Addr} {nd_OTHERS_0:Nat} {sd_OTHERS_0:Array (Option Value)}
 {td_OTHERS_1_0 td_OTHERS_1_1:Tok}    {ad_OTHERS_1:Addr} {od_OTHERS_1:Option Addr} {nd_OTHERS_1:Nat} {sd_OTHERS_1:Array (Option Value)}
 {td_OTHERS_2_0 td_OTHERS_2_1:Tok}    {ad_OTHERS_2:Addr} {od_OTHERS_2:Option Addr} {nd_OTHERS_2:Nat} {sd_OTHERS_2:Array (Option Value)}
 (zd_OTHERS:PySem.W.nsIn K mainGlobals "OTHERS" = some (some (.ref ad_OTHERS)))
 (ld_OTHERS:K.lookup ad_OTHERS=some ⟨.type "tuple",od_OTHERS,.seq #[.ref ad_OTHERS_0,.ref ad_OTHERS_1,.ref ad_OTHERS_2] nd_OTHERS,sd_OTHERS⟩)
 (ld_OTHERS_0:K.lookup ad_OTHERS_0=some ⟨.type "tuple",od_OTHERS_0,.seq #[.int (1) td_OTHERS_0_0,.int (2) td_OTHERS_0_1] nd_OTHERS_0,sd_OTHERS_0⟩)
 (ld_OTHERS_1:K.lookup ad_OTHERS_1=some ⟨.type "tuple",od_OTHERS_1,.seq #[.int (2) td_OTHERS_1_0,.int (0) td_OTHERS_1_1] nd_OTHERS_1,sd_OTHERS_1⟩)
 (ld_OTHERS_2:K.lookup ad_OTHERS_2=some ⟨.type "tuple",od_OTHERS_2,.seq #[.int (0) td_OTHERS_2_0,.int (1) td_OTHERS_2_1] nd_OTHERS_2,sd_OTHERS_2⟩)
 : ∃ fd:FuncData,(∀ (s:Shared) (v:Value),BindsTo s fd ⟨[v],[]⟩ [("_law_script",v)])/\∀ base:Heap,K.In base->base.Ns mainGlobals mg->FnOk l.prog w K mg base CX0 6 fa fd ["_law_script"] (OH K):=by
 obtain ⟨f0,d0,a0,F0⟩:=h0.ex
 obtain ⟨f1,d1,a1,F1⟩:=h1.ex
 obtain ⟨f2,d2,a2,F2⟩:=h2.ex
 obtain ⟨f3,d3,a3,F3⟩:=h3.ex
 obtain ⟨f4,d4,a4,F4⟩:=h4.ex
 obtain ⟨f5,d5,a5,F5⟩:=h5.ex
 obtain ⟨f6,d6,a6,F6⟩:=h6.ex
 obtain ⟨f7,d7,a7,F7⟩:=h7.ex
 obtain ⟨f8,d8,a8,F8⟩:=h8.ex
 obtain ⟨f9,d9,a9,F9⟩:=h9.ex
 obtain ⟨f10,d10,a10,F10⟩:=h10.ex
 obtain ⟨f11,d11,a11,F11⟩:=h11.ex
 obtain ⟨f12,d12,a12,F12⟩:=h12.ex
 obtain ⟨f13,d13,a13,F13⟩:=h13.ex
 obtain ⟨f14,d14,a14,F14⟩:=h14.ex
 obtain ⟨f15,d15,a15,F15⟩:=h15.ex
 obtain ⟨f16,d16,a16,F16⟩:=h16.ex
 obtain ⟨f17,d17,a17,F17⟩:=h17.ex
 obtain ⟨f18,d18,a18,F18⟩:=h18.ex
 obtain ⟨f19,d19,a19,F19⟩:=h19.ex
 obtain ⟨f20,d20,a20,F20⟩:=h20.ex
 obtain ⟨f21,d21,a21,F21⟩:=h21.ex
 obtain ⟨f22,d22,a22,F22⟩:=h22.ex
 obtain ⟨f23,d23,a23,F23⟩:=h23.ex
 obtain ⟨f24,d24,a24,F24⟩:=h24.ex
 obtain ⟨f25,d25,a25,F25⟩:=h25.ex
 obtain ⟨f26,d26,a26,F26⟩:=h26.ex
 obtain ⟨f27,d27,a27,F27⟩:=h27.ex
 obtain ⟨f28,d28,a28,F28⟩:=h28.ex
 obtain ⟨f29,d29,a29,F29⟩:=h29.ex
 obtain ⟨f30,d30,a30,F30⟩:=h30.ex
 obtain ⟨f31,d31,a31,F31⟩:=h31.ex
 obtain ⟨f32,d32,a32,F32⟩:=h32.ex
 obtain ⟨f33,d33,a33,F33⟩:=h33.ex
 obtain ⟨f34,d34,a34,F34⟩:=h34.ex
 obtain ⟨f35,d35,a35,F35⟩:=h35.ex
 obtain ⟨f36,d36,a36,F36⟩:=h36.ex
 have e:=hfa.symm.trans (PySem.W.mg_of X G a36)
 cases e
 have Z:Bi mg:=⟨PySem.W.mg_none_of X G z_abs,PySem.W.mg_none_of X G z_len,PySem.W.mg_none_of X G z_max,PySem.W.mg_none_of X G z_min,PySem.W.mg_none_of X G z_range,PySem.W.mg_none_of X G z_isinstance,PySem.W.mg_none_of X G z_int,PySem.W.mg_none_of X G z_bool,PySem.W.mg_none_of X G z_tuple,PySem.W.mg_none_of X G z_zip,PySem.W.mg_none_of X G z_sum,PySem.W.mg_none_of X G z_all,PySem.W.mg_none_of X G z_any,PySem.W.mg_none_of X G z_list,PySem.W.mg_none_of X G z_sorted⟩
 have bl:=F36.binds (ps:=["_law_script"]) fun _ _ _ _ _ _ us hl=>match us,hl with | [_],_=>rfl
 obtain ⟨oc,od,kV,doc,pm,an,cdv,ct,osl,el,lk,hcd⟩:=F36.ex
 refine ⟨d36,fun s v=>by rw [el];exact .of_eq rfl,fun base kb gb=>?_⟩
 have Y:Ex K mg base ⟨c_ShadeError,c_NoMove,c_Behind⟩:=⟨PySem.W.mg_of X G e_ShadeError,PySem.W.mg_of X G e_NoMove,PySem.W.mg_of X G e_Behind,J9l kb gb e_NoMove q_NoMove,⟨x1_NoMove,x5_NoMove,x2_NoMove,x3_NoMove,x4_NoMove,x6_NoMove⟩,v_NoMove,s_NoMove,n_NoMove_Behind,J9l kb gb e_Behind q_Behind,⟨x1_Behind,x5_Behind,x2_Behind,x3_Behind,x4_Behind,x6_Behind⟩,v_Behind,s_Behind,n_Behind_NoMove,⟨xb1,xb2,xb3⟩,⟨ad_STILL,PySem.W.mg_of X G zd_STILL,fun M H=>⟨ad_STILL,[V.ref ad_STILL_0,V.ref ad_STILL_1,V.ref ad_STILL_2,V.ref ad_STILL_3],rfl,.inr ⟨_,_,_,ld_STILL,rfl,rfl,(Nat.le_trans (Nat.le_of_ble_eq_true rfl) Y1),(Paired.cons rfl (Paired.cons rfl (Paired.cons rfl (Paired.cons rfl Paired.nil))))⟩,⟨_,_,rfl,⟨ad_STILL_0,[V.int (1),V.int (0),V.int (0),V.int (0)],rfl,.inr ⟨_,_,_,ld_STILL_0,rfl,rfl,(Nat.le_trans (Nat.le_of_ble_eq_true rfl) Y1),(Paired.cons ⟨_,rfl⟩ (Paired.cons ⟨_,rfl⟩ (Paired.cons ⟨_,rfl⟩ (Paired.cons ⟨_,rfl⟩ Paired.nil))))⟩,⟨_,_,rfl,rfl,⟨_,_,rfl,rfl,⟨_,_,rfl,rfl,⟨_,_,rfl,rfl,rfl⟩⟩⟩⟩⟩,⟨_,_,rfl,⟨ad_STILL_1,[V.int (0),V.int (1),V.int (0),V.int (0)],rfl,.inr ⟨_,_,_,ld_STILL_1,rfl,rfl,(Nat.le_trans (Nat.le_of_ble_eq_true rfl) Y1),(Paired.cons ⟨_,rfl⟩ (Paired.cons ⟨_,rfl⟩ (Paired.cons ⟨_,rfl⟩ (Paired.cons ⟨_,rfl⟩ Paired.nil))))⟩,⟨_,_,rfl,rfl,⟨_,_,rfl,rfl,⟨_,_,rfl,rfl,⟨_,_,rfl,rfl,rfl⟩⟩⟩⟩⟩,⟨_,_,rfl,⟨ad_STILL_2,[V.int (0),V.int (0),V.int (1),V.int (0)],rfl,.inr ⟨_,_,_,ld_STILL_2,rfl,rfl,(Nat.le_trans (Nat.le_of_ble_eq_true rfl) Y1),(Paired.cons ⟨_,rfl⟩ (Paired.cons ⟨_,rfl⟩ (Paired.cons ⟨_,rfl⟩ (Paired.cons ⟨_,rfl⟩ Paired.nil))))⟩,⟨_,_,rfl,rfl,⟨_,_,rfl,rfl,⟨_,_,rfl,rfl,⟨_,_,rfl,rfl,rfl⟩⟩⟩⟩⟩,⟨_,_,rfl,⟨ad_STILL_3,[V.int (0),V.int (0),V.int (0),V.int (1)],rfl,.inr ⟨_,_,_,ld_STILL_3,rfl,rfl,(Nat.le_trans (Nat.le_of_ble_eq_true rfl) Y1),(Paired.cons ⟨_,rfl⟩ (Paired.cons ⟨_,rfl⟩ (Paired.cons ⟨_,rfl⟩ (Paired.cons ⟨_,rfl⟩ Paired.nil))))⟩,⟨_,_,rfl,rfl,⟨_,_,rfl,rfl,⟨_,_,rfl,rfl,⟨_,_,rfl,rfl,rfl⟩⟩⟩⟩⟩,rfl⟩⟩⟩⟩⟩⟩,⟨ad_OTHERS,PySem.W.mg_of X G zd_OTHERS,fun M H=>⟨ad_OTHERS,[V.ref ad_OTHERS_0,V.ref ad_OTHERS_1,V.ref ad_OTHERS_2],rfl,.inr ⟨_,_,_,ld_OTHERS,rfl,rfl,(Nat.le_trans (Nat.le_of_ble_eq_true rfl) Y1),(Paired.cons rfl (Paired.cons rfl (Paired.cons rfl Paired.nil)))⟩,⟨_,_,rfl,⟨ad_OTHERS_0,[V.int (1),V.int (2)],rfl,.inr ⟨_,_,_,ld_OTHERS_0,rfl,rfl,(Nat.le_trans (Nat.le_of_ble_eq_true rfl) Y1),(Paired.cons ⟨_,rfl⟩ (Paired.cons ⟨_,rfl⟩ Paired.nil))⟩,⟨_,_,rfl,rfl,⟨_,_,rfl,rfl,rfl⟩⟩⟩,⟨_,_,rfl,⟨ad_OTHERS_1,[V.int (2),V.int (0)],rfl,.inr ⟨_,_,_,ld_OTHERS_1,rfl,rfl,(Nat.le_trans (Nat.le_of_ble_eq_true rfl) Y1),(Paired.cons ⟨_,rfl⟩ (Paired.cons ⟨_,rfl⟩ Paired.nil))⟩,⟨_,_,rfl,rfl,⟨_,_,rfl,rfl,rfl⟩⟩⟩,⟨_,_,rfl,⟨ad_OTHERS_2,[V.int (0),V.int (1)],rfl,.inr ⟨_,_,_,ld_OTHERS_2,rfl,rfl,(Nat.le_trans (Nat.le_of_ble_eq_true rfl) Y1),(Paired.cons ⟨_,rfl⟩ (Paired.cons ⟨_,rfl⟩ Paired.nil))⟩,⟨_,_,rfl,rfl,⟨_,_,rfl,rfl,rfl⟩⟩⟩,rfl⟩⟩⟩⟩⟩⟩
 have G0:=Callee.mk' F0 (SH (P:=l.prog) (w:=w) (base:=base) F0 Z Y) (PySem.W.mg_of X G a0) (F0.binds (by walk_at "b2"))
 have G1:=Callee.mk' F1 (LX (P:=l.prog) (w:=w) (base:=base) F1 Z Y) (PySem.W.mg_of X G a1) (F1.binds (by walk_at "b1"))
 have G2:=Callee.mk' F2 (LY (P:=l.prog) (w:=w) (base:=base) F2 Z Y ⟨G1⟩) (PySem.W.mg_of X G a2) (F2.binds (by walk_at "b2"))
 have G3:=Callee.mk' F3 (KK (P:=l.prog) (w:=w) (base:=base) F3 Z Y ⟨G2⟩) (PySem.W.mg_of X G a3) (F3.binds (by walk_at "b2"))
 have G4:=Callee.mk' F4 (FV (P:=l.prog) (w:=w) (base:=base) F4 Z Y ⟨G3,G2⟩) (PySem.W.mg_of X G a4) (F4.binds (by walk_at "b3"))
 have G5:=Callee.mk' F5 (J2l (P:=l.prog) (w:=w) (base:=base) F5 Z Y) (PySem.W.mg_of X G a5) (F5.binds (by walk_at "b0"))
 have G6:=Callee.mk' F6 (GY (P:=l.prog) (w:=w) (base:=base) F6 Z Y) (PySem.W.mg_of X G a6) (F6.binds (by walk_at "b2"))
 have G7:=Callee.mk' F7 (J2p (P:=l.prog) (w:=w) (base:=base) F7 Z Y ⟨G6⟩) (PySem.W.mg_of X G a7) (F7.binds (by walk_at "b2"))
 have G8:=Callee.mk' F8 (OZ (P:=l.prog) (w:=w) (base:=base) F8 Z Y) (PySem.W.mg_of X G a8) (F8.binds (by walk_at "b1"))
 have G9:=Callee.mk' F9 (J2n (P:=l.prog) (w:=w) (base:=base) F9 Z Y ⟨G8⟩) (PySem.W.mg_of X G a9) (F9.binds (by walk_at "b3"))
 have G10:=Callee.mk' F10 (SF (P:=l.prog) (w:=w) (base:=base) F10 Z Y) (PySem.W.mg_of X G a10) (F10.binds (by walk_at "b1"))
 have G11:=Callee.mk' F11 (HS (P:=l.prog) (w:=w) (base:=base) F11 Z Y ⟨G10⟩) (PySem.W.mg_of X G a11) (F11.binds (by walk_at "b1"))
 have G12:=Callee.mk' F12 (VA (P:=l.prog) (w:=w) (base:=base) F12 Z Y ⟨G8,G11⟩) (PySem.W.mg_of X G a12) (F12.binds (by walk_at "b1"))
 have G13:=Callee.mk' F13 (J2m (P:=l.prog) (w:=w) (base:=base) F13 Z Y ⟨G8,G11⟩) (PySem.W.mg_of X G a13) (F13.binds (by walk_at "b3"))
 have G14:=Callee.mk' F14 (UZ (P:=l.prog) (w:=w) (base:=base) F14 Z Y ⟨G8,G10⟩) (PySem.W.mg_of X G a14) (F14.binds (by walk_at "b3"))
 have G15:=Callee.mk' F15 (PC (P:=l.prog) (w:=w) (base:=base) F15 Z Y ⟨G5,G2,G7,G9,G12,G13,G14⟩) (PySem.W.mg_of X G a15) (F15.binds (by walk_at "b1"))
 have G16:=Callee.mk' F16 (GZ (P:=l.prog) (w:=w) (base:=base) F16 Z Y) (PySem.W.mg_of X G a16) (F16.binds (by walk_at "b2"))
 have G17:=Callee.mk' F17 (IQ (P:=l.prog) (w:=w) (base:=base) F17 Z Y ⟨G16⟩) (PySem.W.mg_of X G a17) (F17.binds (by walk_at "b1"))
 have G18:=Callee.mk' F18 (J2o (P:=l.prog) (w:=w) (base:=base) F18 Z Y ⟨G17,G6⟩) (PySem.W.mg_of X G a18) (F18.binds (by walk_at "b2"))
 have G19:=Callee.mk' F19 (LW (P:=l.prog) (w:=w) (base:=base) F19 Z Y ⟨G18⟩) (PySem.W.mg_of X G a19) (F19.binds (by walk_at "b2"))
 have G20:=Callee.mk' F20 (PD (P:=l.prog) (w:=w) (base:=base) F20 Z Y) (PySem.W.mg_of X G a20) (F20.binds (by walk_at "b2"))
 have G21:=Callee.mk' F21 (LV (P:=l.prog) (w:=w) (base:=base) F21 Z Y) (PySem.W.mg_of X G a21) (F21.binds (by walk_at "b1"))
 have G22:=Callee.mk' F22 (KJ (P:=l.prog) (w:=w) (base:=base) F22 Z Y) (PySem.W.mg_of X G a22) (F22.binds (by walk_at "b3"))
 have G23:=Callee.mk' F23 (SE (P:=l.prog) (w:=w) (base:=base) F23 Z Y) (PySem.W.mg_of X G a23) (F23.binds (by walk_at "b1"))
 have G24:=Callee.mk' F24 (J7c (P:=l.prog) (w:=w) (base:=base) F24 Z Y ⟨G22,G23⟩) (PySem.W.mg_of X G a24) (F24.binds (by walk_at "b1"))
 have G25:=Callee.mk' F25 (KH (P:=l.prog) (w:=w) (base:=base) F25 Z Y ⟨G22,G23⟩) (PySem.W.mg_of X G a25) (F25.binds (by walk_at "b3"))
 have G26:=Callee.mk' F26 (J7d (P:=l.prog) (w:=w) (base:=base) F26 Z Y) (PySem.W.mg_of X G a26) (F26.binds (by walk_at "b1"))
 have G27:=Callee.mk' F27 (YS (P:=l.prog) (w:=w) (base:=base) F27 Z Y) (PySem.W.mg_of X G a27) (F27.binds (by walk_at "b2"))
 have G28:=Callee.mk' F28 (IP (P:=l.prog) (w:=w) (base:=base) F28 Z Y ⟨G25,G26,G27⟩) (PySem.W.mg_of X G a28) (F28.binds (by walk_at "b3"))
 have G29:=Callee.mk' F29 (VC (P:=l.prog) (w:=w) (base:=base) F29 Z Y ⟨G28⟩) (PySem.W.mg_of X G a29) (F29.binds (by walk_at "b2"))
 have G30:=Callee.mk' F30 (IR (P:=l.prog) (w:=w) (base:=base) F30 Z Y ⟨G24,G29⟩) (PySem.W.mg_of X G a30) (F30.binds (by walk_at "b2"))
 have G31:=Callee.mk' F31 (SD (P:=l.prog) (w:=w) (base:=base) F31 Z Y) (PySem.W.mg_of X G a31) (F31.binds (by walk_at "b1"))
 have G32:=Callee.mk' F32 (KI (P:=l.prog) (w:=w) (base:=base) F32 Z Y ⟨G31⟩) (PySem.W.mg_of X G a32) (F32.binds (by walk_at "b1"))
 have G33:=Callee.mk' F33 (YT (P:=l.prog) (w:=w) (base:=base) F33 Z Y) (PySem.W.mg_of X G a33) (F33.binds (by walk_at "b1"))
 have G34:=Callee.mk' F34 (VB (P:=l.prog) (w:=w) (base:=base) F34 Z Y ⟨G32,G33⟩) (PySem.W.mg_of X G a34) (F34.binds (by walk_at "b1"))
 have G35:=Callee.mk' F35 (PB (P:=l.prog) (w:=w) (base:=base) F35 Z Y ⟨G34⟩) (PySem.W.mg_of X G a35) (F35.binds (by walk_at "b1"))
 exact Q1q (P:=l.prog) (w:=w) (base:=base) F36 Z Y ⟨G0,G4,G15,G19,G2,G20,G21,G30,G35,G34⟩
theorem Q7j {l:PySem.W.OpenLaw}{q:Program}{loose:List Str}{XP:(Str->Option Value)->Heap->Prop}{YP:World->Heap->Prop}{d:DefRec}{K:Params->Fg}(hn:l.most=some 63)(hdf:d.params.defaults=[])
 (hY:∀ (w:World) (h:Heap),YP w h->(K w.params).In h)
 (F:∀ (w:World) (mg:Str->Option Value) (fa:Addr) (h:Heap),(K w.params).In h->h.Ns mainGlobals mg->mg d.name=some (.ref fa) ->
  ∃ fd:FuncData,(∀ (s:Shared) (u:Value),BindsTo s fd ⟨[u],[]⟩ [("_law_script",u)])/\∀ base:Heap,(K w.params).In base->base.Ns mainGlobals mg->FnOk l.prog w (K w.params) mg base CX0 6 fa fd ["_law_script"] (OH (K w.params))) :
 PySem.W.WalkO q loose XP YP l.row.toRowW d [] (fun f vs=>PySem.call f vs) :=
 L2.J5s (n:=63) (k:=6) (x:="_law_script") (CX:=fun _=>CX0) (sp:=fun w=>OH (K w.params)) hn (by decide) hdf ⟨rfl,by decide,by decide⟩ hY F (fun _ _ a ns hl _ hS=>⟨a,ns,rfl,hS,hl,fun _=>rfl⟩) fun _ _ _ _ _ z=>z
end K
open PySem PySem.W PyProof.Rows
theorem PySem.W.Fast.tw2656185640611083198:True:=trivial
theorem PySem.W.Fast.tw6748416962320603420:True:=trivial
theorem PySem.W.Fast.tw10295457716198140507:True:=trivial
theorem PySem.W.Fast.tw15328761104064261018:True:=trivial
theorem PySem.W.Fast.tw2381133193030093658:True:=trivial
theorem PySem.W.Fast.tw8309042348644923162:True:=trivial
theorem PySem.W.Fast.tw7508487326888071769:True:=trivial
theorem PySem.W.Fast.tw11717547222829542841:True:=trivial
theorem PySem.W.Fast.tw914216339096949016:True:=trivial
theorem PySem.W.Fast.tw12688877168387729174:True:=trivial
theorem PySem.W.Fast.tw15389265784012051603:True:=trivial
theorem PySem.W.Fast.tw10517299740237453806:True:=trivial
theorem PySem.W.Fast.tw5611059622409079688:True:=trivial
theorem PySem.W.Fast.tw12080407415843324708:True:=trivial
theorem PySem.W.Fast.tw9795443579223317188:True:=trivial
theorem PySem.W.Fast.tw15448378237334434371:True:=trivial
theorem PySem.W.Fast.tw7862770066552839425:True:=trivial
theorem PySem.W.Fast.tw7291654467405157214:True:=trivial
local macro_rules | `(tactic| walk_at "fn") => `(tactic| (refine' _root_.K.fn_in ?a ?l ?c ?k; (case a => k_is); (case l => k_is); (case c => k_is); (case k => k_is)))
set_option maxRecDepth 100000 in
set_option maxHeartbeats 0 in
theorem PySem.Challenge.cw_onceshade_k92_whole_lines_through_bodies_holds : PySem.Challenge.rw_onceshade_k92_whole_lines_through_bodies.Holds := by
 w_on;o_law;k_head;(case hw=>w_witness2)
 k_fill
 refine K.Q7j (l:=PySem.Challenge.rw_onceshade_k92_whole_lines_through_bodies) rfl rfl (fun w h Y=>PySem.W.kIn_of Y) ?F
 case F =>
  intro w mg fa h KX G hmg
  refine' K.Q4i KX G hmg ?h0 ?h1 ?h2 ?h3 ?h4 ?h5 ?h6 ?h7 ?h8 ?h9 ?h10 ?h11 ?h12 ?h13 ?h14 ?h15 ?h16 ?h17 ?h18 ?h19 ?h20 ?h21 ?h22 ?h23 ?h24 ?h25 ?h26 ?h27 ?h28 ?h29 ?h30 ?h31 ?h32 ?h33 ?h34 ?h35 ?h36 ?z_abs ?z_len ?z_max ?z_min ?z_range ?z_isinstance ?z_int ?z_bool ?z_tuple ?z_zip ?z_sum ?z_all ?z_any ?z_list ?z_sorted ?e_ShadeError ?e_NoMove ?e_Behind ?q_NoMove ?x1_NoMove ?x5_NoMove ?x6_NoMove ?x2_NoMove ?x3_NoMove ?x4_NoMove ?v_NoMove ?s_NoMove ?n_NoMove_Behind ?q_Behind ?x1_Behind ?x5_Behind ?x6_Behind ?x2_Behind ?x3_Behind ?x4_Behind ?v_Behind ?s_Behind ?n_Behind_NoMove ?xb1 ?xb2 ?xb3 ?zd_STILL ?ld_STILL ?ld_STILL_0 ?ld_STILL_1 ?ld_STILL_2 ?ld_STILL_3 ?zd_OTHERS ?ld_OTHERS ?ld_OTHERS_0 ?ld_OTHERS_1 ?ld_OTHERS_2
  (case h0=>walk_at "fn")
  (case h1=>walk_at "fn")
  (case h2=>walk_at "fn")
  (case h3=>walk_at "fn")
  (case h4=>walk_at "fn")
  (case h5=>walk_at "fn")
  (case h6=>walk_at "fn")
  (case h7=>walk_at "fn")
  (case h8=>walk_at "fn")
  (case h9=>walk_at "fn")
  (case h10=>walk_at "fn")
  (case h11=>walk_at "fn")
  (case h12=>walk_at "fn")
  (case h13=>walk_at "fn")
  (case h14=>walk_at "fn")
  (case h15=>walk_at "fn")
  (case h16=>walk_at "fn")
  (case h17=>walk_at "fn")
  (case h18=>walk_at "fn")
  (case h19=>walk_at "fn")
  (case h20=>walk_at "fn")
  (case h21=>walk_at "fn")
  (case h22=>walk_at "fn")
  (case h23=>walk_at "fn")
  (case h24=>walk_at "fn")
  (case h25=>walk_at "fn")
  (case h26=>walk_at "fn")
  (case h27=>walk_at "fn")
  (case h28=>walk_at "fn")
  (case h29=>walk_at "fn")
  (case h30=>walk_at "fn")
  (case h31=>walk_at "fn")
  (case h32=>walk_at "fn")
  (case h33=>walk_at "fn")
  (case h34=>walk_at "fn")
  (case h35=>walk_at "fn")
  (case h36=>walk_at "fn")
  (case z_abs=>k_is)
  (case z_len=>k_is)
  (case z_max=>k_is)
  (case z_min=>k_is)
  (case z_range=>k_is)
  (case z_isinstance=>k_is)
  (case z_int=>k_is)
  (case z_bool=>k_is)
  (case z_tuple=>k_is)
  (case z_zip=>k_is)
  (case z_sum=>k_is)
  (case z_all=>k_is)
  (case z_any=>k_is)
  (case z_list=>k_is)
  (case z_sorted=>k_is)
  (case e_ShadeError=>k_is)
  (case e_NoMove=>k_is)
  (case e_Behind=>k_is)
  (case q_NoMove=>k_exc)
  (case x1_NoMove=>kernel_rfl)
  (case x5_NoMove=>kernel_rfl)
  (case x6_NoMove=>kernel_rfl)
  (case x2_NoMove=>kernel_rfl)
  (case x3_NoMove=>kernel_rfl)
  (case x4_NoMove=>kernel_rfl)
  (case v_NoMove=>kernel_rfl)
  (case s_NoMove=>kernel_rfl)
  (case n_NoMove_Behind=>kernel_rfl)
  (case q_Behind=>k_exc)
  (case x1_Behind=>kernel_rfl)
  (case x5_Behind=>kernel_rfl)
  (case x6_Behind=>kernel_rfl)
  (case x2_Behind=>kernel_rfl)
  (case x3_Behind=>kernel_rfl)
  (case x4_Behind=>kernel_rfl)
  (case v_Behind=>kernel_rfl)
  (case s_Behind=>kernel_rfl)
  (case n_Behind_NoMove=>kernel_rfl)
  (case xb1=>kernel_rfl)
  (case xb2=>kernel_rfl)
  (case xb3=>kernel_rfl)
  (case zd_STILL=>k_is)
  (case ld_STILL=>k_is)
  (case ld_STILL_0=>k_is)
  (case ld_STILL_1=>k_is)
  (case ld_STILL_2=>k_is)
  (case ld_STILL_3=>k_is)
  (case zd_OTHERS=>k_is)
  (case ld_OTHERS=>k_is)
  (case ld_OTHERS_0=>k_is)
  (case ld_OTHERS_1=>k_is)
  (case ld_OTHERS_2=>k_is)
