import PyProof.Rows.All
import Wide.All
import OpenK.AllK
import Wide.FinOn
import Lean
import PyProof.EqAt
import PyProof.EqKinds
import PyProof.TupleCall
import KE.KDictList
import PyProof.P3Eq
import PyProof.NeData
import PyProof.P3In
import PyProof.FactsAll.NoneType
import PyProof.Draws
import PyProof.Rows.SetFrom
import PyProof.SetRoads
import PyProof.DictUpdate
import KE.KDictSum
import KE.KRevIter
import KE.KRevSl
import KE.KEqDict
import KE.KSortTup
import PySem.Challenge.RW_crossbrace_k12_whole_leans_added
set_option Elab.async false
set_option linter.all false
set_option maxRecDepth 100000
set_option maxHeartbeats 4000000
namespace L2
open PySem PySem.Spec PyProof.Rows
noncomputable abbrev Key:=Sum Int Str
noncomputable def zav:Key->Value->Bool
 | .inl k,v=>Value.isInt k v
 | .inr x,v=>Value.isStrOf x v
noncomputable def zmM(w:World):Key->Int
 | .inl k=>hashInt k
 | .inr x=>hashStr w x
theorem yC:∀ {k:Key} {v:Value},zav k v=true->(∃ i t,k=Sum.inl i/\v=Value.int i t)∨(∃ x t,k=Sum.inr x/\v=Value.str x t)
 | .inl i,v,h=>by
  obtain ⟨t,e⟩:=Value.isInt_shape (k:=i) (v:=v) h
  exact .inl ⟨i,t,rfl,e⟩
 | .inr x,v,h=>by
  obtain ⟨t,e⟩:=Value.isStrOf_shape (x:=x) (v:=v) h
  exact .inr ⟨x,t,rfl,e⟩
theorem zgh(i:Int)(t:Tok):zav (.inl i) (.int i t)=true:=by simp [zav,Value.isInt]
theorem zgg(x:Str)(t:Tok):zav (.inr x) (.str x t)=true:=by simp [zav,Value.isStrOf]
theorem zlw(a b:Int):decide ((Sum.inl a:Key)=Sum.inl b)=(a == b):=by
 by_cases e:a=b
 ·subst e;simp
 ·have h:¬ (Sum.inl a:Key)=Sum.inl b:=fun q=>e (Sum.inl.inj q)
  rw [decide_eq_false h]
  exact (beq_eq_false_iff_ne.mpr e).symm
theorem zls(a b:Str):decide ((Sum.inr a:Key)=Sum.inr b)=decide (a=b):=by
 by_cases e:a=b
 ·subst e;simp
 ·have h:¬ (Sum.inr a:Key)=Sum.inr b:=fun q=>e (Sum.inr.inj q)
  rw [decide_eq_false h,decide_eq_false e]
theorem zlv(a:Int)(b:Str):decide ((Sum.inl a:Key)=Sum.inr b)=false:=decide_eq_false (fun q=>nomatch q)
theorem zlu(a:Str)(b:Int):decide ((Sum.inr a:Key)=Sum.inl b)=false:=decide_eq_false (fun q=>nomatch q)
noncomputable def yI(prog:Program)(w:World):PySem.KeyKind prog w Key where
 is:=zav
 hash:=zmM w
 inj:=fun v a b ha hb=>by
  rcases yC ha with ⟨i,t,rfl,rfl⟩ | ⟨x,t,rfl,rfl⟩
  ·rcases yC hb with ⟨j,u,rfl,e⟩ | ⟨y,u,rfl,e⟩
   ·injection e with e1 _;rw [e1]
   ·exact nomatch e
  ·rcases yC hb with ⟨j,u,rfl,e⟩ | ⟨y,u,rfl,e⟩
   ·exact nomatch e
   ·injection e with e1 _;rw [e1]
 byValue:=fun k v h=>by
  rcases yC h with ⟨i,t,rfl,rfl⟩ | ⟨x,t,rfl,rfl⟩<;>rfl
 pyHash:=fun hv h=>by
  rcases yC hv with ⟨i,t,rfl,rfl⟩ | ⟨x,t,rfl,rfl⟩
  ·exact wpAny_pyHash_int h
  ·exact wpAny_pyHash_str h
 eqBool:=fun hu hv h=>by
  rcases yC hu with ⟨i,t,rfl,rfl⟩ | ⟨x,t,rfl,rfl⟩
  ·rcases yC hv with ⟨j,u,rfl,rfl⟩ | ⟨y,u,rfl,rfl⟩
   ·rw [zlw] at h;exact wpAny_eqBool_int h
   ·rw [zlv] at h;exact SeqAt.EqAt.int_str i t y u _ _ _ _ h
  ·rcases yC hv with ⟨j,u,rfl,rfl⟩ | ⟨y,u,rfl,rfl⟩
   ·rw [zlu] at h;exact SeqAt.EqAt.str_int x t j u _ _ _ _ h
   ·rw [zls] at h;exact wpAny_eqBool_str h
 «strs»:=fun k x t v h=>by
  rcases yC h with ⟨i,u,rfl,e⟩ | ⟨y,u,rfl,e⟩
  ·exact nomatch e
  ·injection e with e1 _
   subst e1
   cases v<;>rfl
theorem zdn(prog:Program)(w:World)(i:Int)(t:Tok):(yI prog w).is (.inl i) (.int i t)=true:=zgh i t
theorem zdm(prog:Program)(w:World)(x:Str)(t:Tok):(yI prog w).is (.inr x) (.str x t)=true:=zgg x t
inductive V where
 | non | bl (b:Bool) | int (i:Int) | str (x:Str) | byt (b:Array UInt8) | flt (b:UInt64) | ref (a:Addr) | ty (n:String)
 deriving DecidableEq
noncomputable def RelV:V->Value->Prop
 | .non,u=>u=Value.none
 | .bl b,u=>u=Value.bool b
 | .int i,u=>∃ t,u=Value.int i t
 | .str x,u=>∃ t,u=Value.str x t
 | .byt b,u=>∃ t,u=Value.bytes b t
 | .flt b,u=>∃ t,u=Value.float b t
 | .ref a,u=>u=Value.ref a
 | .ty n,u=>u=Value.type n
noncomputable abbrev Vals:List V->List Value->Prop:=Paired RelV
theorem Vals.length{xs:List V}{us:List Value}(r:Vals xs us):xs.length=us.length:=Paired.length r
theorem Vals.get:∀ {xs:List V} {us:List Value} {i:Nat} {x:V},Vals xs us->xs[i]?=some x->∃ u,us[i]?=some u/\RelV x u
 | _,_,_,_,.nil,e=>by simp at e
 | _,_,0,_,.cons r _,e=>by simp at e;subst e;exact ⟨_,rfl,r⟩
 | _,_,i+1,x,.cons _ t,e=>by
  obtain ⟨u,h1,h2⟩:=Vals.get (i:=i) (x:=x) t (by simpa using e)
  exact ⟨u,by simpa using h1,h2⟩
theorem Vals.set{x:V}{u:Value}(r:RelV x u):∀ {xs:List V} {us:List Value} (i:Nat),Vals xs us->Vals (xs.set i x) (us.set i u)
 | _,_,_,.nil=>.nil
 | _,_,0,.cons _ t=>.cons r t
 | _,_,i+1,.cons q t=>.cons q (Vals.set r i t)
theorem Vals.append:∀ {xs ys:List V} {us ws:List Value},Vals xs us->Vals ys ws->Vals (xs++ys) (us++ws)
 | _,_,_,_,.nil,s=>s
 | _,_,_,_,.cons r t,s=>.cons r (Vals.append t s)
theorem Vals.take:∀ {xs:List V} {us:List Value} (n:Nat),Vals xs us->Vals (xs.take n) (us.take n)
 | _,_,0,_=>.nil
 | _,_,_+1,.nil=>.nil
 | _,_,n+1,.cons r t=>.cons r (Vals.take n t)
theorem Vals.drop:∀ {xs:List V} {us:List Value} (n:Nat),Vals xs us->Vals (xs.drop n) (us.drop n)
 | _,_,0,r=>r
 | _,_,_+1,.nil=>.nil
 | _,_,n+1,.cons _ t=>Vals.drop n t
noncomputable def RelO:Option V->Option Value->Prop
 | some v,some u=>RelV v u
 | none,none=>True
 | _,_=>False
noncomputable def KV{κ:Type}:List (κ × V)->List (κ × Value)->Prop:=Paired fun (p:κ × V) (q:κ × Value)=>p.1=q.1/\RelV p.2 q.2
noncomputable def kV:Key->V
 | .inl i=>.int i
 | .inr x=>.str x
inductive HO where
 | lst (xs : List V)
 | tup (xs : List V)
 | dK (kvs : List (Key × V)) | dT (kvs : List (List Key × V))
 | set (S : Int → Bool) (n : Nat)
 | ins (C dx : Addr) (fs : List (Str × V))
 | own (x : Addr)
 | xd (fs : List (Str × V))
 | met (f x : Addr)
 | rng (lo hi : Int)
 | frz (o : Obj) (u : HO)
 | tbl (ps : Array Value)
 | ext (φ : Heap → Prop)
noncomputable abbrev Hp:=Addr->Option HO
noncomputable def upd(H:Hp)(a:Addr)(o:HO):Hp:=fun b=>if b=a then some o else H b
theorem zd{H:Hp}{a:Addr}{o:HO}:upd H a o a=some o:=by unfold upd;rw [if_pos rfl]
theorem zk{H:Hp}{a b:Addr}{o:HO}(h:b≠a):upd H a o b=H b:=by unfold upd;rw [if_neg h]
theorem zmG{H:Hp}{a b:Addr}{o u:HO}(h:H a=some o)(h':H b=some u)(d:o≠u):a≠b:=by
 intro e;subst e;rw [h] at h';exact d (Option.some.inj h')
theorem yh{H:Hp}{a b:Addr}{o:HO}(h:H a=some o)(h':H b=none):a≠b:=by
 intro e;subst e;rw [h] at h';cases h'
section
variable (P:Program) (w:World)
noncomputable def ObjOk(H:Hp)(h:Heap)(a:Addr):HO->Prop
 | .lst xs=>xs.length≤sizeLine/\∃ (its:List Value) (n:Nat),Vals xs its/\h.get? a=some { cls:=.type "list",data:=.seq its.toArray n }
 | .tup xs=>xs.length≤sizeLine/\∃ its:List Value,Vals xs its/\IsTup h a its.toArray
 | .dK kvs=>kvs.length≤sizeLine/\(a == sysModules)=false/\∃ vs,KV kvs vs/\h.DictOf (yI P w) a vs
 | .dT kvs=>kvs.length≤sizeLine/\(a == sysModules)=false/\∃ xs:List (List Key × Addr × Value),
   Paired (fun (p:List Key × V) (q:List Key × Addr × Value)=>p.1=q.1/\H q.2.1=some (.tup (p.1.map kV))/\RelV p.2 q.2.2) kvs xs/\
   ∃ o es ep,h.get? a=some o/\o.ExactDict/\o.data=.dict es ep/\es.toList=xs.map (entryOfKey (tupleKind (yI P w)))/\(xs.map (·.1)).Nodup
 | .set S n=>h.SetOf (intKind P w) a S n
 | .ins C dx fs=>H dx=some (.own a)/\fs.length≤1000/\dx≠a/\h.get? a=some (PySem.W.instObj C dx)/\
   ∃ mA,h.Ns1 dx mA/\(∀ f,RelO (fs.lookup f) (mA f))/\PySem.Within mA (fs.map (·.1))
 | .own _=>∃ o,h.get? a=some o
 | .xd fs=>∃ mA,h.Ns1 a mA/\∀ f,RelO (fs.lookup f) (mA f)
 | .rng lo hi=>∃ t u v,h.get? a=some { cls:=.type "range",data:=.fields #[.int lo t,.int hi u,.int 1 v] }
 | .frz o u=>h.get? a=some o/\ObjOk H h a u
 | .tbl ps=>h.get? a=some { cls:=.none,data:=.fields ps }
 | .met f x=>h.get? a=some (PySem.W.methodObj (.ref f) (.ref x))
 | .ext φ=>φ h/\(∃ o,h.get? a=some o)/\∀ h1 h2:Heap,φ h1->(∀ o,h1.get? a=some o->h2.get? a=some o)->φ h2
noncomputable def HOk(H:Hp)(h:Heap):Prop:=∀ a o,H a=some o->ObjOk P w H h a o
end
section
variable {P:Program} {w:World} {H H':Hp} {h h':Heap} {a:Addr} {o:HO}
theorem ObjOk.lt(x:ObjOk P w H h a o):a<h.objs.size:=by
 cases o with
 | lst xs=>obtain ⟨_,_,_,_,e⟩:=x;exact Heap.lt_size e
 | tup xs=>obtain ⟨_,_,_,p⟩:=x;exact p.lt
 | dK kvs=>obtain ⟨_,_,_,_,o,_,_,e,_⟩:=x;exact Heap.lt_size e
 | dT kvs=>obtain ⟨_,_,_,_,o,_,_,e,_⟩:=x;exact Heap.lt_size e
 | set S n=>obtain ⟨o,_,_,_,e,_⟩:=x;exact Heap.lt_size e
 | ins C dx fs=>obtain ⟨_,_,_,e,_⟩:=x;exact Heap.lt_size e
 | own y=>obtain ⟨_,e⟩:=x;exact Heap.lt_size e
 | xd fs=>obtain ⟨_,⟨_,_,_,e,_⟩,_⟩:=x;exact Heap.lt_size e
 | rng lo hi=>obtain ⟨_,_,_,e⟩:=x;exact Heap.lt_size e
 | frz ob u=>obtain ⟨e,_⟩:=x;exact Heap.lt_size e
 | tbl ps=>exact Heap.lt_size (show h.get? a=some _ from x)
 | met f y=>exact Heap.lt_size (show h.get? a=some _ from x)
 | ext φ=>obtain ⟨_,⟨_,e⟩,_⟩:=x;exact Heap.lt_size e
theorem Paired.mapP{α β:Type}{F G:α->β->Prop}:∀ {l₁:List α} {l₂:List β},Paired F l₁ l₂->(∀ a b,F a b->G a b)->Paired G l₁ l₂
 | _,_,.nil,_=>.nil
 | _,_,.cons r t,f=>.cons (f _ _ r) (Paired.mapP t f)
theorem ObjOk.stay(x:ObjOk P w H h a o)(k:∀ b u,(b=a∨H b=some (.own a))->h.get? b=some u->h'.get? b=some u)
  (ho:∀ b,H b=some (.own a)->H' b=some (.own a))(ht:∀ b xs,H b=some (.tup xs)->H' b=some (.tup xs)):ObjOk P w H' h' a o:=by
 induction o with
 | lst xs=>obtain ⟨z,its,n,r,e⟩:=x;exact ⟨z,its,n,r,k _ _ (.inl rfl) e⟩
 | tup xs=>obtain ⟨z,its,r,ob,e,c⟩:=x;exact ⟨z,its,r,ob,k _ _ (.inl rfl) e,c⟩
 | dK kvs=>obtain ⟨z,y,vs,r,ob,es,ep,e,c⟩:=x;exact ⟨z,y,vs,r,ob,es,ep,k _ _ (.inl rfl) e,c⟩
 | dT kvs=>
  obtain ⟨z,y,xs,r,ob,es,ep,e,c⟩:=x
  exact ⟨z,y,xs,Paired.mapP r fun p q z=>⟨z.1,ht _ _ z.2.1,z.2.2⟩,ob,es,ep,k _ _ (.inl rfl) e,c⟩
 | set S n=>obtain ⟨ob,es,ep,t,e,c⟩:=x;exact ⟨ob,es,ep,t,k _ _ (.inl rfl) e,c⟩
 | ins C dx fs=>
  obtain ⟨d,z,ne,e,mA,⟨od,es,ep,e2,c⟩,r⟩:=x
  exact ⟨ho _ d,z,ne,k _ _ (.inl rfl) e,mA,⟨od,es,ep,k _ _ (.inr d) e2,c⟩,r⟩
 | own y=>obtain ⟨ob,e⟩:=x;exact ⟨ob,k _ _ (.inl rfl) e⟩
 | xd fs=>obtain ⟨mA,⟨od,es,ep,e,c⟩,r⟩:=x;exact ⟨mA,⟨od,es,ep,k _ _ (.inl rfl) e,c⟩,r⟩
 | rng lo hi=>obtain ⟨t,u,v,e⟩:=x;exact ⟨t,u,v,k _ _ (.inl rfl) e⟩
 | frz ob u ih=>obtain ⟨e,q⟩:=x;exact ⟨k _ _ (.inl rfl) e,ih q⟩
 | tbl ps=>
  have e:h.get? a=some { cls:=.none,data:=.fields ps }:=x
  show h'.get? a=some { cls:=.none,data:=.fields ps }
  exact k a _ (.inl rfl) e
 | met f y=>
  have e:h.get? a=some (PySem.W.methodObj (.ref f) (.ref y)):=x
  show h'.get? a=some (PySem.W.methodObj (.ref f) (.ref y))
  exact k a _ (.inl rfl) e
 | ext φ=>obtain ⟨p,⟨o,e⟩,st⟩:=x;exact ⟨st _ _ p fun o q=>k _ _ (.inl rfl) q,⟨o,k _ _ (.inl rfl) e⟩,st⟩
theorem HOk.lt(x:HOk P w H h)(e:H a=some o):a<h.objs.size:=(x a o e).lt
theorem HOk.fresh(x:HOk P w H h)(e:h.objs.size≤a):H a=none:=by
 cases q:H a with
 | none=>rfl
 | some u=>exact absurd (Nat.lt_of_lt_of_le (x.lt q) e) (Nat.lt_irrefl _)
theorem HOk.kept(x:HOk P w H h)(k:∀ b u,h.get? b=some u->h'.get? b=some u):HOk P w H h':=fun a o e=>
 (x a o e).stay (fun b u _ q=>k b u q) (fun _ q=>q) fun _ _ q=>q
theorem HOk.laid(x:HOk P w H h)(k:∀ b u,h.get? b=some u->h'.get? b=some u)(hp:h.objs.size≤a)(new:ObjOk P w (upd H a o) h' a o):HOk P w (upd H a o) h':=fun b u e=>by
 have hn:=x.fresh hp
 by_cases hb:b=a
 ·subst hb;rw [zd] at e;cases e;exact new
 ·rw [zk hb] at e
  exact (x b u e).stay (fun c v _ q=>k c v q) (fun c q=>by rw [zk (yh q hn)];exact q) fun c xs q=>by rw [zk (yh q hn)];exact q
end
noncomputable def Rd(H:Hp)(a:Addr)(u:HO):Prop:=H a=some u∨∃ o,H a=some (.frz o u)
theorem Rd.ok{P:Program}{w:World}{H:Hp}{h:Heap}{a:Addr}{u:HO}(r:Rd H a u)(x:HOk P w H h):ObjOk P w H h a u:=by
 rcases r with r | ⟨o,r⟩
 ·exact x a u r
 ·obtain ⟨_,q⟩:=x a _ r
  exact q
noncomputable def Mut:Option HO->Prop
 | some (.lst _)=>True
 | some (.dK _)=>True
 | some (.dT _)=>True
 | some (.set _ _)=>True
 | some (.ins _ _ _)=>True
 | some (.ext _)=>True
 | _=>False
section
variable {P:Program} {w:World} {H:Hp} {h h':Heap} {x e:Addr} {o':HO}
theorem HOk.write(ok:HOk P w H h)(mu:Mut (H x))(he:e=x∨H e=some (.own x))(k:∀ b u,b≠e->h.get? b=some u->h'.get? b=some u)(heo:∃ u,h'.get? e=some u)
  (new:ObjOk P w (upd H x o') h' x o'):HOk P w (upd H x o') h':=fun b u q=>by
 have nown:∀ c y,H c=some (.own y)->c≠x:=fun c y r z=>by subst z;rw [r] at mu;exact mu
 have ntup:∀ c xs,H c=some (.tup xs)->c≠x:=fun c xs r z=>by subst z;rw [r] at mu;exact mu
 by_cases hb:b=x
 ·subst hb;rw [zd] at q;cases q;exact new
 ·rw [zk hb] at q
  by_cases hbe:b=e
  ·have q':H b=some (.own x):=by
    rcases he with z | z
    ·exact absurd (hbe.trans z) hb
    ·rw [hbe];exact z
   rw [q] at q';cases q'
   obtain ⟨v,hv⟩:=heo
   exact ⟨v,by rw [hbe];exact hv⟩
  ·refine (ok b u q).stay (fun c v hc r=>k c v ?_ r) (fun c r=>by rw [zk (nown c b r)];exact r) fun c xs r=>by rw [zk (ntup c xs r)];exact r
   rcases hc with rfl | hc
   ·exact hbe
   ·rintro rfl
    rcases he with z | z
    ·exact nown c b hc z
    ·rw [hc] at z;cases z;exact hb rfl
end
structure Un (fs ex:List Addr) (H H':Hp) (h h':Heap):Prop where
 keep:∀ b o,h.get? b=some o->H b=none->b ∉ fs->b ∉ ex->h'.get? b=some o
 slot:∀ b o,h.get? b=some o->H b=none->b ∈ fs->b ∉ ex->∃ sl,h'.get? b=some { o with slots:=sl }
 free:∀ b o,h.get? b=some o->H b=none->b ∉ ex->H' b=none
 there:∀ b o,h.get? b=some o->b ∉ ex->∃ o',h'.get? b=some o'
 tups:∀ b xs,H b=some (.tup xs)->H' b=some (.tup xs)
 frzs:∀ b o u,H b=some (.frz o u)->H' b=some (.frz o u)
 tbls:∀ b ps,H b=some (.tbl ps)->∃ more,H' b=some (.tbl (ps++more))
section
variable {fs fs' ex ex':List Addr} {H H1 H2:Hp} {h h1 h2 h':Heap} {a x e:Addr} {o:HO}
theorem Un.any(u:Un fs ex H H1 h h1){b:Addr}{ob:Obj}(q:h.get? b=some ob)(n:H b=none)(hx:b ∉ ex):∃ sl,h1.get? b=some { ob with slots:=sl }:=by
 by_cases hb:b ∈ fs
 ·exact u.slot b ob q n hb hx
 ·exact ⟨ob.slots,u.keep b ob q n hb hx⟩
theorem Un.kept(k:∀ b u,h.get? b=some u->h'.get? b=some u):Un fs ex H H h h':=
 ⟨fun b ob q _ _ _=>k b ob q,fun b ob q _ _ _=>⟨ob.slots,k b ob q⟩,fun _ _ _ n _=>n,fun b ob q _=>⟨ob,k b ob q⟩,fun _ _ q=>q,fun _ _ _ q=>q,fun _ ps q=>⟨#[],by rw [q];simp⟩⟩
theorem Un.refl:Un fs ex H H h h:=Un.kept fun _ _ q=>q
theorem Un.laid(k:∀ b u,h.get? b=some u->h'.get? b=some u)(hp:h.objs.size≤a)(hn:H a=none):Un fs ex H (upd H a o) h h' where
 keep:=fun b u q _ _ _=>k b u q
 slot:=fun b u q _ _ _=>⟨u.slots,k b u q⟩
 free:=fun b u q n _=>by rw [zk (Nat.ne_of_lt (Nat.lt_of_lt_of_le (Heap.lt_size q) hp))];exact n
 there:=fun b u q _=>⟨u,k b u q⟩
 tups:=fun b xs q=>by rw [zk (yh q hn)];exact q
 frzs:=fun b u xs q=>by rw [zk (yh q hn)];exact q
 tbls:=fun b ps q=>⟨#[],by rw [zk (yh q hn),q];simp⟩
theorem Un.write(mu:Mut (H x))(he:e=x∨H e=some (.own x))(k:∀ b u,b≠e->h.get? b=some u->h'.get? b=some u)(heo:∃ u,h'.get? e=some u):Un fs ex H (upd H x o) h h':=by
 have hx:∀ b,H b=none->b≠x:=fun b n z=>by subst z;rw [n] at mu;exact mu
 have hb:∀ b,H b=none->b≠e:=fun b n z=>by
  subst z
  rcases he with r | r
  ·exact hx b n r
  ·rw [n] at r;cases r
 have hm:∀ b u,H b=some u->¬ Mut (some u)->b≠x:=fun b u q nm z=>by subst z;rw [q] at mu;exact nm mu
 refine ⟨fun b u q n _ _=>k b u (hb b n) q,fun b u q n _ _=>⟨u.slots,k b u (hb b n) q⟩,fun b u q n _=>by rw [zk (hx b n)];exact n,fun b u q _=>?_,
  fun b xs q=>by rw [zk (hm b _ q fun z=>z)];exact q,fun b u xs q=>by rw [zk (hm b _ q fun z=>z)];exact q,fun b ps q=>⟨#[],by rw [zk (hm b _ q fun z=>z),q];simp⟩⟩
 by_cases hbe:b=e
 ·subst hbe;exact heo
 ·exact ⟨u,k b u hbe q⟩
end
noncomputable def trk(h:Heap)(H:Hp):List Addr:=(List.range h.objs.size).filter fun a=>(H a).isSome
noncomputable def zcy(h:Heap)(H:Hp):Heap:=PySem.W.hideAll h (trk h H)
theorem zgj(h:Heap)(H:Hp):(zcy h H).objs.size=h.objs.size:=PySem.W.hideAll_size _ _
theorem zin{h:Heap}{H:Hp}{b:Addr}{o:Obj}(e:h.get? b=some o)(n:H b=none):(zcy h H).get? b=some o:=
 PySem.W.hideAll_get _ e fun hm=>by
  have q:(H b).isSome=true:=(List.mem_filter.mp hm).2
  rw [n] at q;simp at q
theorem zjS{h:Heap}{H:Hp}{b:Addr}{o:Obj}(e:(zcy h H).get? b=some o):h.get? b=some o/\H b=none:=by
 have e':h.get? b=some o:=PySem.W.of_hideAll (trk h H) e
 refine ⟨e',?_⟩
 cases q:H b with
 | none=>rfl
 | some x=>
  have hm:b ∈ trk h H:=List.mem_filter.mpr ⟨List.mem_range.mpr (Heap.lt_size e'),by simp [q]⟩
  have z:(zcy h H).get? b=none:=PySem.W.hideAll_none (trk h H) hm
  rw [z] at e;cases e
noncomputable def zkp(g h:Heap)(L:Addr):List (Addr × Obj):=(List.range h.objs.size).filterMap fun a=>if a=L∨(g.get? a).isSome=true then none else (h.get? a).map fun o=>(a,o)
noncomputable def wV(g h:Heap)(L d:Addr):List (Addr × Obj):=(zkp g h L).filter fun p=>decide (p.1≠d)
structure Mod (K:PySem.W.Frag) (mg:Str->Option Value) (base:Heap):Prop where
 kin:K.In base
 glob:base.Ns mainGlobals mg
 blt:∃ mb,base.Ns builtinsNs mb/\∀ x:Str,x≠"__name__"->mb x=bootBuiltins x
 nolimit:base.NoLimit
structure Cx where
 prog:Program
 w:World
 K:PySem.W.Frag
 mg:Str->Option Value
 base:Heap
 A:Around
 N:List Str
 s₀:Shared
 H₀:Hp
 env:Env
 outer:List Env
 stack:List Env
 ex:List Addr
 fn:Str->Bool
 calm:Bool
 pn:List (Addr × Obj)
 xe:Value->Shared->Prop
noncomputable def frs(l:List Env):List Addr:=l.filterMap (·.frame)
noncomputable abbrev Cx.fs(X:Cx):List Addr:=frs X.outer
noncomputable def Vis(sc:Scope)(x:Str):Prop:=sc.names.lookup x=some .local∨sc.names.lookup x=some .cell∨sc.names.lookup x=some .free
noncomputable def Loc(sc:Scope)(x:Str):Prop:=sc.names.lookup x=some .local∨sc.names.lookup x=some .cell
noncomputable def zon(env:Env)(h:Heap)(m:Str->Option Value)(x:Str)(u:Value):Prop:=
 (env.kindOf x=some .local/\m x=some u)∨((env.kindOf x=some .cell∨env.kindOf x=some .free)/\∃ c,env.cells.lookup x=some c/\h.IsCell c (some u))
structure Cx.Ok (X:Cx):Prop where
 mod:Mod X.K X.mg X.base
 kind:X.env.scope.kind=.function
 glob:X.env.globals=mainGlobals
 blt:X.env.builtins=builtinsNs
 above:X.s₀.heap.objs.size≤X.env.locals
 inj:∀ x y c,X.env.cells.lookup x=some c->X.env.cells.lookup y=some c->x=y
 has:∀ x,(X.env.kindOf x=some .cell∨X.env.kindOf x=some .free)->∃ c,X.env.cells.lookup x=some c
 cab:∀ x c,X.fn x=true->X.env.cells.lookup x=some c->X.s₀.heap.objs.size≤c
 hd:X.calm=true->X.A.handled=none
 frames:X.A.frames=some X.stack
 stk:X.stack=X.outer∨(X.stack=X.env::X.outer/\X.env.frame=some X.env.locals)
 exf:∀ b ∈ X.ex,b≠X.env.locals/\∀ x c,X.env.cells.lookup x=some c->c≠b
 bs:∀ b o,X.base.get? b=some o->X.s₀.heap.get? b=some o/\X.H₀ b=none
 bsz:X.base.objs.size≤X.s₀.heap.objs.size
 noex:∀ b o,X.base.get? b=some o->b ∉ X.ex
 exfs:∀ b ∈ X.ex,b ∉ X.fs
 funs:X.s₀.heap.FunFrames X.base X.outer
 frf:∀ b ∈ X.fs,X.H₀ b=none
structure Inv (X:Cx) (pins:List (Addr × Obj)) (σ:List (Option V)) (H:Hp) (s:Shared):Prop where
 ok:X.Ok
 os:s.os=X.s₀.os
 bare:AllBare s.gens
 base:Un X.fs X.ex X.H₀ H X.s₀.heap s.heap
 loc:∃ m,s.heap.Ns X.env.locals m/\∀ (i:Nat) (x:Str) (v:V),X.N[i]?=some x->σ[i]?=some (some v)->Vis X.env.scope x->∃ u,RelV v u/\zon X.env s.heap m x u
 cell:∀ x c,X.env.cells.lookup x=some c->∃ v,s.heap.IsCell c v
 free:H X.env.locals=none
 freeC:∀ x c,X.env.cells.lookup x=some c->H c=none
 pin:∀ p ∈ X.pn++pins,s.heap.get? p.1=some p.2/\H p.1=none/\p.1≠X.env.locals/\p.1 ∉ X.fs/\∀ v,p.2.data≠.cell v
 hok:HOk X.prog X.w H s.heap
 len:σ.length=X.N.length
section
variable {X:Cx} {pins:List (Addr × Obj)} {σ:List (Option V)} {H H':Hp} {s:Shared} {h':Heap}
theorem Cx.Ok.nofr(ok:X.Ok){b:Addr}{o:Obj}(e:X.base.get? b=some o):b ∉ X.fs:=fun hb=>by
 have:=(ok.funs.mem hb).1
 rw [e] at this;cases this
theorem Inv.bs(I:Inv X pins σ H s):∀ b o,X.base.get? b=some o->s.heap.get? b=some o/\H b=none:=fun b o e=>
 ⟨I.base.keep b o (I.ok.bs b o e).1 (I.ok.bs b o e).2 (I.ok.nofr e) (I.ok.noex b o e),I.base.free b o (I.ok.bs b o e).1 (I.ok.bs b o e).2 (I.ok.noex b o e)⟩
theorem Inv.bk(I:Inv X pins σ H s):∀ b o,X.base.get? b=some o->s.heap.get? b=some o:=fun b o e=>(I.bs b o e).1
theorem Inv.mod(I:Inv X pins σ H s):Mod X.K X.mg X.base:=I.ok.mod
theorem Inv.kIn(I:Inv X pins σ H s):X.K.In s.heap:=I.ok.mod.kin.keeps I.bk
theorem Inv.lt(I:Inv X pins σ H s):X.env.locals<s.heap.objs.size:=let ⟨_,hn,_⟩:=I.loc;hn.lt
theorem Inv.sz(I:Inv X pins σ H s):X.s₀.heap.objs.size≤s.heap.objs.size:=Nat.le_trans I.ok.above (Nat.le_of_lt I.lt)
theorem Inv.nofs(I:Inv X pins σ H s){a:Addr}(h:s.heap.objs.size≤a):a ∉ X.fs:=fun hb=>by
 obtain ⟨_,o,ho,_⟩:=I.ok.funs.mem hb
 exact absurd (Nat.lt_of_lt_of_le (Heap.lt_size ho) (Nat.le_trans I.sz h)) (Nat.lt_irrefl _)
theorem Inv.cne(I:Inv X pins σ H s):∀ x c,X.env.cells.lookup x=some c->c≠X.env.locals:=fun x c e z=>by
 obtain ⟨v,o,ho,hd⟩:=I.cell x c e
 obtain ⟨m,⟨o',es,ep,ho',hd',_⟩,_⟩:=I.loc
 rw [z,ho'] at ho;cases ho;rw [hd'] at hd;cases hd
theorem Inv.funs(I:Inv X pins σ H s):s.heap.FunFrames X.base X.outer:=by
 have all:∀ (l:List Env),(∀ b ∈ frs l,b ∈ X.fs)->X.s₀.heap.FunFrames X.base l->s.heap.FunFrames X.base l:=by
  intro l
  induction l with
  | nil=>intro _ _;trivial
  | cons env r ih=>
   intro hs hl
   obtain ⟨hk,⟨L,o,hf,hn,ho,hd⟩,hr⟩:=hl
   have hL:L ∈ X.fs:=hs L (by unfold frs;rw [List.filterMap_cons,hf];exact List.mem_cons_self)
   obtain ⟨sl,e⟩:=I.base.slot L o ho (I.ok.frf L hL) hL fun z=>I.ok.exfs L z hL
   exact ⟨hk,⟨L,_,hf,hn,e,hd⟩,ih (fun b hb=>hs b (by unfold frs;rw [List.filterMap_cons,hf];exact List.mem_cons_of_mem _ hb)) hr⟩
 exact all X.outer (fun _ hb=>hb) I.ok.funs
theorem Inv.stack(I:Inv X pins σ H s):s.heap.FunFrames X.base X.stack:=by
 rcases I.ok.stk with e | ⟨e,hf⟩
 ·rw [e];exact I.funs
 ·rw [e]
  obtain ⟨m,hn,_⟩:=I.loc
  refine .cons (by rw [I.ok.kind];decide) hf hn ?_ I.funs
  exact Heap.get?_none_of_le (Nat.le_trans I.ok.bsz I.ok.above)
theorem Inv.stkSub(I:Inv X pins σ H s):∀ b ∈ frs X.stack,b ∈ X.env.locals::X.fs:=fun b hb=>by
 rcases I.ok.stk with e | ⟨e,hf⟩
 ·rw [e] at hb;exact List.mem_cons_of_mem _ hb
 ·rw [e] at hb
  unfold frs at hb
  rw [List.filterMap_cons,hf] at hb
  exact hb
theorem Inv.stkFree(I:Inv X pins σ H s):∀ b ∈ frs X.stack,H b=none:=fun b hb=>by
 rcases List.mem_cons.mp (I.stkSub b hb) with e | hb
 ·rw [e];exact I.free
 ·obtain ⟨_,o,ho,_⟩:=I.ok.funs.mem hb
  exact I.base.free b o ho (I.ok.frf b hb) fun z=>I.ok.exfs b z hb
theorem Inv.step{g':Array GenState}{t':Nat}{d':Drawn}{ch:List Addr}(I:Inv X pins σ H s)
  (hch:∀ b ∈ ch,(b ∈ X.ex∨X.s₀.heap.objs.size≤b)/\b≠X.env.locals/\(∀ x c,X.env.cells.lookup x=some c->c≠b)/\∀ p ∈ X.pn++pins,p.1≠b)
  (keep:∀ b o,b≠X.env.locals->b ∉ X.fs->b ∉ ch->s.heap.get? b=some o->H b=none->h'.get? b=some o)
  (slot:∀ b o,b≠X.env.locals->b ∈ X.fs->b ∉ ch->s.heap.get? b=some o->H b=none->∃ sl,h'.get? b=some { o with slots:=sl })(free:∀ b o,b ∉ ch->s.heap.get? b=some o->H b=none->H' b=none)
  (there:∀ b o,b ∉ ch->s.heap.get? b=some o->∃ o',h'.get? b=some o')
  (tups:∀ b xs,H b=some (.tup xs)->H' b=some (.tup xs))(frzs:∀ b o u,H b=some (.frz o u)->H' b=some (.frz o u))(tbls:∀ b ps,H b=some (.tbl ps)->∃ more,H' b=some (.tbl (ps++more)))
  (ns:∀ m,s.heap.Ns X.env.locals m->h'.Ns X.env.locals m)(hok:HOk X.prog X.w H' h')(hg:AllBare g'):
  Inv X pins σ H' { s with heap:=h',gens:=g',drawn:=d',toks:=t' }:=by
 have neL:∀ b o,X.s₀.heap.get? b=some o->b≠X.env.locals:=fun b o e=>Nat.ne_of_lt (Nat.lt_of_lt_of_le (Heap.lt_size e) I.ok.above)
 have neC:∀ b o,X.s₀.heap.get? b=some o->b ∉ X.ex->b ∉ ch:=fun b o e hx hb=>by
  rcases (hch b hb).1 with z | z
  ·exact hx z
  ·exact absurd (Nat.lt_of_lt_of_le (Heap.lt_size e) z) (Nat.lt_irrefl _)
 have cellK:∀ x c,X.env.cells.lookup x=some c->∀ v,s.heap.IsCell c v->h'.IsCell c v:=fun x c e v ⟨o,ho,hd⟩=>by
  have nch:c ∉ ch:=fun z=>(hch c z).2.2.1 x c e rfl
  by_cases hc:c ∈ X.fs
  ·obtain ⟨sl,q⟩:=slot c o (I.cne x c e) hc nch ho (I.freeC x c e)
   exact ⟨_,q,hd⟩
  ·exact ⟨o,keep c o (I.cne x c e) hc nch ho (I.freeC x c e),hd⟩
 refine ⟨I.ok,I.os,hg,⟨fun b o e n hb hx=>?_,fun b o e n hb hx=>?_,fun b o e n hx=>?_,fun b o e hx=>?_,fun b xs e=>tups b xs (I.base.tups b xs e),fun b o xs e=>frzs b o xs (I.base.frzs b o xs e),fun b ps e=>?_⟩,?_,fun x c e=>?_,?_,fun x c e=>?_,fun p hp=>?_,hok,I.len⟩
 ·exact keep b o (neL b o e) hb (neC b o e hx) (I.base.keep b o e n hb hx) (I.base.free b o e n hx)
 ·obtain ⟨sl,e1⟩:=I.base.slot b o e n hb hx
  obtain ⟨sl',e2⟩:=slot b _ (neL b o e) hb (neC b o e hx) e1 (I.base.free b o e n hx)
  exact ⟨sl',e2⟩
 ·obtain ⟨o',e1⟩:=I.base.there b o e hx
  exact free b o' (neC b o e hx) e1 (I.base.free b o e n hx)
 ·obtain ⟨o',e1⟩:=I.base.there b o e hx
  exact there b o' (neC b o e hx) e1
 ·obtain ⟨m1,e1⟩:=I.base.tbls b ps e
  obtain ⟨m2,e2⟩:=tbls b _ e1
  exact ⟨m1++m2,by rw [e2,Array.append_assoc]⟩
 ·obtain ⟨m,hn,hl⟩:=I.loc
  refine ⟨m,ns m hn,fun i x v e1 e2 e3=>?_⟩
  obtain ⟨u,r,l⟩:=hl i x v e1 e2 e3
  refine ⟨u,r,?_⟩
  rcases l with l | ⟨k,c,e,z⟩
  ·exact .inl l
  ·exact .inr ⟨k,c,e,cellK x c e _ z⟩
 ·obtain ⟨v,z⟩:=I.cell x c e
  exact ⟨v,cellK x c e v z⟩
 ·obtain ⟨m,⟨o,_,_,ho,_⟩,_⟩:=I.loc
  exact free _ o (fun z=>(hch _ z).2.1 rfl) ho I.free
 ·obtain ⟨v,o,ho,hd⟩:=I.cell x c e
  exact free c o (fun z=>(hch c z).2.2.1 x c e rfl) ho (I.freeC x c e)
 ·obtain ⟨e,n,ne,nf,d⟩:=I.pin p hp
  have nch:p.1 ∉ ch:=fun z=>(hch p.1 z).2.2.2 p hp rfl
  exact ⟨keep p.1 p.2 ne nf nch e n,free p.1 p.2 nch e n,ne,nf,d⟩
theorem Inv.un{t':Nat}(I:Inv X pins σ H s)(u:Un X.fs [] H H' s.heap h')(hok:HOk X.prog X.w H' h'):Inv X pins σ H' { s with heap:=h',toks:=t' }:=by
 obtain ⟨m,⟨o,es,ep,ho,r⟩,_⟩:=id I.loc
 obtain ⟨sl,hL⟩:=u.any ho I.free (by simp)
 exact I.step (g':=s.gens) (d':=s.drawn) (ch:=[]) (fun _ z=>nomatch z) (fun b o _ hb _ e n=>u.keep b o e n hb (by simp)) (fun b o _ hb _ e n=>u.slot b o e n hb (by simp)) (fun b o _ e n=>u.free b o e n (by simp)) (fun b o _ e=>u.there b o e (by simp)) u.tups u.frzs u.tbls (fun m' hm=>by
  obtain ⟨o',es',ep',ho',r'⟩:=hm
  rw [ho] at ho';cases ho'
  exact ⟨_,es',ep',hL,r'⟩) hok I.bare
theorem Inv.call{g':Array GenState}{t':Nat}{d':Drawn}{ch:List Addr}(I:Inv X pins σ H s)(u:Un (frs X.stack) ch H H' s.heap h')(hok:HOk X.prog X.w H' h')(hg:AllBare g')
  (hch:∀ b ∈ ch,(b ∈ X.ex∨X.s₀.heap.objs.size≤b)/\b≠X.env.locals/\(∀ x c,X.env.cells.lookup x=some c->c≠b)/\∀ p ∈ X.pn++pins,p.1≠b):
  Inv X pins σ H' { s with heap:=h',gens:=g',drawn:=d',toks:=t' }:=by
 obtain ⟨m,⟨o,es,ep,ho,r⟩,_⟩:=id I.loc
 obtain ⟨sl,hL⟩:=u.any ho I.free fun z=>(hch _ z).2.1 rfl
 exact I.step (ch:=ch) hch (fun b o hL hb hc e n=>u.keep b o e n (fun z=>(List.mem_cons.mp (I.stkSub b z)).elim hL hb) hc) (fun b o _ _ hc e n=>u.any e n hc) (fun b o hc e n=>u.free b o e n hc) (fun b o hc e=>u.there b o e hc) u.tups u.frzs u.tbls (fun m' hm=>by
  obtain ⟨o',es',ep',ho',r'⟩:=hm
  rw [ho] at ho';cases ho'
  exact ⟨_,es',ep',hL,r'⟩) hok hg
theorem Inv.turned{t':Nat}{it:Addr}(I:Inv X pins σ H s)(k:∀ b o,b≠it->s.heap.get? b=some o->h'.get? b=some o)(hn:H it=none)(hL:it≠X.env.locals)
  (h1:it ∈ X.ex∨X.s₀.heap.objs.size≤it)(h2:∀ x c,X.env.cells.lookup x=some c->c≠it)(h3:∀ p ∈ X.pn++pins,p.1≠it):Inv X pins σ H { s with heap:=h',toks:=t' }:=by
 have nit:∀ b u,H b=some u->b≠it:=fun b u e z=>by rw [z,hn] at e;cases e
 refine I.step (g':=s.gens) (d':=s.drawn) (ch:=[it]) (fun b hb=>?_) (fun b o _ _ hc e _=>k b o (fun z=>hc (by simp [z])) e) (fun b o _ _ hc e _=>⟨o.slots,k b o (fun z=>hc (by simp [z])) e⟩) (fun _ _ _ _ n=>n)
  (fun b o hc e=>⟨o,k b o (fun z=>hc (by simp [z])) e⟩) (fun _ _ e=>e) (fun _ _ _ e=>e) (fun b ps e=>⟨#[],by rw [e];simp⟩) (fun m hm=>?_) (fun b u e=>?_) I.bare
 ·have e:b=it:=by simpa using hb
  subst e
  exact ⟨h1,hL,h2,h3⟩
 ·obtain ⟨o,es,ep,ho,r⟩:=hm
  exact ⟨o,es,ep,k _ o (Ne.symm hL) ho,r⟩
 ·refine (I.hok b u e).stay (fun c v hc q=>k c v ?_ q) (fun _ q=>q) fun _ _ q=>q
  rcases hc with z | z
  ·rw [z];exact nit b u e
  ·exact nit c _ z
theorem Inv.tok(I:Inv X pins σ H s)(t:Nat):Inv X pins σ H { s with toks:=t }:=I.un (h':=s.heap) (t':=t) Un.refl I.hok
theorem Inv.kept{t':Nat}(I:Inv X pins σ H s)(k:∀ b u,s.heap.get? b=some u->h'.get? b=some u):Inv X pins σ H { s with heap:=h',toks:=t' }:=I.un (Un.kept k) (I.hok.kept k)
theorem Inv.laid{a:Addr}{o:HO}{t':Nat}(I:Inv X pins σ H s)(k:∀ b u,s.heap.get? b=some u->h'.get? b=some u)(hp:s.heap.objs.size≤a)(new:ObjOk X.prog X.w (upd H a o) h' a o):
  Inv X pins σ (upd H a o) { s with heap:=h',toks:=t' }:=I.un (Un.laid k hp (I.hok.fresh hp)) (I.hok.laid k hp new)
theorem Inv.write{x e:Addr}{o:HO}{t':Nat}(I:Inv X pins σ H s)(mu:Mut (H x))(he:e=x∨H e=some (.own x))(k:∀ b u,b≠e->s.heap.get? b=some u->h'.get? b=some u)(heo:∃ u,h'.get? e=some u)
  (new:ObjOk X.prog X.w (upd H x o) h' x o):Inv X pins σ (upd H x o) { s with heap:=h',toks:=t' }:=I.un (Un.write mu he k heo) (I.hok.write mu he k heo new)
theorem Inv.pins_of{pins':List (Addr × Obj)}(I:Inv X pins σ H s)(h:∀ p ∈ pins',s.heap.get? p.1=some p.2/\H p.1=none/\p.1≠X.env.locals/\p.1 ∉ X.fs/\∀ v,p.2.data≠.cell v):Inv X pins' σ H s:=
 ⟨I.ok,I.os,I.bare,I.base,I.loc,I.cell,I.free,I.freeC,fun p hp=>(List.mem_append.mp hp).elim (fun z=>I.pin p (List.mem_append_left _ z)) (h p),I.hok,I.len⟩
theorem zdk{N:List Str}(hN:N.Nodup){i j:Nat}{x:Str}(a:N[i]?=some x)(b:N[j]?=some x):i=j:=by
 obtain ⟨h1,e1⟩:=List.getElem?_eq_some_iff.mp a
 obtain ⟨h2,e2⟩:=List.getElem?_eq_some_iff.mp b
 exact (List.getElem_inj hN).mp (e1.trans e2.symm)
theorem zfR{M:Model}{A:Around}{E:Value->Shared->Prop}{i:Nat}{x:Str}{v:V}{u:Value}{Q:Unit->Shared->Prop}(I:Inv X pins σ H s)(hN:X.N.Nodup)(hi:X.N[i]?=some x)(hx:Loc X.env.scope x)(r:RelV v u)
  (h:∀ s',Inv X pins (σ.set i (some v)) H s'->(∃ a,Heap.SameBut a s.heap s'.heap/\(a=X.env.locals∨X.env.cells.lookup x=some a))->Q () s')(hf:X.fn x=true∨X.env.scope.names.lookup x=some .local:=by first | exact .inl rfl | exact .inr rfl | assumption):wpAny M A (storeName X.env x u) Q E s:=by
 obtain ⟨m,hn,hl⟩:=id I.loc
 have hcls:(X.env.scope.kind == .class || (X.env.scope.kind == .module && X.env.locals != X.env.globals))=false:=by rw [I.ok.kind];rfl
 have hiσ:i<σ.length:=by rw [I.len];exact (List.getElem?_eq_some_iff.mp hi).1
 have cne:=I.cne
 have tracked:∀ {a:Addr} {h':Heap},(∃ o,s.heap.get? a=some o/\H a=none)->Heap.SameBut a s.heap h'->HOk X.prog X.w H h':=fun {a h'} ha hs b ob e=>by
  obtain ⟨_,_,hfree⟩:=ha
  refine (I.hok b ob e).stay (fun c w' hc q=>(hs.2 c ?_).trans q) (fun _ q=>q) fun _ _ q=>q
  rintro rfl
  rcases hc with rfl | hc
  ·rw [hfree] at e;cases e
  ·rw [hfree] at hc;cases hc
 rcases hx with hk | hk
 ·refine wpAny_storeName_local hk hn (fun h' hn' hs=>?_) hcls
  obtain ⟨oL,_,_,hoL,_⟩:=id hn
  refine h _ ⟨I.ok,I.os,I.bare,⟨fun b o e n hb hx=>?_,fun b o e n hb hx=>?_,I.base.free,fun b o e hx=>?_,I.base.tups,I.base.frzs,I.base.tbls⟩,⟨_,hn',fun j y v' e1 e2 e3=>?_⟩,fun y c e=>?_,I.free,I.freeC,fun p hp=>?_,tracked ⟨oL,hoL,I.free⟩ hs,by simpa using I.len⟩ ⟨_,hs,.inl rfl⟩
  ·exact (hs.2 b (Nat.ne_of_lt (Nat.lt_of_lt_of_le (Heap.lt_size e) I.ok.above))).trans (I.base.keep b o e n hb hx)
  ·obtain ⟨sl,e1⟩:=I.base.slot b o e n hb hx
   exact ⟨sl,(hs.2 b (Nat.ne_of_lt (Nat.lt_of_lt_of_le (Heap.lt_size e) I.ok.above))).trans e1⟩
  ·obtain ⟨o',e1⟩:=I.base.there b o e hx
   exact ⟨o',(hs.2 b (Nat.ne_of_lt (Nat.lt_of_lt_of_le (Heap.lt_size e) I.ok.above))).trans e1⟩
  ·by_cases hj:j=i
   ·subst hj
    rw [hi] at e1;cases e1
    rw [List.getElem?_set_self hiσ] at e2
    cases e2
    exact ⟨u,r,.inl ⟨hk,by simp⟩⟩
   ·rw [List.getElem?_set_ne (Ne.symm hj)] at e2
    obtain ⟨u',r',q⟩:=hl j y v' e1 e2 e3
    refine ⟨u',r',?_⟩
    rcases q with ⟨k,e⟩ | ⟨k,c,e,z⟩
    ·refine .inl ⟨k,?_⟩
     have:y≠x:=fun e=>hj (zdk hN e1 (e ▸ hi))
     simp [this,e]
    ·exact .inr ⟨k,c,e,z.sameBut hs (cne y c e)⟩
  ·obtain ⟨w',z⟩:=I.cell y c e
   exact ⟨w',z.sameBut hs (cne y c e)⟩
  ·obtain ⟨e,n,ne,nf,d⟩:=I.pin p hp
   exact ⟨(hs.2 p.1 ne).trans e,n,ne,nf,d⟩
 ·have hfn:X.fn x=true:=by
   rcases hf with z | z
   ·exact z
   ·rw [z] at hk;cases hk
  obtain ⟨c,hc⟩:=I.ok.has x (.inl hk)
  obtain ⟨w',z⟩:=I.cell x c hc
  refine wpAny_storeName_cell I.ok.kind hk hc z (fun h' hc' hs=>?_)
  obtain ⟨oc,hoc,hocd⟩:=id z
  refine h { s with heap:=h' } ⟨I.ok,I.os,I.bare,⟨fun b o e n hb hx=>?_,fun b o e n hb hx=>?_,I.base.free,fun b o e hx=>?_,I.base.tups,I.base.frzs,I.base.tbls⟩,⟨m,hn.sameBut hs (Ne.symm (cne x c hc)),fun j y v' e1 e2 e3=>?_⟩,fun y c' e=>?_,I.free,I.freeC,fun p hp=>?_,tracked ⟨oc,hoc,I.freeC x c hc⟩ hs,by simpa using I.len⟩ ⟨c,hs,.inr hc⟩
  ·exact (hs.2 b (Nat.ne_of_lt (Nat.lt_of_lt_of_le (Heap.lt_size e) (I.ok.cab x c hfn hc)))).trans (I.base.keep b o e n hb hx)
  ·obtain ⟨sl,e1⟩:=I.base.slot b o e n hb hx
   exact ⟨sl,(hs.2 b (Nat.ne_of_lt (Nat.lt_of_lt_of_le (Heap.lt_size e) (I.ok.cab x c hfn hc)))).trans e1⟩
  ·obtain ⟨o',e1⟩:=I.base.there b o e hx
   exact ⟨o',(hs.2 b (Nat.ne_of_lt (Nat.lt_of_lt_of_le (Heap.lt_size e) (I.ok.cab x c hfn hc)))).trans e1⟩
  ·by_cases hj:j=i
   ·subst hj
    rw [hi] at e1;cases e1
    rw [List.getElem?_set_self hiσ] at e2
    cases e2
    exact ⟨u,r,.inr ⟨.inl hk,c,hc,hc'⟩⟩
   ·rw [List.getElem?_set_ne (Ne.symm hj)] at e2
    obtain ⟨u',r',q⟩:=hl j y v' e1 e2 e3
    refine ⟨u',r',?_⟩
    rcases q with q | ⟨k,c',e,z'⟩
    ·exact .inl q
    ·refine .inr ⟨k,c',e,z'.sameBut hs ?_⟩
     rintro rfl
     exact hj (zdk hN e1 (I.ok.inj _ _ _ e hc ▸ hi))
  ·by_cases hcc:c'=c
   ·subst hcc;exact ⟨_,hc'⟩
   ·obtain ⟨w2,z2⟩:=I.cell y c' e
    exact ⟨w2,z2.sameBut hs hcc⟩
  ·obtain ⟨e,n,ne,nf,d⟩:=I.pin p hp
   refine ⟨(hs.2 p.1 ?_).trans e,n,ne,nf,d⟩
   intro q
   rw [q,hoc] at e
   have q':oc=p.2:=Option.some.inj e
   exact d w' (by rw [← q'];exact hocd)
theorem qm{M:Model}{A:Around}{E:Value->Shared->Prop}{i:Nat}{x:Str}{v:V}{u:Value}{Q:Unit->Shared->Prop}(I:Inv X pins σ H s)(hN:X.N.Nodup)(hi:X.N[i]?=some x)(hx:Loc X.env.scope x)(r:RelV v u)
  (h:∀ s',Inv X pins (σ.set i (some v)) H s'->Q () s')(hf:X.fn x=true∨X.env.scope.names.lookup x=some .local:=by first | exact .inl rfl | exact .inr rfl | assumption):wpAny M A (storeName X.env x u) Q E s:=
 zfR I hN hi hx r (fun s' I' _=>h s' I') hf
theorem Inv.call'{s':Shared}{ch:List Addr}(I:Inv X pins σ H s)(ho:s'.os=s.os)(u:Un (frs X.stack) ch H H' s.heap s'.heap)(hok:HOk X.prog X.w H' s'.heap)(hg:AllBare s'.gens)
  (hch:∀ b ∈ ch,(b ∈ X.ex∨X.s₀.heap.objs.size≤b)/\b≠X.env.locals/\(∀ x c,X.env.cells.lookup x=some c->c≠b)/\∀ p ∈ X.pn++pins,p.1≠b):Inv X pins σ H' s':=by
 obtain ⟨h',g',d',t',o'⟩:=s'
 have e:o'=s.os:=ho
 subst e
 exact I.call (g':=g') (t':=t') (d':=d') u hok hg hch
end
noncomputable abbrev XK:=Value->Option Addr->Hp->Prop
noncomputable abbrev St:=List (Option V)
noncomputable abbrev VK:=V->Hp->Prop
noncomputable abbrev TE:=St->Hp->VK->Prop
noncomputable abbrev TT:=St->Hp->(Bool->Hp->Prop)->Prop
noncomputable abbrev TA:=St->Hp->(List V->Hp->Prop)->Prop
structure Ends where
 nx:St->Hp->Prop
 rt:VK
 bk:St->Hp->Prop:=fun _ _=>False
 ct:St->Hp->Prop:=fun _ _=>False
noncomputable abbrev TS:=Ends->St->Hp->Prop
noncomputable def EP(X:Cx)(pins:List (Addr × Obj))(σ:St)(Q:VK)(u:Value)(s':Shared):Prop:=∃ v H',Inv X pins σ H' s'/\RelV v u/\Q v H'
noncomputable def TP(X:Cx)(pins:List (Addr × Obj))(σ:St)(Q:Bool->Hp->Prop)(b:Bool)(s':Shared):Prop:=∃ H',Inv X pins σ H' s'/\Q b H'
noncomputable def AP(X:Cx)(pins:List (Addr × Obj))(σ:St)(Q:List V->Hp->Prop)(us:List Value)(s':Shared):Prop:=∃ vs H',Inv X pins σ H' s'/\Vals vs us/\Q vs H'
noncomputable def SP(X:Cx)(pins:List (Addr × Obj))(D:Ends)(f:Flow)(s':Shared):Prop:=
 match f with
 | .next=>∃ σ' H',Inv X pins σ' H' s'/\D.nx σ' H'
 | .brk=>∃ σ' H',Inv X pins σ' H' s'/\D.bk σ' H'
 | .cont=>∃ σ' H',Inv X pins σ' H' s'/\D.ct σ' H'
 | .ret u=>∃ v σ' H',Inv X pins σ' H' s'/\RelV v u/\D.rt v H'
noncomputable def PE(X:Cx)(e:Expr)(t:TE):Prop:=
 ∀ (pins:List (Addr × Obj)) (s:Shared) (σ:St) (H:Hp) (Q:VK),Inv X pins σ H s->t σ H Q->wpAny (model X.prog X.w) X.A (eval e X.env) (EP X pins σ Q) X.xe s
noncomputable def PT(X:Cx)(e:Expr)(t:TT):Prop:=
 ∀ (pins:List (Addr × Obj)) (s:Shared) (σ:St) (H:Hp) (Q:Bool->Hp->Prop),Inv X pins σ H s->t σ H Q->wpAny (model X.prog X.w) X.A (isTrue e X.env (eval e X.env)) (TP X pins σ Q) X.xe s
noncomputable def PW(X:Cx)(e:Expr)(t:TT):Prop:=
 ∀ (whole:Sem Value) (pins:List (Addr × Obj)) (s:Shared) (σ:St) (H:Hp) (Q:Bool->Hp->Prop),Inv X pins σ H s->t σ H Q->wpAny (model X.prog X.w) X.A (isTrue e X.env whole) (TP X pins σ Q) X.xe s
theorem PW.pt{X:Cx}{e:Expr}{t:TT}(h:PW X e t):PT X e t:=h _
noncomputable def PA(X:Cx)(es:List Expr)(t:TA):Prop:=
 ∀ (pos:Pos) (pins:List (Addr × Obj)) (s:Shared) (σ:St) (H:Hp) (Q:List V->Hp->Prop),Inv X pins σ H s->t σ H Q->wpAny (model X.prog X.w) X.A (spliced (backTo pos (starEach es X.env))) (AP X pins σ Q) X.xe s
noncomputable def PS(X:Cx)(st:Stmt)(t:TS):Prop:=
 ∀ (pins:List (Addr × Obj)) (s:Shared) (σ:St) (H:Hp) (D:Ends),Inv X pins σ H s->t D σ H->wpAny (model X.prog X.w) X.A (exec st X.env) (SP X pins D) X.xe s
noncomputable def PSs(X:Cx)(st:List Stmt)(t:TS):Prop:=
 ∀ (pins:List (Addr × Obj)) (s:Shared) (σ:St) (H:Hp) (D:Ends),Inv X pins σ H s->t D σ H->wpAny (model X.prog X.w) X.A (execs st X.env) (SP X pins D) X.xe s
theorem thn{α:Type}{t:Sem α}{Q Q':α->Shared->Prop}{M:Model}{A:Around}{E:Value->Shared->Prop}{s:Shared}(h:wpAny M A t Q E s)(hQ:∀ a s,Q a s->Q' a s):wpAny M A t Q' E s:=wpAny_mono h hQ fun _ _ x=>x
section
variable {X:Cx}
noncomputable def uJ(i:Nat):TE:=fun σ H Q=>∃ v,σ[i]?=some (some v)/\Q v H
noncomputable def tC(v:V):TE:=fun _ H Q=>Q v H
theorem zlg{i:Nat}{x:Str}{pos:Pos}(hN:X.N[i]?=some x)(hv:Vis X.env.scope x)(hd:(x == ("__debug__":Str))=false:=by decide)(hcd:(x == ("__classdict__":Str))=false:=by decide):PE X (.Name x pos) (uJ i):=by
 intro pins s σ H Q I h
 obtain ⟨v,e,h⟩:=h
 obtain ⟨m,hn,hl⟩:=I.loc
 obtain ⟨u,r,l⟩:=hl i x v hN e hv
 have fin:EP X pins σ Q u s:=⟨v,H,I,r,h⟩
 rcases l with ⟨hk,hm⟩ | ⟨hk,c,hc,hcell⟩
 ·exact wpAny_Name (wpAny_loadName_local I.ok.kind hk hn hm fin) hd
 ·rcases hk with hk | hk
  ·exact wpAny_Name (wpAny_loadName_cell I.ok.kind hk hc hcell fin) hd
  ·exact wpAny_Name (wpAny_loadName_free I.ok.kind hk hc hcell fin hcd) hd
theorem zhG{i j pos}:PE X (.Constant (.int i) j pos) (tC (.int i)):=fun _ _ _ H _ I h=>wpAny_Constant_int ⟨.int i,H,I.tok _,⟨_,rfl⟩,h⟩
theorem zmB{b j pos}:PE X (.Constant (.bool b) j pos) (tC (.bl b)):=fun _ _ _ H _ I h=>Constant_bool ⟨.bl b,H,I,rfl,h⟩
theorem zlk{j pos}:PE X (.Constant .none j pos) (tC .non):=fun _ _ _ H _ I h=>Constant_none ⟨.non,H,I,rfl,h⟩
theorem zli{x j pos}:PE X (.Constant (.str x) j pos) (tC (.str x)):=fun _ _ _ H _ I h=>Calls.Constant_str ⟨.str x,H,I.tok _,⟨_,rfl⟩,h⟩
noncomputable def Gl(X:Cx)(x:Str):Prop:=X.env.kindOf x=some .globalImplicit
theorem zjX{E:Value->Shared->Prop}{pins:List (Addr × Obj)}{s:Shared}{σ:St}{H:Hp}{x:Str}{u:Value}{pos:Pos}{Q:Value->Shared->Prop}(I:Inv X pins σ H s)(hg:Gl X x)(hm:X.mg x=some u)(h:Q u s)
  (hd:(x == ("__debug__":Str))=false:=by decide):wpAny (model X.prog X.w) X.A (eval (.Name x pos) X.env) Q E s:=
 Calls.Name_function_global I.ok.kind hg (Calls.loadGlobal_global (by rw [I.ok.glob];exact I.mod.glob.keeps I.bk) hm h) hd
theorem uS{E:Value->Shared->Prop}{pins:List (Addr × Obj)}{s:Shared}{σ:St}{H:Hp}{x:Str}{u:Value}{pos:Pos}{Q:Value->Shared->Prop}(I:Inv X pins σ H s)(hg:Gl X x)(hm:X.mg x=none)(hv:bootBuiltins x=some u)(h:Q u s)
  (hn:x≠"__name__":=by decide)(hd:(x == ("__debug__":Str))=false:=by decide):wpAny (model X.prog X.w) X.A (eval (.Name x pos) X.env) Q E s:=by
 obtain ⟨mb,h1,h2⟩:=I.mod.blt
 exact Calls.Name_function_global I.ok.kind hg (Calls.loadGlobal_builtin (by rw [I.ok.glob];exact I.mod.glob.keeps I.bk) hm (by rw [I.ok.blt];exact h1.keeps I.bk) ((h2 x hn).trans hv) h) hd
variable {a b:Expr} {ta tb:TE} {pos:Pos}
variable {tA tB':TT} {wV:List Expr}
noncomputable def znN(t u:TT):TT:=fun σ H Q=>t σ H fun c H1=>if c=true then u σ H1 Q else Q false H1
noncomputable def tOr(t u:TT):TT:=fun σ H Q=>t σ H fun c H1=>if c=true then Q true H1 else u σ H1 Q
noncomputable def znJ(t:TT):TT:=fun σ H Q=>t σ H fun c H1=>Q (!c) H1
theorem zjv(ha:PT X a tA):PW X (.BoolOp .And [a] pos) tA:=by
 intro wh pins s σ H Q I h
 refine isTrue_and (thn (ha pins s σ H Q I h) fun c s1 e=>?_)
 cases c with
 | true=>exact isTrue_and_nil e
 | false=>exact e
theorem zkW(ha:PT X a tA):PW X (.BoolOp .Or [a] pos) tA:=by
 intro wh pins s σ H Q I h
 refine isTrue_or (thn (ha pins s σ H Q I h) fun c s1 e=>?_)
 cases c with
 | false=>exact isTrue_or_nil e
 | true=>exact e
theorem zkX(ha:PT X a tA)(hb:PW X (.BoolOp .And (b::wV) pos) tB'):PW X (.BoolOp .And (a::b::wV) pos) (znN tA tB'):=by
 intro wh pins s σ H Q I h
 refine isTrue_and (thn (ha pins s σ H _ I h) fun c s1 hq_=>?_)
 obtain ⟨H1,I1,q1⟩:=hq_
 cases c with
 | true=>exact hb wh pins s1 σ H1 Q I1 q1
 | false=>exact ⟨H1,I1,q1⟩
theorem zmv(ha:PT X a tA)(hb:PW X (.BoolOp .Or (b::wV) pos) tB'):PW X (.BoolOp .Or (a::b::wV) pos) (tOr tA tB'):=by
 intro wh pins s σ H Q I h
 refine isTrue_or (thn (ha pins s σ H _ I h) fun c s1 hq_=>?_)
 obtain ⟨H1,I1,q1⟩:=hq_
 cases c with
 | true=>exact ⟨H1,I1,q1⟩
 | false=>exact hb wh pins s1 σ H1 Q I1 q1
theorem zkZ(ha:PT X a tA):PT X (.UnaryOp .Not a pos) (znJ tA):=by
 intro pins s σ H Q I h
 exact isTrue_not (ha pins s σ H (fun c H1=>Q (!c) H1) I h)
noncomputable def znI(ta tb:TE):TE:=fun σ H Q=>ta σ H fun x H1=>∃ c,x=.bl c/\if c=true then Q (.bl true) H1 else tb σ H1 Q
theorem zlj{op}{t:TE}(h:PE X a t):PE X (.BoolOp op [a] pos) t:=fun pins s σ H Q I hw=>BoolOp_one (h pins s σ H Q I hw)
theorem zmy(ha:PE X a ta)(hb:PE X (.BoolOp .Or (b::wV) pos) tb):PE X (.BoolOp .Or (a::b::wV) pos) (znI ta tb):=by
 intro pins s σ H Q I h
 refine BoolOp_or (thn (ha pins s σ H _ I h) fun v s1 hq_=>?_)
 obtain ⟨x,H1,I1,r1,q1⟩:=hq_
 obtain ⟨c,rfl,q1⟩:=q1
 cases r1
 refine wpAny_truthy_bool ?_
 cases c with
 | false=>exact hb pins s1 σ H1 Q I1 q1
 | true=>exact ⟨.bl true,H1,I1,rfl,q1⟩
noncomputable def tIf(t:TT)(ta tb:TE):TE:=fun σ H Q=>t σ H fun c H1=>if c=true then ta σ H1 Q else tb σ H1 Q
theorem zhH{c:Expr}(hc:PT X c tA)(ha:PE X a ta)(hb:PE X b tb):PE X (.IfExp c a b pos) (tIf tA ta tb):=by
 intro pins s σ H Q I h
 refine wpAny_IfExp (thn (hc pins s σ H _ I h) fun d s1 hq_=>?_)
 obtain ⟨H1,I1,q1⟩:=hq_
 cases d with
 | true=>exact ha pins s1 σ H1 Q I1 q1
 | false=>exact hb pins s1 σ H1 Q I1 q1
end
noncomputable def SqL(K:PySem.W.Frag)(H:Hp)(a:Addr)(xs:List V):Prop:=
 Rd H a (.lst xs)∨
  ∃ (o:Obj) (its:Array Value) (n:Nat),K.lookup a=some o/\o.cls=.type "list"/\o.dict=none/\o.data=.seq its n/\its.size≤sizeLine/\Vals xs its.toList
noncomputable def SqT(K:PySem.W.Frag)(H:Hp)(a:Addr)(xs:List V):Prop:=
 Rd H a (.tup xs)∨
  ∃ (o:Obj) (its:Array Value) (n:Nat),K.lookup a=some o/\o.cls=.type "tuple"/\o.data=.seq its n/\its.size≤sizeLine/\Vals xs its.toList
noncomputable def zol:Value->Option V
 | .none=>some .non
 | .bool b=>some (.bl b)
 | .int i _=>some (.int i)
 | .str x _=>some (.str x)
 | .bytes b _=>some (.byt b)
 | .float b _=>some (.flt b)
 | .ref a=>some (.ref a)
 | .type n=>some (.ty n)
 | _=>none
theorem RelV.abs{x:V}{u:Value}(r:RelV x u):zol u=some x:=by
 cases x with
 | non=>cases r;rfl
 | bl _=>cases r;rfl
 | int _=>obtain ⟨t,rfl⟩:=r;rfl
 | str _=>obtain ⟨t,rfl⟩:=r;rfl
 | byt _=>obtain ⟨t,rfl⟩:=r;rfl
 | flt _=>obtain ⟨t,rfl⟩:=r;rfl
 | ref _=>cases r;rfl
 | ty _=>cases r;rfl
theorem RelV.inj{x y:V}{u:Value}(r:RelV x u)(q:RelV y u):x=y:=Option.some.inj (r.abs.symm.trans q.abs)
theorem Vals.inj{xs ys:List V}{us:List Value}(h:Vals xs us):Vals ys us->xs=ys:=by
 induction h generalizing ys with
 | nil=>intro h;cases h;rfl
 | cons r t ih=>intro h;cases h with | cons r' t'=>rw [r.inj r',ih t']
section
variable {X:Cx} {pins:List (Addr × Obj)} {σ:St} {H:Hp} {s:Shared} {a:Addr} {xs ys:List V}
theorem SqL.of{K:PySem.W.Frag}(h:H a=some (.lst xs)):SqL K H a xs:=.inl (.inl h)
theorem SqT.of{K:PySem.W.Frag}(h:H a=some (.tup xs)):SqT K H a xs:=.inl (.inl h)
theorem Inv.list(I:Inv X pins σ H s)(h:SqL X.K H a xs):∃ its:List Value,Vals xs its/\PlainL s.heap a its.toArray/\xs.length≤sizeLine:=by
 rcases h with h | ⟨o,its,n,hk,hc,hd,hs,hz,r⟩
 ·obtain ⟨z,its,n,r,e⟩:=h.ok I.hok
  exact ⟨its,r,⟨_,n,e,rfl,rfl,rfl⟩,z⟩
 ·refine ⟨its.toList,r,⟨o,n,I.kIn a o hk,hc,hd,by simpa using hs⟩,?_⟩
  have e:=r.length
  simp only [Array.length_toList] at e
  omega
theorem Inv.tuple(I:Inv X pins σ H s)(h:SqT X.K H a xs):∃ its:List Value,Vals xs its/\IsTup s.heap a its.toArray/\xs.length≤sizeLine:=by
 rcases h with h | ⟨o,its,n,hk,hc,hs,hz,r⟩
 ·obtain ⟨z,its,r,p⟩:=h.ok I.hok
  exact ⟨its,r,p,z⟩
 ·refine ⟨its.toList,r,⟨o,I.kIn a o hk,hc,n,by simpa using hs⟩,?_⟩
  have e:=r.length
  simp only [Array.length_toList] at e
  omega
theorem Inv.list_inj(I:Inv X pins σ H s)(h:SqL X.K H a xs)(h':SqL X.K H a ys):xs=ys:=by
 obtain ⟨its,r,⟨o,n,e,_,_,d⟩,_⟩:=I.list h
 obtain ⟨its',r',⟨o',n',e',_,_,d'⟩,_⟩:=I.list h'
 rw [e] at e';cases e'
 rw [d] at d'
 injection d' with d1 _
 have:its=its':=by simpa using congrArg Array.toList d1
 subst this
 exact r.inj r'
theorem Inv.tuple_inj(I:Inv X pins σ H s)(h:SqT X.K H a xs)(h':SqT X.K H a ys):xs=ys:=by
 obtain ⟨its,r,⟨o,e,_,n,d⟩,_⟩:=I.tuple h
 obtain ⟨its',r',⟨o',e',_,n',d'⟩,_⟩:=I.tuple h'
 rw [e] at e';cases e'
 rw [d] at d'
 injection d' with d1 _
 have:its=its':=by simpa using congrArg Array.toList d1
 subst this
 exact r.inj r'
end
noncomputable abbrev Cx.wish(X:Cx)(E:Value->Shared->Prop):Cx:={ X with xe:=E }
noncomputable abbrev Cx.nox(X:Cx):Cx:=X.wish fun _ _=>False
theorem Cx.Ok.wish{X:Cx}(ok:X.Ok)(E:Value->Shared->Prop):(X.wish E).Ok:=
 ⟨ok.mod,ok.kind,ok.glob,ok.blt,ok.above,ok.inj,ok.has,ok.cab,ok.hd,ok.frames,ok.stk,ok.exf,ok.bs,ok.bsz,ok.noex,ok.exfs,ok.funs,ok.frf⟩
theorem Cx.Ok.unwish{X:Cx}{E:Value->Shared->Prop}(ok:(X.wish E).Ok):X.Ok:=
 ⟨ok.mod,ok.kind,ok.glob,ok.blt,ok.above,ok.inj,ok.has,ok.cab,ok.hd,ok.frames,ok.stk,ok.exf,ok.bs,ok.bsz,ok.noex,ok.exfs,ok.funs,ok.frf⟩
section
variable {X:Cx} {pins:List (Addr × Obj)} {σ:St} {H:Hp} {s:Shared} {E:Value->Shared->Prop}
theorem Inv.wish(I:Inv X pins σ H s)(E:Value->Shared->Prop):Inv (X.wish E) pins σ H s:=⟨I.ok.wish E,I.os,I.bare,I.base,I.loc,I.cell,I.free,I.freeC,I.pin,I.hok,I.len⟩
theorem Inv.unwish(I:Inv (X.wish E) pins σ H s):Inv X pins σ H s:=⟨I.ok.unwish,I.os,I.bare,I.base,I.loc,I.cell,I.free,I.freeC,I.pin,I.hok,I.len⟩
theorem SP.unwish{D:Ends}{f:Flow}{s':Shared}(h:SP (X.wish E) pins D f s'):SP X pins D f s':=by
 cases f with
 | next=>obtain ⟨σ',H',I,q⟩:=h;exact ⟨σ',H',I.unwish,q⟩
 | brk=>obtain ⟨σ',H',I,q⟩:=h;exact ⟨σ',H',I.unwish,q⟩
 | cont=>obtain ⟨σ',H',I,q⟩:=h;exact ⟨σ',H',I.unwish,q⟩
 | ret u=>obtain ⟨v,σ',H',I,r,q⟩:=h;exact ⟨v,σ',H',I.unwish,r,q⟩
theorem PSs.nox{st:List Stmt}{t:TS}(h:PSs X.nox st t):PSs X st t:=fun pins s σ H D I hw=>
 wpAny_mono (h pins s σ H D (I.wish _) hw) (fun _ _ q=>q.unwish) fun _ _ z=>False.elim z
end
section
variable {X:Cx} {st:Stmt} {wV:List Stmt} {t u:TS} {e:Expr} {te:TE} {pos:Pos}
noncomputable def zmf:TS:=fun D σ H=>D.nx σ H
noncomputable def znG(t u:TS):TS:=fun D σ H=>t { D with nx:=u D } σ H
theorem pss_nil:PSs X [] zmf:=fun _ _ σ H _ I h=>wpAny_execs_nil ⟨σ,H,I,h⟩
theorem zdb(h1:PS X st t)(h2:PSs X wV u):PSs X (st::wV) (znG t u):=by
 intro pins s σ H D I h
 refine wpAny_execs_cons (thn (h1 pins s σ H { D with nx:=u D } I h) fun f s1 q=>?_)
 cases f with
 | next=>
  obtain ⟨σ',H',I',q⟩:=q
  exact h2 pins s1 σ' H' D I' q
 | ret v=>exact q
 | brk=>exact q
 | cont=>exact q
theorem Inv.quiet{pins:List (Addr × Obj)}{σ:St}{H:Hp}{s:Shared}(I:Inv X pins σ H s):interactive X.env=false:=by simp [interactive,I.ok.kind]
noncomputable def zbp(te:TE):TS:=fun D σ H=>te σ H fun _ H1=>D.nx σ H1
theorem yY(he:PE X e te)(hs:swapsWith e none pos.line X.env=pure false:=by rfl):PS X (.Expr e pos) (zbp te):=by
 intro pins s σ H D I h
 exact wpAny_Expr_any (thn (he pins s σ H _ I h) fun v s1 ⟨x,H1,I1,r1,q1⟩=>⟨σ,H1,I1,q1⟩) I.quiet hs
noncomputable def znH(te:TE):TS:=fun D σ H=>te σ H D.rt
theorem zej(he:PE X e te):PS X (.Return (some e) pos) (znH te):=by
 intro pins s σ H D I h
 exact wpAny_Return_some (thn (he pins s σ H _ I h) fun v s1 ⟨x,H1,I1,r1,q1⟩=>⟨x,σ,H1,I1,r1,q1⟩)
noncomputable def znL(c:TT)(t u:TS):TS:=fun D σ H=>c σ H fun b H1=>if b=true then t D σ H1 else u D σ H1
theorem zmw{c:Expr}{a b:List Stmt}{tc:TT}(hc:PT X c tc)(ha:PSs X a t)(hb:PSs X b u):PS X (.If c a b pos) (znL tc t u):=by
 intro pins s σ H D I h
 refine wpAny_If (thn (hc pins s σ H _ I h) fun d s1 hq_=>?_)
 obtain ⟨H1,I1,q1⟩:=hq_
 cases d with
 | true=>exact ha pins s1 σ H1 D I1 q1
 | false=>exact hb pins s1 σ H1 D I1 q1
end
noncomputable abbrev TG:=V->St->Hp->(St->Hp->Prop)->Prop
noncomputable abbrev TGs:=List V->St->Hp->(St->Hp->Prop)->Prop
noncomputable def PG(X:Cx)(target:Expr)(t:TG):Prop:=
 ∀ (pins:List (Addr × Obj)) (s:Shared) (σ:St) (H:Hp) (v:V) (u:Value) (Q:St->Hp->Prop),Inv X pins σ H s->RelV v u->t v σ H Q->
  wpAny (model X.prog X.w) X.A (assign target X.env u) (fun _ s'=>∃ σ' H',Inv X pins σ' H' s'/\Q σ' H') X.xe s
noncomputable def PGs(X:Cx)(ts:List Expr)(t:TGs):Prop:=
 ∀ (pins:List (Addr × Obj)) (s:Shared) (σ:St) (H:Hp) (vs:List V) (us:List Value) (Q:St->Hp->Prop),Inv X pins σ H s->Vals vs us->t vs σ H Q->
  wpAny (model X.prog X.w) X.A (assignInOrder ((assignEach ts X.env).map (·.2)) us) (fun _ s'=>∃ σ' H',Inv X pins σ' H' s'/\Q σ' H') X.xe s
noncomputable abbrev zlV:=V->V->V->Hp->(Hp->Prop)->Prop
noncomputable def znm(X:Cx)(t:zlV):Prop:=
 ∀ (pins:List (Addr × Obj)) (s:Shared) (σ:St) (H:Hp) (o i v:V) (ov iv u:Value) (Q:Hp->Prop),Inv X pins σ H s->RelV o ov->RelV i iv->RelV v u->t o i v H Q->
  wpAny (model X.prog X.w) X.A (setItem ov iv u) (fun _ s'=>∃ H',Inv X pins σ H' s'/\Q H') X.xe s
noncomputable abbrev TIp:=V->V->Hp->VK->Prop
noncomputable def PIp(X:Cx)(op:Operator)(t:TIp):Prop:=
 ∀ (pins:List (Addr × Obj)) (s:Shared) (σ:St) (H:Hp) (x y:V) (v u:Value) (Q:VK),Inv X pins σ H s->RelV x v->RelV y u->t x y H Q->
  wpAny (model X.prog X.w) X.A (inplaceOp op v u) (EP X pins σ Q) X.xe s
section
variable {X:Cx} {pos:Pos}
noncomputable def jb(i:Nat):TG:=fun v σ H Q=>Q (σ.set i (some v)) H
theorem zM{i:Nat}{x:Str}(hN:X.N.Nodup)(hi:X.N[i]?=some x)(hx:Loc X.env.scope x)(hf:X.fn x=true∨X.env.scope.names.lookup x=some .local:=by first | exact .inl rfl | exact .inr rfl | assumption):PG X (.Name x pos) (jb i):=by
 intro pins s σ H v u Q I r h
 exact wpAny_assign_Name (qm I hN hi hx r (fun s' I'=>⟨_,H,I',h⟩) hf)
noncomputable def zod:TGs:=fun vs σ H Q=>vs=[]/\Q σ H
noncomputable def zmQ(t:TG)(u:TGs):TGs:=fun vs σ H Q=>∃ v r,vs=v::r/\t v σ H fun σ' H'=>u r σ' H' Q
theorem pgs_nil:PGs X [] zod:=by
 intro pins s σ H vs us Q I r h
 obtain ⟨e,h⟩:=h
 subst e
 cases r
 exact assignInOrder_nil ⟨σ,H,I,h⟩
theorem zhC{e:Expr}{es:List Expr}{t:TG}{u:TGs}(h1:PG X e t)(h2:PGs X es u)
  (hs:(assignEach (e::es) X.env).map (·.2)=assign e X.env::(assignEach es X.env).map (·.2):=by rfl):PGs X (e::es) (zmQ t u):=by
 intro pins s σ H vs us Q I r h
 obtain ⟨v,vr,e1,h⟩:=h
 subst e1
 cases r with
 | cons r rr=>
  rw [hs]
  refine assignInOrder_cons (thn (h1 pins s σ H _ _ _ I r h) fun _ s1 hq_=>?_)
  obtain ⟨σ1,H1,I1,q1⟩:=hq_
  exact h2 pins s1 σ1 H1 _ _ Q I1 rr q1
noncomputable def zoc(K:PySem.W.Frag)(n:Nat)(t:TGs):TG:=fun v σ H Q=>∃ a xs,v=.ref a/\SqT K H a xs/\xs.length=n/\t xs σ H Q
theorem zle{es:List Expr}{k:Nat}{t:TGs}{n:Nat}(hc:X.calm=true)(h:PGs X es t)
  (hn:(assignEach es X.env).length=n:=by rfl)(hst:(assignEach es X.env).findIdx? (·.1)=none:=by rfl):PG X (.Tuple es k pos) (zoc X.K n t):=by
 intro pins s σ H v u Q I r hw
 obtain ⟨a,xs,e1,hq,hl,hw⟩:=hw
 subst e1
 cases r
 obtain ⟨its,rv,ht,hz⟩:=I.tuple hq
 refine assign_Tuple_tuple (I.ok.hd hc) ht (by simp [hn,← hl,rv.length]) hst fun h' hx=>?_
 have I1:Inv X pins σ H { s with heap:=h' }:=I.kept (t':=s.toks) fun b o e=>hx b o (Nat.ne_of_lt (Heap.lt_size e)) e
 exact h pins _ σ H xs _ Q I1 (by simpa using rv) hw
noncomputable def zmP(to ti:TE)(t:zlV):TG:=fun v σ H Q=>to σ H fun o H1=>ti σ H1 fun i H2=>t o i v H2 fun H3=>Q σ H3
theorem zaa{o i:Expr}{to ti:TE}{t:zlV}(ho:PE X o to)(hi:PE X i ti)(hs:znm X t)
  (ha:∀ v,assign (.Subscript o i pos) X.env v=(do
   let ov ← holding [v] (eval o X.env)
   let iv ← holding [v,ov] (eval i X.env)
   standAt pos
   holding [v,ov,iv] (setItem ov iv v)
   release [v,ov,iv] []):=by intro _;rfl):PG X (.Subscript o i pos) (zmP to ti t):=by
 intro pins s σ H v u Q I r h
 rw [ha]
 refine wpAny_bind (wpAny_holding (thn (ho pins s σ H _ I h) fun ov s1 hq_=>?_))
 obtain ⟨x,H1,I1,r1,q1⟩:=hq_
 refine wpAny_bind (wpAny_holding (thn (hi pins s1 σ H1 _ I1 q1) fun iv s2 hq_=>?_))
 obtain ⟨y,H2,I2,r2,q2⟩:=hq_
 refine wpAny_bind (wpAny_standAt (wpAny_bind (wpAny_holding (thn (hs pins s2 σ H2 x y v ov iv u _ I2 r1 r2 r q2) fun _ s3 hq_=>?_))))
 obtain ⟨H3,I3,q3⟩:=hq_
 exact wpAny_release ⟨σ,H3,I3,q3⟩
noncomputable def qj(te:TE)(g:TG):TS:=fun D σ H=>te σ H fun x H1=>g x σ H1 D.nx
theorem km{tg e:Expr}{te:TE}{g:TG}(he:PE X e te)(hg:PG X tg g)(hs:swapsWithSole [tg] e pos.line X.env=pure false:=by rfl)(hw:swappedStores [tg] e X.env=pure none:=by rfl)
  (h1:(assignEach [tg] X.env).map (·.2)=[assign tg X.env]:=by rfl):PS X (.Assign [tg] e pos) (qj te g):=by
 intro pins s σ H D I h
 refine wpAny_Assign_stores (thn (he pins s σ H _ I h) fun v s1 ⟨x,H1,I1,r1,q1⟩=>?_) hs hw
 rw [h1]
 exact thn (hg pins s1 σ H1 x v _ I1 r1 q1) fun _ s2 q=>q
theorem zR{i:Nat}{x:Str}{e:Expr}{te:TE}{pos':Pos}(hN:X.N.Nodup)(hi:X.N[i]?=some x)(hx:Loc X.env.scope x)(he:PE X e te)(hs:swapsWith e (some (.Name x pos')) pos.line X.env=pure false:=by rfl)(hf:X.fn x=true∨X.env.scope.names.lookup x=some .local:=by first | exact .inl rfl | exact .inr rfl | assumption):
  PS X (.Assign [.Name x pos'] e pos) (qj te (jb i)):=by
 intro pins s σ H D I h
 refine wpAny_Assign_Name (thn (he pins s σ H _ I h) fun v s1 ⟨y,H1,I1,r1,q1⟩=>?_) hs
 exact qm I1 hN hi hx r1 (fun s2 I2=>⟨_,H1,I2,q1⟩) hf
noncomputable def zmj(i:Nat)(te:TE)(ti:TIp):TS:=fun D σ H=>∃ x,σ[i]?=some (some x)/\te σ H fun y H1=>ti x y H1 fun z H2=>D.nx (σ.set i (some z)) H2
theorem zlb{i:Nat}{x:Str}{e:Expr}{te:TE}{op:Operator}{ti:TIp}{pos':Pos}(hN:X.N.Nodup)(hi:X.N[i]?=some x)(hx:Loc X.env.scope x)(he:PE X e te)(ho:PIp X op ti)(hf:X.fn x=true∨X.env.scope.names.lookup x=some .local:=by first | exact .inl rfl | exact .inr rfl | assumption):
  PS X (.AugAssign (.Name x pos') op e pos) (zmj i te ti):=by
 intro pins s σ H D I h
 obtain ⟨v,e1,h⟩:=h
 obtain ⟨m,hn,hl⟩:=I.loc
 have vis:Vis X.env.scope x:=by rcases hx with k | k;exact .inl k;exact .inr (.inl k)
 obtain ⟨u,r,l⟩:=hl i x v hi e1 vis
 refine wpAny_AugAssign_Name ?_
 have go:wpAny (model X.prog X.w) X.A (eval e X.env) (fun w s₂=>wpAny (model X.prog X.w) X.A (inplaceOp op u w) (fun r s₃=>wpAny (model X.prog X.w) X.A (storeName X.env x r) (fun _=>SP X pins D .next) X.xe s₃) X.xe s₂) X.xe s:=by
  refine thn (he pins s σ H _ I h) fun w s1 ⟨y,H1,I1,r1,q1⟩=>?_
  refine thn (ho pins s1 σ H1 v y u w _ I1 r r1 q1) fun z s2 ⟨zv,H2,I2,r2,q2⟩=>?_
  exact qm I2 hN hi hx r2 (fun s3 I3=>⟨_,H2,I3,q2⟩) hf
 rcases l with ⟨hk,hm⟩ | ⟨hk,c,hc,hcell⟩
 ·exact wpAny_loadName_local I.ok.kind hk hn hm go
 ·rcases hk with hk | hk
  ·exact wpAny_loadName_cell I.ok.kind hk hc hcell go
  ·rcases hx with k | k
   ·have:X.env.scope.names.lookup x=some .free:=hk
    rw [k] at this;cases this
   ·have:X.env.scope.names.lookup x=some .free:=hk
    rw [k] at this;cases this
noncomputable def ipI(f:Int->Int->Int):TIp:=fun x y H Q=>∃ i j,x=.int i/\y=.int j/\Q (.int (f i j)) H
theorem zlA:PIp X .Add (ipI fun i j=>i+j):=by
 intro pins s σ H x y v u Q I r1 r2 h
 obtain ⟨i,j,e1,e2,q⟩:=h
 subst e1;subst e2
 obtain ⟨t,rfl⟩:=r1
 obtain ⟨t',rfl⟩:=r2
 exact iadd_int ⟨.int _,H,I.tok _,⟨_,rfl⟩,q⟩
noncomputable def zkM(c:TT)(tb:TS):TS:=fun D σ H=>∃ W:Nat->St->Hp->Prop,(∃ m,W m σ H)/\∀ m σ H,W m σ H->
 c σ H fun b H1=>if b=true then ∃ N:St->Hp->Prop,(∀ σ' H',N σ' H'->∃ m',m'<m/\W m' σ' H')/\tb { D with nx:=N,ct:=N,bk:=D.nx } σ H1 else D.nx σ H1
theorem zhw{c:Expr}{body:List Stmt}{tc:TT}{tb:TS}(hp:PassesOwn (model X.prog X.w) X.A X.env X.xe)(hc:PT X c tc)(hb:PSs X body tb):PS X (.While c body [] pos) (zkM tc tb):=by
 intro pins s σ H D I h
 obtain ⟨W,⟨m0,w0⟩,turn⟩:=h
 refine wpAny_While (codeAny_whileLoop (fun n s'=>∃ σ' H',Inv X pins σ' H' s'/\W n σ' H') ?_ m0 ⟨σ,H,I,w0⟩)
 rintro n s1 ⟨σ1,H1,I1,w1⟩
 refine wpAny_passesOwn hp (thn (hc pins s1 σ1 H1 _ I1 (turn n σ1 H1 w1)) fun b s2 hq_=>?_)
 obtain ⟨H2,I2,q2⟩:=hq_
 cases b with
 | true=>
  obtain ⟨N,hN,q2⟩:=q2
  rw [if_pos rfl]
  refine wpAny_passesOwn hp (thn (hb pins s2 σ1 H2 _ I2 q2) fun f s3 q3=>?_)
  cases f with
  | next=>
   obtain ⟨σ3,H3,I3,n3⟩:=q3
   obtain ⟨m',hm,w3⟩:=hN σ3 H3 n3
   exact ⟨m',hm,σ3,H3,I3,w3⟩
  | cont=>
   obtain ⟨σ3,H3,I3,n3⟩:=q3
   obtain ⟨m',hm,w3⟩:=hN σ3 H3 n3
   exact ⟨m',hm,σ3,H3,I3,w3⟩
  | brk=>exact q3
  | ret v=>exact q3
 | false=>
  rw [if_neg Bool.false_ne_true]
  exact wpAny_execs_nil ⟨σ1,H2,I2,q2⟩
end
structure It where
 go:Nat->Hp->Prop
 yld:Nat->Hp->V->Hp->Prop
 stop:Nat->Hp->Prop
noncomputable def jT(X:Cx)(pins:List (Addr × Obj))(H:Hp)(b:Addr):Prop:=
 H b=none/\b≠X.env.locals/\b ∉ X.fs/\(b ∈ X.ex∨X.s₀.heap.objs.size≤b)/\(∀ x c,X.env.cells.lookup x=some c->c≠b)/\∀ p ∈ X.pn++pins,p.1≠b
theorem Inv.fpOk{X:Cx}{pins:List (Addr × Obj)}{σ:St}{H H':Hp}{s:Shared}{b:Addr}(I:Inv X pins σ H s)(hb:s.heap.objs.size≤b)(hn:H' b=none):jT X pins H' b:=by
 refine ⟨hn,Nat.ne_of_gt (Nat.lt_of_lt_of_le I.lt hb),I.nofs hb,.inr (Nat.le_trans I.sz hb),fun x c e z=>?_,fun p hp z=>?_⟩
 ·obtain ⟨v,q⟩:=I.cell x c e
  exact absurd (Nat.lt_of_lt_of_le q.lt (by rw [z];exact hb)) (Nat.lt_irrefl _)
 ·exact absurd (Nat.lt_of_lt_of_le (Heap.lt_size (I.pin p hp).1) (by rw [z];exact hb)) (Nat.lt_irrefl _)
structure Turn (P:Program) (w:World) (K:PySem.W.Frag) (tg:Expr) (J:It) (fp:List Addr) (it:Addr) (tn:Nat->Heap->Prop):Prop where
 mem:it ∈ fp
 obj:∀ i h,tn i h->∀ b ∈ fp,∃ o,h.get? b=some o/\∀ v,o.data≠.cell v
 keep:∀ i h h',tn i h->(∀ b ∈ fp,∀ o,h.get? b=some o->h'.get? b=some o)->tn i h'
 item:∀ (X:Cx),X.prog=P->X.w=w->X.K=K->X.calm=true->∀ (i:Nat) (pins:List (Addr × Obj)) (s:Shared) (σ:St) (H:Hp) (E:Value->Shared->Prop),Inv X pins σ H s->(∀ b ∈ fp,jT X pins H b)->tn i s.heap->J.go i H->
  wpAny (model P w) X.A (pyNext (.ref it)) (fun r s1=>∃ u,r=some u/\
   wpAny (model P w) X.A (letOwnedTupleGo tg (.ref it) u) (fun _ s2=>∃ x H',Inv X pins σ H' s2/\RelV x u/\J.yld i H x H'/\tn (i+1) s2.heap/\∀ b ∈ fp,H' b=none) E s1) E s
 done:∀ (X:Cx),X.prog=P->X.w=w->X.K=K->X.calm=true->∀ (i:Nat) (pins:List (Addr × Obj)) (s:Shared) (σ:St) (H:Hp) (E:Value->Shared->Prop),Inv X pins σ H s->(∀ b ∈ fp,jT X pins H b)->tn i s.heap->J.stop i H->
  wpAny (model P w) X.A (pyNext (.ref it)) (fun r s1=>r=none/\Inv X pins σ H s1) E s
 self:∀ (A:Around) (i:Nat) (s:Shared) (Q:Value->Shared->Prop) (E:Value->Shared->Prop),tn i s.heap->Q (.ref it) s->wpAny (model P w) A (pyIter (.ref it)) Q E s
noncomputable abbrev TI:=St->Hp->(It->Hp->Prop)->Prop
noncomputable def PIE(X:Cx)(pins:List (Addr × Obj))(σ:St)(tg:Expr)(R:It->Hp->Prop)(itv:Value)(s2:Shared):Prop:=
 ∃ (it:Addr) (fp:List Addr) (tn:Nat->Heap->Prop) (J:It) (H':Hp),itv=.ref it/\Inv X pins σ H' s2/\Turn X.prog X.w X.K tg J fp it tn/\tn 0 s2.heap/\(∀ b ∈ fp,jT X pins H' b)/\R J H'
noncomputable def PI(X:Cx)(tg iter:Expr)(wi:TI):Prop:=
 ∀ (pins:List (Addr × Obj)) (s:Shared) (σ:St) (H:Hp) (R:It->Hp->Prop),Inv X pins σ H s->wi σ H R->
  wpAny (model X.prog X.w) X.A (eval iter X.env) (fun v s1=>wpAny (model X.prog X.w) X.A (pyIter v) (PIE X pins σ tg R) X.xe s1) X.xe s
theorem ziq {M : Model} {A : Around} {E : Value → Shared → Prop} {s : Shared} {tg : Expr} {it : Addr} {u : Value} {o : Obj} {n : String} {vs : Array Value} {Q : Unit → Shared → Prop} (ho : s.heap.get? it = some o) (hc : o.cls = .type n) (hd : o.data = .fields vs)
    (hn : ["enumerate", "zip", "dict_itemiterator", "dict_reverseitemiterator", "odict_iterator", "itertools.zip_longest", "itertools.pairwise"].contains n = false) (hQ : Q () s) : wpAny M A (letOwnedTupleGo tg (.ref it) u) Q E s := by
  unfold letOwnedTupleGo
  cases tg <;> first
    | exact wpAny_pure hQ
    | (cases u <;> first
        | exact wpAny_pure hQ
        | (refine wpAny_bind (wpAny_load ho ?_)
           rw [hc, hd]
           show wpAny M A (if (["enumerate", "zip", "dict_itemiterator", "dict_reverseitemiterator", "odict_iterator", "itertools.zip_longest", "itertools.pairwise"].contains n && vs[0]? == some (rawInt _)) = true then _ else _) Q E s
           rw [if_neg (by intro h; rw [hn, Bool.false_and] at h; cases h)]
           exact wpAny_pure hQ))
noncomputable def Itl(K:PySem.W.Frag)(a:Addr):It:=
 ⟨fun i H=>∃ xs x,SqL K H a xs/\xs[i]?=some x,fun i H x H'=>H'=H/\∀ xs,SqL K H a xs->xs[i]?=some x,fun i H=>∃ xs,SqL K H a xs/\xs.length≤i⟩
noncomputable def Itt(K:PySem.W.Frag)(a:Addr):It:=
 ⟨fun i H=>∃ xs x,SqT K H a xs/\xs[i]?=some x,fun i H x H'=>H'=H/\∀ xs,SqT K H a xs->xs[i]?=some x,fun i H=>∃ xs,SqT K H a xs/\xs.length≤i⟩
noncomputable def Itr(lo:Int)(n:Nat):It:=⟨fun i _=>i<n,fun i H x H'=>H'=H/\x=.int (lo+i),fun i _=>n≤i⟩
theorem zfO{P:Program}{w:World}{K:PySem.W.Frag}{tg:Expr}(a it:Addr):Turn P w K tg (Itl K a) [it] it (fun i h=>h.IsListIter it a i) where
 mem:=by simp
 obj:=fun i h st b hb=>by
  have e:b=it:=by simpa using hb
  subst e
  obtain ⟨o,e,c,d⟩:=st
  exact ⟨o,e,fun v z=>by rw [d] at z;cases z⟩
 keep:=fun i h h' st k=>st.at fun o e=>k it (by simp) o e
 item:=by
  intro X hP hw hK hc i pins s σ H E I hf st hg
  subst hP hw hK
  obtain ⟨xs,x,hq,hx⟩:=hg
  obtain ⟨its,rv,p,hz⟩:=I.list hq
  obtain ⟨u,hu,ru⟩:=rv.get hx
  obtain ⟨f0,f1,f2,f3,f4,f5⟩:=hf it (by simp)
  refine wpAny_pyNext_list_item st p.isList (x:=u) (by simpa using hu) fun h' st' sb=>?_
  have I1:Inv X pins σ H { s with heap:=h' }:=I.turned (t':=s.toks) (fun b o hb e=>(sb.2 b hb).trans e) f0 f1 f3 f4 f5
  obtain ⟨o,e,c,d⟩:=id st'
  exact ⟨u,rfl,ziq (s:={ s with heap:=h' }) e c d (by decide) ⟨x,H,I1,ru,⟨rfl,fun ys hy=>by rw [I.list_inj hy hq];exact hx⟩,st',fun b hb=>(hf b hb).1⟩⟩
 done:=by
  intro X hP hw hK hc i pins s σ H E I hf st hg
  subst hP hw hK
  obtain ⟨xs,hq,hx⟩:=hg
  obtain ⟨its,rv,p,hz⟩:=I.list hq
  obtain ⟨f0,f1,f2,f3,f4,f5⟩:=hf it (by simp)
  have hl:=rv.length
  exact wpAny_pyNext_list_end (I.ok.hd hc) st p.isList (by simp;omega) fun h' eb=>⟨rfl,I.turned (t':=s.toks) (fun b o hb e=>eb b o hb e) f0 f1 f3 f4 f5⟩
 self:=fun _ _ _ _ _ st h=>wpAny_pyIter_listiter st h
theorem zdU{P:Program}{w:World}{K:PySem.W.Frag}{tg:Expr}(a it:Addr):Turn P w K tg (Itt K a) [it] it (fun i h=>h.IsTupleIter it a i) where
 mem:=by simp
 obj:=fun i h st b hb=>by
  have e:b=it:=by simpa using hb
  subst e
  obtain ⟨o,e,c,d⟩:=st
  exact ⟨o,e,fun v z=>by rw [d] at z;cases z⟩
 keep:=fun i h h' st k=>st.at fun o e=>k it (by simp) o e
 item:=by
  intro X hP hw hK hc i pins s σ H E I hf st hg
  subst hP hw hK
  obtain ⟨xs,x,hq,hx⟩:=hg
  obtain ⟨its,rv,p,hz⟩:=I.tuple hq
  obtain ⟨u,hu,ru⟩:=rv.get hx
  obtain ⟨f0,f1,f2,f3,f4,f5⟩:=hf it (by simp)
  refine wpAny_pyNext_tuple_item st (show s.heap.IsTuple a its.toArray from p) (x:=u) (by simpa using hu) fun h' st' sb=>?_
  have I1:Inv X pins σ H { s with heap:=h' }:=I.turned (t':=s.toks) (fun b o hb e=>(sb.2 b hb).trans e) f0 f1 f3 f4 f5
  obtain ⟨o,e,c,d⟩:=id st'
  exact ⟨u,rfl,ziq (s:={ s with heap:=h' }) e c d (by decide) ⟨x,H,I1,ru,⟨rfl,fun ys hy=>by rw [I.tuple_inj hy hq];exact hx⟩,st',fun b hb=>(hf b hb).1⟩⟩
 done:=by
  intro X hP hw hK hc i pins s σ H E I hf st hg
  subst hP hw hK
  obtain ⟨xs,hq,hx⟩:=hg
  obtain ⟨its,rv,p,hz⟩:=I.tuple hq
  obtain ⟨f0,f1,f2,f3,f4,f5⟩:=hf it (by simp)
  have hl:=rv.length
  exact wpAny_pyNext_tuple_end (I.ok.hd hc) st (show s.heap.IsTuple a its.toArray from p) (by simp;omega) fun h' eb=>⟨rfl,I.turned (t':=s.toks) (fun b o hb e=>eb b o hb e) f0 f1 f3 f4 f5⟩
 self:=fun _ _ _ _ _ st h=>wpAny_pyIter_tupleiter st h
theorem zdV{P:Program}{w:World}{K:PySem.W.Frag}{tg:Expr}(it:Addr)(lo:Int)(n:Nat):Turn P w K tg (Itr lo n) [it] it (fun i h=>IsRangeIter h it (lo+(i:Nat) * 1) ((n:Int) - (i:Nat)) 1) where
 mem:=by simp
 obj:=fun i h st b hb=>by
  have e:b=it:=by simpa using hb
  subst e
  exact ⟨_,st,fun v z=>by
   have z':Data.fields _=Data.cell v:=z
   cases z'⟩
 keep:=fun i h h' st k=>k it (by simp) _ st
 item:=by
  intro X hP hw hK hc i pins s σ H E I hf st hg
  subst hP hw hK
  obtain ⟨f0,f1,f2,f3,f4,f5⟩:=hf it (by simp)
  have W:=Walks.range (prog:=X.prog) (w:=X.w) (I.ok.hd hc) it lo 1 n
  refine W.item i s _ _ hg st fun v h' tk hv st' kk=>?_
  obtain ⟨t,rfl⟩:=hv
  have I1:Inv X pins σ H { s with heap:=h',toks:=tk }:=I.turned (fun b o hb e=>kk b o (by simpa using hb) e) f0 f1 f3 f4 f5
  refine ⟨_,rfl,ziq (s:={ s with heap:=h',toks:=tk }) (n:="range_iterator") st' rfl rfl (by decide) ⟨.int (lo+i),H,I1,⟨t,?_⟩,⟨rfl,rfl⟩,st',fun b hb=>(hf b hb).1⟩⟩
  rw [Int.mul_one]
 done:=by
  intro X hP hw hK hc i pins s σ H E I hf st hg
  subst hP hw hK
  obtain ⟨f0,f1,f2,f3,f4,f5⟩:=hf it (by simp)
  exact wpAny_pyNext_range_end (I.ok.hd hc) st (by have:n≤i:=hg;omega) fun h' eb=>⟨rfl,I.turned (t':=s.toks) (fun b o hb e=>eb b o hb e) f0 f1 f3 f4 f5⟩
 self:=fun _ _ _ _ _ st h=>wpAny_pyIter_rangeiter st h
section
variable {X:Cx} {tg:Expr}
noncomputable def zmO(K:PySem.W.Frag)(tl:TE):TI:=fun σ H R=>tl σ H fun x H1=>∃ a,x=.ref a/\(∃ xs,SqL K H1 a xs)/\R (Itl K a) H1
noncomputable def zob(K:PySem.W.Frag)(tl:TE):TI:=fun σ H R=>tl σ H fun x H1=>∃ a,x=.ref a/\(∃ xs,SqT K H1 a xs)/\R (Itt K a) H1
theorem zjE{l:Expr}{tl:TE}(hl:PE X l tl):PI X tg l (zmO X.K tl):=by
 intro pins s σ H R I h
 refine thn (hl pins s σ H _ I h) fun v s1 ⟨x,H1,I1,r1,q1⟩=>?_
 obtain ⟨a,e,⟨xs,hq⟩,q⟩:=q1
 subst e
 cases r1
 obtain ⟨its,rv,p,hz⟩:=I1.list hq
 refine wpAny_pyIter_list p.isList ?_
 refine ⟨s1.heap.objs.size,[s1.heap.objs.size],_,_,H1,rfl,I1.kept (t':=s1.toks) fun b o e=>Heap.get?_push_of_some _ e,zfO a _,⟨_,Heap.get?_push_size _ rfl,rfl,rfl⟩,fun b hb=>?_,q⟩
 have e:b=s1.heap.objs.size:=by simpa using hb
 subst e
 exact I1.fpOk (Nat.le_refl _) (I1.hok.fresh (Nat.le_refl _))
theorem zld{l:Expr}{tl:TE}(hl:PE X l tl):PI X tg l (zob X.K tl):=by
 intro pins s σ H R I h
 refine thn (hl pins s σ H _ I h) fun v s1 ⟨x,H1,I1,r1,q1⟩=>?_
 obtain ⟨a,e,⟨xs,hq⟩,q⟩:=q1
 subst e
 cases r1
 obtain ⟨its,rv,p,hz⟩:=I1.tuple hq
 refine wpAny_pyIter_tuple (show s1.heap.IsTuple a its.toArray from p) ?_
 refine ⟨s1.heap.objs.size,[s1.heap.objs.size],_,_,H1,rfl,I1.kept (t':=s1.toks) fun b o e=>Heap.get?_push_of_some _ e,zdU a _,⟨_,Heap.get?_push_size _ rfl,rfl,rfl⟩,fun b hb=>?_,q⟩
 have e:b=s1.heap.objs.size:=by simpa using hb
 subst e
 exact I1.fpOk (Nat.le_refl _) (I1.hok.fresh (Nat.le_refl _))
theorem zhp{pins:List (Addr × Obj)}{σ:St}{H:Hp}{s:Shared}{R:It->Hp->Prop}{E:Value->Shared->Prop}{lo hi:Int}{t u v:Tok}{tk:Nat}(I:Inv X pins σ H s)(h1 : -(2 ^ 62)≤lo)(h2:lo<2 ^ 62)(h3 : -(2 ^ 62)≤hi)(h4:hi<2 ^ 62)
  (q:R (Itr lo (hi - lo).toNat) H):wpAny (model X.prog X.w) X.A (pyIter (.ref s.heap.objs.size)) (PIE X pins σ tg R) E { s with heap:=s.heap.push { cls:=.type "range",data:=.fields #[.int lo t,.int hi u,.int 1 v] },toks:=tk }:=by
 refine wpAny_pyIter_range (IsRange.new ..) (small_one h1 h2 h3 h4) ?_
 have I1:Inv X pins σ H { s with heap:=s.heap.push { cls:=.type "range",data:=.fields #[.int lo t,.int hi u,.int 1 v] },toks:=tk }:=I.kept fun b o e=>Heap.get?_push_of_some _ e
 refine ⟨(s.heap.push { cls:=.type "range",data:=.fields #[.int lo t,.int hi u,.int 1 v] }).objs.size,[(s.heap.push { cls:=.type "range",data:=.fields #[.int lo t,.int hi u,.int 1 v] }).objs.size],_,_,H,rfl,
  I1.kept (t':=tk) fun b o e=>Heap.get?_push_of_some _ e,zdV _ lo (hi - lo).toNat,?_,fun b hb=>?_,q⟩
 ·have e1:lo+((0:Nat):Int) * 1=lo:=by simp
  have e2:(((hi - lo).toNat:Nat):Int) - ((0:Nat):Int)=Builtin.Range.rangeSize lo hi 1:=by rw [rangeSize_one];split<;>omega
  show IsRangeIter _ _ (lo+((0:Nat):Int) * 1) ((((hi - lo).toNat:Nat):Int) - ((0:Nat):Int)) 1
  rw [e1,e2]
  exact Heap.get?_push_size _ rfl
 ·have e:b=(s.heap.push { cls:=.type "range",data:=.fields #[.int lo t,.int hi u,.int 1 v] }).objs.size:=by simpa using hb
  subst e
  exact I1.fpOk (Nat.le_refl _) (I1.hok.fresh (Nat.le_refl _))
noncomputable def zmN(ta:TA):TI:=fun σ H R=>ta σ H fun vs H1=>∃ j:Int,vs=[.int j]/\-(2 ^ 62)≤j/\j<2 ^ 62/\R (Itr 0 j.toNat) H1
theorem zfW{a:Expr}{ta:TA}{p pos:Pos}(hg:Gl X "range")(hm:X.mg "range"=none)(ha:PA X [a] ta)(hs:starEach [a] X.env=[(false,eval a X.env)]:=by rfl):PI X tg (.Call (.Name "range" p) [a] [] pos) (zmN ta):=by
 intro pins s σ H R I h
 refine Call_ (uS I hg hm boot_range (PyProof.Rows.callWith_type1 (thn (ha pos pins s σ H _ I h) fun us s1 ⟨vs,H1,I1,r1,q1⟩=>?_) hs rfl))
 obtain ⟨j,e,q1,q2,q⟩:=q1
 subst e
 cases r1 with
 | cons r rr=>
  cases rr
  obtain ⟨t,rfl⟩:=r
  exact call_range_1 (zhp I1 (by omega) (by omega) q1 q2 (by simpa using q))
noncomputable def znM(wi:TI)(g:TG)(tb:TS):TS:=fun D σ H=>wi σ H fun J H1=>∃ W:Nat->Nat->St->Hp->Prop,(∃ m,W 0 m σ H1)/\∀ i m σ H,W i m σ H->
 (J.stop i H/\D.nx σ H)∨(J.go i H/\∃ N:St->Hp->Prop,(∀ σ' H',N σ' H'->∃ m',m'<m/\W (i+1) m' σ' H')/\∀ x H',J.yld i H x H'->g x σ H' fun σ2 H2=>tb { D with nx:=N,ct:=N,bk:=D.nx } σ2 H2)
noncomputable def q9(fp:List Addr)(h:Heap):List (Addr × Obj):=fp.filterMap fun b=>(h.get? b).map fun o=>(b,o)
theorem uR{fp:List Addr}{h:Heap}{b:Addr}{o:Obj}(hb:b ∈ fp)(e:h.get? b=some o):(b,o) ∈ q9 fp h:=List.mem_filterMap.mpr ⟨b,hb,by rw [e];rfl⟩
theorem zgd{fp:List Addr}{h:Heap}{p:Addr × Obj}(hp:p ∈ q9 fp h):p.1 ∈ fp/\h.get? p.1=some p.2:=by
 obtain ⟨b,hb,e⟩:=List.mem_filterMap.mp hp
 cases q:h.get? b with
 | none=>rw [q] at e;cases e
 | some o=>
  rw [q] at e
  have e':(b,o)=p:=Option.some.inj e
  subst e'
  exact ⟨hb,q⟩
theorem Inv.pinned{pins:List (Addr × Obj)}{σ:St}{H:Hp}{s:Shared}{fp:List Addr}(I:Inv X pins σ H s)(hf:∀ b ∈ fp,jT X pins H b)(ho:∀ b ∈ fp,∃ o,s.heap.get? b=some o/\∀ v,o.data≠.cell v):Inv X (pins++q9 fp s.heap) σ H s:=
 I.pins_of fun p hp=>(List.mem_append.mp hp).elim (fun z=>I.pin p (List.mem_append_right _ z)) fun z=>by
  obtain ⟨hb,e⟩:=zgd z
  obtain ⟨f0,f1,f2,_⟩:=hf p.1 hb
  obtain ⟨o,e',d⟩:=ho p.1 hb
  rw [e] at e';cases e'
  exact ⟨e,f0,f1,f2,d⟩
theorem Inv.unpinned{pins pl:List (Addr × Obj)}{σ:St}{H:Hp}{s:Shared}(I:Inv X (pins++pl) σ H s):Inv X pins σ H s:=I.pins_of fun p hp=>I.pin p (List.mem_append_right _ (List.mem_append_left _ hp))
theorem zla{iter:Expr}{body:List Stmt}{wi:TI}{g:TG}{tb:TS}{pos:Pos}(hp:PassesOwn (model X.prog X.w) X.A X.env X.xe)(hc:X.calm=true)(hi:PI X tg iter wi)(hg:PG X tg g)(hb:PSs X body tb)
  (hs:∀ x,foldedSetIterable iter X.env x=pure x:=by intro _;rfl):PS X (.For tg iter body [] pos) (znM wi g tb):=by
 intro pins s σ H D I h
 refine wpAny_For (thn (hi pins s σ H _ I h) fun v s1 h1=>thn h1 fun itv s2 h2=>?_) hs
 obtain ⟨it,fp,tn,J,H2,e,I2,T,st2,f2,W,⟨m0,w0⟩,turn⟩:=h2
 subst e
 -- what stays true of the iterator's objects through the loop
 have stat:∀ {H':Hp},(∀ b ∈ fp,H' b=none)->∀ b ∈ fp,jT X pins H' b:=fun hn b hb=>⟨hn b hb,(f2 b hb).2⟩
 refine codeAny_forLoop_any (fun n s'=>∃ i σ' H',Inv X pins σ' H' s'/\tn i s'.heap/\(∀ b ∈ fp,H' b=none)/\W i n σ' H') ?_ m0 ⟨0,σ,H2,I2,st2,fun b hb=>(f2 b hb).1,w0⟩
 rintro n s3 ⟨i,σ3,H3,I3,st3,fr3,w3⟩
 rcases turn i n σ3 H3 w3 with ⟨stop,qn⟩ | ⟨go,N,hN,step⟩
 ·refine wpAny_passesOwn hp (thn (T.done X rfl rfl rfl hc i pins s3 σ3 H3 X.xe I3 (stat fr3) st3 stop) fun r s4 ⟨hr,I4⟩=>?_)
  subst hr
  exact wpAny_execs_nil ⟨σ3,H3,I4,qn⟩
 ·refine wpAny_passesOwn hp (thn (T.item X rfl rfl rfl hc i pins s3 σ3 H3 X.xe I3 (stat fr3) st3 go) fun r s4 ⟨u,hr,h4⟩=>?_)
  subst hr
  refine wpAny_passesOwn hp (thn h4 fun _ s5 hq_=>?_)
  obtain ⟨x,H5,I5,r5,y5,st5,fr5⟩:=hq_
  have I5':=I5.pinned (stat fr5) (T.obj _ _ st5)
  refine wpAny_passesOwn hp (thn (hg _ s5 σ3 H5 x u _ I5' r5 (step x H5 y5)) fun _ s6 hq_=>?_)
  obtain ⟨σ6,H6,I6,q6⟩:=hq_
  refine wpAny_passesOwn hp (thn (hb _ s6 σ6 H6 _ I6 q6) fun f s7 q7=>?_)
  have again:∀ {σ7:St} {H7:Hp},Inv X (pins++q9 fp s5.heap) σ7 H7 s7->N σ7 H7->∃ m,m<n/\∃ i σ' H',Inv X pins σ' H' s7/\tn i s7.heap/\(∀ b ∈ fp,H' b=none)/\W i m σ' H':=fun {σ7 H7} I7 n7=>by
   obtain ⟨m',hm,w7⟩:=hN σ7 H7 n7
   refine ⟨m',hm,i+1,σ7,H7,I7.unpinned,T.keep _ _ _ st5 fun b hb o e=>(I7.pin (b,o) (List.mem_append_right _ (List.mem_append_right _ (uR hb e)))).1,fun b hb=>?_,w7⟩
   obtain ⟨o,e,d⟩:=T.obj _ _ st5 b hb
   exact (I7.pin (b,o) (List.mem_append_right _ (List.mem_append_right _ (uR hb e)))).2.1
  cases f with
  | next=>obtain ⟨σ7,H7,I7,n7⟩:=q7;exact again I7 n7
  | cont=>obtain ⟨σ7,H7,I7,n7⟩:=q7;exact again I7 n7
  | brk=>obtain ⟨σ7,H7,I7,q7⟩:=q7;exact ⟨σ7,H7,I7.unpinned,q7⟩
  | ret v=>obtain ⟨x7,σ7,H7,I7,r7,q7⟩:=q7;exact ⟨x7,σ7,H7,I7.unpinned,r7,q7⟩
end
noncomputable abbrev R2:=V->V->Hp->VK->Prop
noncomputable def OpR(X:Cx)(f:Value->Value->Sem Value)(r:R2):Prop:=
 ∀ (pins:List (Addr × Obj)) (s:Shared) (σ:St) (H:Hp) (x y:V) (v u:Value) (Q:VK),Inv X pins σ H s->RelV x v->RelV y u->r x y H Q->
  wpAny (model X.prog X.w) X.A (f v u) (EP X pins σ Q) X.xe s
noncomputable def UnR(X:Cx)(f:Value->Sem Value)(r:V->Hp->VK->Prop):Prop:=
 ∀ (pins:List (Addr × Obj)) (s:Shared) (σ:St) (H:Hp) (x:V) (v:Value) (Q:VK),Inv X pins σ H s->RelV x v->r x H Q->
  wpAny (model X.prog X.w) X.A (f v) (EP X pins σ Q) X.xe s
noncomputable def CallR(X:Cx)(f:Value)(r:List V->Hp->VK->Prop):Prop:=
 ∀ (pins:List (Addr × Obj)) (s:Shared) (σ:St) (H:Hp) (xs:List V) (us:List Value) (Q:VK),Inv X pins σ H s->Vals xs us->r xs H Q->
  wpAny (model X.prog X.w) X.A (call f us) (EP X pins σ Q) X.xe s
noncomputable def zom(X:Cx)(r:V->Hp->(Bool->Hp->Prop)->Prop):Prop:=
 ∀ (pins:List (Addr × Obj)) (s:Shared) (σ:St) (H:Hp) (x:V) (v:Value) (Q:Bool->Hp->Prop),Inv X pins σ H s->RelV x v->r x H Q->
  wpAny (model X.prog X.w) X.A (truthy v) (TP X pins σ Q) X.xe s
noncomputable def tOp(r:R2)(ta tb:TE):TE:=fun σ H Q=>ta σ H fun x H1=>tb σ H1 fun y H2=>r x y H2 Q
noncomputable def tUn(r:V->Hp->VK->Prop)(ta:TE):TE:=fun σ H Q=>ta σ H fun x H1=>r x H1 Q
noncomputable def rI(C:Int->Int->Prop)(g:Int->Int->V):R2:=fun x y H Q=>∃ i j,x=.int i/\y=.int j/\C i j/\Q (g i j) H
noncomputable def rI0(g:Int->Int->V):R2:=fun x y H Q=>∃ i j,x=.int i/\y=.int j/\Q (g i j) H
noncomputable def rU(g:Int->V):V->Hp->VK->Prop:=fun x H Q=>∃ i,x=.int i/\Q (g i) H
section
variable {X:Cx} {a b c:Expr} {ta tb tc:TE} {pos:Pos}
theorem zlP(ha:PE X a ta)(hb:PE X b tb){pins:List (Addr × Obj)}{s:Shared}{σ:St}{H:Hp}{R:V->V->Hp->Prop}(I:Inv X pins σ H s)
  (h:ta σ H fun x H1=>tb σ H1 fun y H2=>R x y H2){Q:Value->Shared->Prop}{f:Value->Value->Sem Value}
  (hf:∀ v u s2 x y H2,Inv X pins σ H2 s2->RelV x v->RelV y u->R x y H2->wpAny (model X.prog X.w) X.A (f v u) Q X.xe s2):
  wpAny (model X.prog X.w) X.A (eval a X.env) (fun v s₁=>wpAny (model X.prog X.w) X.A (eval b X.env) (fun u s₂=>wpAny (model X.prog X.w) X.A (f v u) Q X.xe s₂) X.xe s₁) X.xe s:=by
 refine thn (ha pins s σ H _ I h) fun v s1 ⟨x,H1,I1,r1,q1⟩=>?_
 refine thn (hb pins s1 σ H1 _ I1 q1) fun u s2 ⟨y,H2,I2,r2,q2⟩=>?_
 exact hf v u s2 x y H2 I2 r1 r2 q2
theorem zmz{op:Operator}{r:R2}(ho:OpR X (binaryOp op) r)(ha:PE X a ta)(hb:PE X b tb):PE X (.BinOp a op b pos) (tOp r ta tb):=by
 intro pins s σ H Q I h
 exact wpAny_BinOp (zlP ha hb I h fun v u s2 x y H2 I2 rx ry q=>ho pins s2 σ H2 x y v u Q I2 rx ry q)
theorem zmx{op:UnaryOp}{r:V->Hp->VK->Prop}(ho:UnR X (unaryOp op) r)(ha:PE X a ta):PE X (.UnaryOp op a pos) (tUn r ta):=by
 intro pins s σ H Q I h
 exact UnaryOp_ (thn (ha pins s σ H _ I h) fun v s1 ⟨x,H1,I1,r1,q1⟩=>ho pins s1 σ H1 x v Q I1 r1 q1)
theorem opI{f:Value->Value->Sem Value}{C:Int->Int->Prop}{g:Int->Int->Int}
  (rule:∀ (i j:Int) (t u:Tok) (s:Shared) (Q:Value->Shared->Prop) (E:Value->Shared->Prop),C i j->Q (.int (g i j) s.toks) { s with toks:=s.toks+1 }->wpAny (model X.prog X.w) X.A (f (.int i t) (.int j u)) Q E s):
  OpR X f (rI C fun i j=>.int (g i j)):=by
 intro pins s σ H x y v u Q I rx ry h
 obtain ⟨i,j,rfl,rfl,hc,q⟩:=h
 obtain ⟨t,rfl⟩:=rx
 obtain ⟨t',rfl⟩:=ry
 exact rule i j t t' s _ _ hc ⟨.int (g i j),H,I.tok _,⟨_,rfl⟩,q⟩
theorem zmD{f:Value->Value->Sem Value}{g:Int->Int->Int}
  (rule:∀ (i j:Int) (t u:Tok) (s:Shared) (Q:Value->Shared->Prop) (E:Value->Shared->Prop),Q (.int (g i j) s.toks) { s with toks:=s.toks+1 }->wpAny (model X.prog X.w) X.A (f (.int i t) (.int j u)) Q E s):
  OpR X f (rI0 fun i j=>.int (g i j)):=by
 intro pins s σ H x y v u Q I rx ry h
 obtain ⟨i,j,rfl,rfl,q⟩:=h
 obtain ⟨t,rfl⟩:=rx
 obtain ⟨t',rfl⟩:=ry
 exact rule i j t t' s _ _ ⟨.int (g i j),H,I.tok _,⟨_,rfl⟩,q⟩
theorem zmE{f:Value->Value->Sem Value}{g:Int->Int->Bool}
  (rule:∀ (i j:Int) (t u:Tok) (s:Shared) (Q:Value->Shared->Prop) (E:Value->Shared->Prop),Q (.bool (g i j)) s->wpAny (model X.prog X.w) X.A (f (.int i t) (.int j u)) Q E s):
  OpR X f (rI0 fun i j=>.bl (g i j)):=by
 intro pins s σ H x y v u Q I rx ry h
 obtain ⟨i,j,rfl,rfl,q⟩:=h
 obtain ⟨t,rfl⟩:=rx
 obtain ⟨t',rfl⟩:=ry
 exact rule i j t t' s _ _ ⟨.bl (g i j),H,I,rfl,q⟩
noncomputable def znp(i j:Int):Prop:=0<j/\j<1073741824
noncomputable def zoD(i j:Int):Prop:=(-(2 ^ 64)<i/\i<2 ^ 64)∨(-(2 ^ 64)<j/\j<2 ^ 64)
theorem op_add:OpR X (binaryOp .Add) (rI0 fun i j=>.int (i+j)):=zmD fun _ _ _ _ _ _ _ q=>add_int q
theorem xJ:OpR X (binaryOp .Sub) (rI0 fun i j=>.int (i - j)):=zmD fun _ _ _ _ _ _ _ q=>sub_int q
theorem xf:OpR X (binaryOp .FloorDiv) (rI znp fun i j=>.int (i / j)):=opI fun i j _ _ _ _ _ hc q=>by
 have h1:(0:Int)<j:=hc.1
 have h2:j<1073741824:=hc.2
 exact floordiv_int (by omega) (by rw [Int.fdiv_eq_ediv_of_nonneg i (by omega)];exact q) (.inl (PyProof.noPylong_small (by omega)))
theorem yV:OpR X (binaryOp .Mod) (rI (fun _ j=>0<j) fun i j=>.int (i % j)):=opI fun i j _ _ _ _ _ hc q=>by
 have h1:(0:Int)<j:=hc
 exact mod_int' (by omega) (by rw [Int.fmod_eq_emod_of_nonneg i (by omega)];exact q)
theorem unI{f:Value->Sem Value}{g:Int->Int}
  (rule:∀ (i:Int) (t:Tok) (s:Shared) (Q:Value->Shared->Prop) (E:Value->Shared->Prop),Q (.int (g i) s.toks) { s with toks:=s.toks+1 }->wpAny (model X.prog X.w) X.A (f (.int i t)) Q E s):
  UnR X f (rU fun i=>.int (g i)):=by
 intro pins s σ H x v Q I rx h
 obtain ⟨i,rfl,q⟩:=h
 obtain ⟨t,rfl⟩:=rx
 exact rule i t s _ _ ⟨.int (g i),H,I.tok _,⟨_,rfl⟩,q⟩
theorem jh:UnR X (unaryOp .USub) (rU fun i=>.int (-i)):=unI fun _ _ _ _ _ q=>neg_int q
theorem ziw{pins:List (Addr × Obj)}{σ:St}{H:Hp}{s:Shared}{Q:VK}{k k':Bool}(I:Inv X pins σ H s)(q:Q (.bl k) H)(e:k=k'):EP X pins σ Q (.bool k') s:=by
 subst e
 exact ⟨.bl k,H,I,rfl,q⟩
theorem zhN:OpR X (compareOp .Lt) (rI0 fun i j=>.bl (decide (i<j))):=zmE fun _ _ _ _ _ _ _ q=>lt_int q
theorem jZ:OpR X (compareOp .Gt) (rI0 fun i j=>.bl (decide (j<i))):=zmE fun _ _ _ _ _ _ _ q=>gt_int q
theorem zhO:OpR X (compareOp .Is) (fun x y H Q=>y=.non/\Q (.bl (decide (x=.non))) H):=by
 intro pins s σ H x y v u Q I rx ry h
 obtain ⟨rfl,q⟩:=h
 cases ry
 refine is_none_gen (ziw I q ?_)
 cases x<;>first
  | (cases rx;rfl)
  | (obtain ⟨t,rfl⟩:=rx;rfl)
theorem zfd:OpR X (compareOp .IsNot) (fun x y H Q=>y=.non/\Q (.bl (!decide (x=.non))) H):=by
 intro pins s σ H x y v u Q I rx ry h
 obtain ⟨rfl,q⟩:=h
 cases ry
 refine isnot_none_gen (ziw I q ?_)
 cases x<;>first
  | (cases rx;rfl)
  | (obtain ⟨t,rfl⟩:=rx;rfl)
theorem OpR.or{f:Value->Value->Sem Value}{r r':R2}(h:OpR X f r)(h':OpR X f r'):OpR X f (fun x y H Q=>r x y H Q∨r' x y H Q):=by
 intro pins s σ H x y v u Q I rx ry q
 rcases q with q | q
 ·exact h pins s σ H x y v u Q I rx ry q
 ·exact h' pins s σ H x y v u Q I rx ry q
theorem yF(b:Expr){op:CmpOp}(h:op≠.In:=by decide)(h2:op≠.NotIn:=by decide):behindInMarks op b=false:=by
 have e1:(op == CmpOp.In)=false:=by cases op<;>first | rfl | exact absurd rfl h
 have e2:(op == CmpOp.NotIn)=false:=by cases op<;>first | rfl | exact absurd rfl h2
 cases b<;>simp [behindInMarks,e1,e2]
theorem zjK{op:CmpOp}{r:R2}(ho:OpR X (compareOp op) r)(ha:PE X a ta)(hb:PE X b tb)(hm:behindInMarks op b=false):PE X (.Compare a [op] [b] pos) (tOp r ta tb):=by
 intro pins s σ H Q I h
 exact wpAny_Compare1 (zlP ha hb I h fun v u s2 x y H2 I2 rx ry q=>ho pins s2 σ H2 x y v u Q I2 rx ry q) hm
noncomputable def zkw(t:TE):TT:=fun σ H Q=>t σ H fun x H'=>∃ k,x=.bl k/\Q k H'
theorem zjz{op:CmpOp}{r:R2}(ho:OpR X (compareOp op) r)(ha:PE X a ta)(hb:PE X b tb)(hm:behindInMarks op b=false):PT X (.Compare a [op] [b] pos) (zkw (tOp r ta tb)):=by
 intro pins s σ H Q I h
 refine wpAny_isTrue_Compare1 (thn (ha pins s σ H _ I h) fun v s1 ⟨x,H1,I1,r1,q1⟩=>thn (hb pins s1 σ H1 _ I1 q1) fun u s2 ⟨y,H2,I2,r2,q2⟩=>
  thn (ho pins s2 σ H2 x y v u _ I2 r1 r2 q2) fun c s3 ⟨z,H3,I3,r3,k,e,q3⟩=>?_) hm
 subst e
 cases r3
 exact wpAny_truthy_bool ⟨H3,I3,q3⟩
noncomputable def znl(K:PySem.W.Frag)(x:V)(H:Hp)(k:Bool):Prop:=
 match x with
 | .non=>k=false
 | .bl b=>k=b
 | .int i=>k=(i != 0)
 | .str y=>y.length≤sizeLine/\k=((y.length:Int) != 0)
 | .byt y=>y.size≤sizeLine/\k=((y.size:Int) != 0)
 | .ref p=>(∃ xs,SqL K H p xs/\k=!xs.isEmpty)∨(∃ xs,SqT K H p xs/\k=!xs.isEmpty)∨∃ kvs,H p=some (.dK kvs)/\k=!kvs.isEmpty
 | _=>False
theorem zew{κ:Type}{kvs:List (κ × V)}{vs:List (κ × Value)}(r:KV kvs vs):(!vs.isEmpty)=!kvs.isEmpty:=by
 cases r<;>rfl
theorem zay{xs:List V}{its:List Value}(r:Vals xs its):(!its.toArray.isEmpty)=!xs.isEmpty:=by
 cases r<;>simp
theorem jp:(sizeLine:Nat)<2 ^ 63:=by rw [sizeLine_eq];decide
theorem zkL:zom X (fun x H Q=>∃ k,znl X.K x H k/\Q k H):=by
 intro pins s σ H x v Q I rx h
 obtain ⟨k,e,q⟩:=h
 have hl:=jp
 have hs:sizeLine=16777216:=sizeLine_eq
 cases x with
 | non=>
  cases rx
  have e':k=false:=e
  subst e'
  exact truthy_none ⟨H,I,q⟩
 | bl b=>
  cases rx
  have e':k=b:=e
  subst e'
  exact wpAny_truthy_bool ⟨H,I,q⟩
 | int i=>
  obtain ⟨t,rfl⟩:=rx
  have e':k=(i != 0):=e
  subst e'
  exact PySem.P.truthy_int ⟨H,I,q⟩
 | str y=>
  obtain ⟨t,rfl⟩:=rx
  obtain ⟨hy,e'⟩:y.length≤sizeLine/\k=((y.length:Int) != 0):=e
  subst e'
  exact PySem.P.truthy_str (by omega) ⟨H,I.tok _,q⟩
 | byt y=>
  obtain ⟨t,rfl⟩:=rx
  obtain ⟨hy,e'⟩:y.size≤sizeLine/\k=((y.size:Int) != 0):=e
  subst e'
  exact PySem.W.truthy_bytes (by omega) ⟨H,I.tok _,q⟩
 | ref p=>
  cases rx
  have e':(∃ xs,SqL X.K H p xs/\k=!xs.isEmpty)∨(∃ xs,SqT X.K H p xs/\k=!xs.isEmpty)∨∃ kvs,H p=some (.dK kvs)/\k=!kvs.isEmpty:=e
  rcases e' with ⟨xs,hx,e'⟩ | ⟨xs,hx,e'⟩ | ⟨kvs,hx,e'⟩
  ·subst e'
   obtain ⟨its,r,pl,hz⟩:=I.list hx
   have hlen:=r.length
   exact wpAny_truthy_list pl.isList (by simp only [List.size_toArray];omega) ⟨H,I.tok _,by rw [zay r];exact q⟩
  ·subst e'
   obtain ⟨its,r,pl,hz⟩:=I.tuple hx
   have hlen:=r.length
   exact truthy_tuple pl (by simp only [List.size_toArray];omega) ⟨H,I.tok _,by rw [zay r];exact q⟩
  ·subst e'
   obtain ⟨hz,hS,vs,r,m⟩:kvs.length≤sizeLine/\(p == sysModules)=false/\∃ vs,KV kvs vs/\s.heap.DictOf (yI X.prog X.w) p vs:=I.hok p _ hx
   have hlen:kvs.length=vs.length:=Paired.length r
   exact wpAny_truthy_dict hS m (by omega) ⟨H,I.tok _,by rw [zew r];exact q⟩
 | _=>exact (show False from e).elim
theorem zhu(ha:PE X a ta)(he:∀ whole,isTrue a X.env whole=(do let v ← whole;standAt a.pos;holding [v] (truthy v))):
  PT X a (fun σ H Q=>ta σ H fun x H'=>∃ k,znl X.K x H' k/\Q k H'):=by
 intro pins s σ H Q I h
 exact isTrue_plain (thn (ha pins s σ H _ I h) fun v s1 ⟨x,H1,I1,r1,q1⟩=>zkL pins s1 σ H1 x v Q I1 r1 q1) (he _)
theorem zen:OpR X (binaryOp .Add) (fun x y H Q=>∃ i j,x=.str i/\y=.str j/\i.length+j.length≤sizeLine/\Q (.str (i++j)) H):=by
 intro pins s σ H x y v u Q I rx ry h
 obtain ⟨i,j,rfl,rfl,hz,q⟩:=h
 obtain ⟨t,rfl⟩:=rx
 obtain ⟨t',rfl⟩:=ry
 exact add_str (fun t' tk=>⟨.str (i++j),H,I.tok _,⟨_,rfl⟩,q⟩) hz
theorem zbo{x:V}{us:List Value}(r:Vals [x] us):∃ u,us=[u]/\RelV x u:=by
 cases r with
 | cons r1 r2=>cases r2;exact ⟨_,rfl,r1⟩
theorem zmc{x y:V}{us:List Value}(r:Vals [x,y] us):∃ u w',us=[u,w']/\RelV x u/\RelV y w':=by
 cases r with
 | cons r1 r2=>
  cases r2 with
  | cons r3 r4=>cases r4;exact ⟨_,_,rfl,r1,r3⟩
theorem zgC(hc:X.calm=true):CallR X (.builtin "max") (fun xs H Q=>∃ i j,xs=[.int i,.int j]/\Q (.int (if j > i then j else i)) H):=by
 intro pins s σ H xs us Q I r h
 obtain ⟨i,j,rfl,q⟩:=h
 obtain ⟨u,w',rfl,⟨t,rfl⟩,⟨t',rfl⟩⟩:=zmc r
 refine max_two_ints (I.ok.hd hc) fun h' tk k=>⟨_,H,I.kept k,?_,q⟩
 by_cases hj:j > i
 ·rw [if_pos hj,if_pos hj];exact ⟨_,rfl⟩
 ·rw [if_neg hj,if_neg hj];exact ⟨_,rfl⟩
theorem zgD:CallR X (.type "int") (fun xs H Q=>(∃ i,xs=[.int i]/\Q (.int i) H)∨∃ k,xs=[.bl k]/\Q (.int (if k then 1 else 0)) H):=by
 intro pins s σ H xs us Q I r h
 rcases h with ⟨i,rfl,q⟩ | ⟨k,rfl,q⟩
 ·obtain ⟨u,rfl,t,rfl⟩:=zbo r
  exact call_int_int ⟨.int i,H,I,⟨_,rfl⟩,q⟩
 ·obtain ⟨u,rfl,r1⟩:=zbo r
  cases r1
  exact call_int_bool ⟨.int (if k then 1 else 0),H,I.tok _,⟨_,rfl⟩,q⟩
end
structure ObjM (h:Heap) (x dx C:Addr) (mA:Str->Option Value):Prop where
 obj:h.get? x=some (PySem.W.instObj C dx)
 ns:h.Ns1 dx mA
 ne:dx≠x
theorem RelO.some_of{v:V}{o:Option Value}(r:RelO (some v) o):∃ u,o=some u/\RelV v u:=by
 cases o with
 | none=>exact (show False from r).elim
 | some u=>exact ⟨u,rfl,r⟩
structure Cls (K:PySem.W.Frag) (C:Addr):Prop where
 pg:PySem.W.plainGet K C Str.empty=true
 hd:PySem.W.hasDictIn K C=true
 po:PySem.W.plainOver K C=true
 sa:PySem.W.findIn K (.ref C) "__setattr__"=some (some (.builtin "object.__setattr__"))
structure Con (K:PySem.W.Frag) (C:Addr) (f:Str) (v:V) (u:Value):Prop where
 at_:PySem.W.findIn K (.ref C) f=some (some u)
 rel:RelV v u
 get:PySem.W.specialIn K u "__get__"=some none
 cp:PySem.W.copiedNames.contains f=false
structure Meth (K:PySem.W.Frag) (C:Addr) (m:Str) (f:Addr):Prop where
 at_:PySem.W.findIn K (.ref C) m=some (some (.ref f))
 fn:PySem.W.isFn K (.ref f)=true
 kp:PySem.W.keepIn K (.ref f)=true
section
variable {X:Cx} {pins:List (Addr × Obj)} {σ:St} {H:Hp} {s:Shared} {A:Around} {E:Value->Shared->Prop} {Q:Value->Shared->Prop} {c:Value} {b:Bool}
inductive TyOf (K:PySem.W.Frag) (H:Hp):V->Value->Prop where
 | non:TyOf K H .non (.type "NoneType")
 | bl (x:Bool):TyOf K H (.bl x) (.type "bool")
 | int (i:Int):TyOf K H (.int i) (.type "int")
 | str (x:Str):TyOf K H (.str x) (.type "str")
 | flt (x:UInt64):TyOf K H (.flt x) (.type "float")
 | lst {a:Addr} {xs:List V} (e:H a=some (.lst xs)):TyOf K H (.ref a) (.type "list")
 | frz {a:Addr} {o:Obj} {xs:List V} (e:H a=some (.frz o (.lst xs))):TyOf K H (.ref a) (.type "list")
 | tup {a:Addr} {xs:List V} (e:H a=some (.tup xs)):TyOf K H (.ref a) (.type "tuple")
 | dK {a:Addr} {kvs:List (Key × V)} (e:H a=some (.dK kvs)):TyOf K H (.ref a) (.type "dict")
 | dT {a:Addr} {kvs:List (List Key × V)} (e:H a=some (.dT kvs)):TyOf K H (.ref a) (.type "dict")
 | ins {a C dx:Addr} {fs:List (Str × V)} (e:H a=some (.ins C dx fs)) (cl:Cls K C) (ha:PySem.W.findIn K (.ref C) "__class__"=some (some (.builtin "object.__class__")))
   (hn:PySem.W.specialIn K (.builtin "object.__class__") "__get__"=some (some (.builtin "getset_descriptor.__get__"))) (htk:PySem.W.takesIn K (.builtin "object.__class__")=some true)
   (hm:PySem.W.mroIn K C (.type "object")=some true):TyOf K H (.ref a) (.ref C)
end
structure Room (k:Nat) (A:Around):Prop where
 hd:A.handled=none
 dp:A.depth+3 * k+5<recursionLimit
 un:A.units+16 * k+200<cLine
theorem Room.mono{j k:Nat}{A:Around}(r:Room k A)(h:j≤k):Room j A:=⟨r.hd,by have:=r.dp;omega,by have:=r.un;omega⟩
theorem Room.deeper{k:Nat}{A:Around}(r:Room (k+1) A)(env:Env):Room k (A.deeper env):=
 ⟨r.hd,by have:=r.dp;show A.depth+1+3 * k+5<_;omega,by have:=r.un;show A.units+3+16 * k+200<_;omega⟩
theorem Room.depth{k:Nat}{A:Around}(r:Room k A):A.depth<recursionLimit:=by have:=r.dp;omega
theorem Room.units{k:Nat}{A:Around}(r:Room k A):A.units+64<cLine:=by have:=r.un;omega
noncomputable def zea:TA:=fun _ H Q=>Q [] H
noncomputable def qi(ta:TE)(tr:TA):TA:=fun σ H Q=>ta σ H fun x H1=>tr σ H1 fun xs H2=>Q (x::xs) H2
section
variable {X:Cx} {e:Expr} {es:List Expr} {te:TE} {t:TA} {pos:Pos}
theorem pa_nil:PA X [] zea:=fun _ _ _ _ H Q I h=>Calls.spliced_nil ⟨[],H,I,.nil,h⟩
theorem yA(ha:PE X e te)(hr:PA X es t)(hs:starEach (e::es) X.env=(false,eval e X.env)::starEach es X.env:=by rfl):PA X (e::es) (qi te t):=by
 intro pos pins s σ H Q I h
 rw [hs]
 show wpAny _ _ (spliced ((false,eval e X.env)::backTo pos (starEach es X.env))) _ _ s
 refine Calls.spliced_cons (thn (ha pins s σ H _ I h) fun u s1 hq_=>?_)
 obtain ⟨x,H1,I1,r1,q1⟩:=hq_
 exact thn (hr pos pins s1 σ H1 _ I1 q1) fun us s2 ⟨xs,H2,I2,r2,q2⟩=>⟨x::xs,H2,I2,.cons r1 r2,q2⟩
noncomputable def znF(t:TA):TE:=fun σ H Q=>t σ H fun xs H1=>xs.length≤sizeLine/\∀ p,H1 p=none->Q (.ref p) (upd H1 p (.tup xs))
noncomputable def znK(t:TA):TE:=fun σ H Q=>t σ H fun xs H1=>xs.length≤sizeLine/\∀ p,H1 p=none->Q (.ref p) (upd H1 p (.lst xs))
theorem zlh{x1}(h:PA X es t):PE X (.Tuple es x1 pos) (znF t):=by
 intro pins s σ H Q I hq
 refine wpAny_Tuple_spliced (thn (h pos pins s σ H _ I hq) fun us s1 ⟨xs,H1,I1,r,z,q⟩=>⟨by rw [← r.length];exact z,?_⟩)
 have hf:H1 s1.heap.objs.size=none:=I1.hok.fresh (Nat.le_refl _)
 refine ⟨.ref s1.heap.objs.size,upd H1 s1.heap.objs.size (.tup xs),I1.laid (t':=s1.toks) (fun b u e=>Heap.get?_push_of_some _ e) (Nat.le_refl _) ?_,rfl,q _ hf⟩
 exact ⟨z,us,r,⟨_,Heap.get?_push_size _ rfl,rfl,_,rfl⟩⟩
theorem zll(h:PA X es t):PE X (.List es pos) (znK t):=by
 intro pins s σ H Q I hq
 refine wpAny_List_spliced (thn (h pos pins s σ H _ I hq) fun us s1 ⟨xs,H1,I1,r,z,q⟩=>⟨by rw [← r.length];exact z,?_⟩)
 have hf:H1 s1.heap.objs.size=none:=I1.hok.fresh (Nat.le_refl _)
 refine ⟨.ref s1.heap.objs.size,upd H1 s1.heap.objs.size (.lst xs),I1.laid (t':=s1.toks) (fun b u e=>Heap.get?_push_of_some _ e) (Nat.le_refl _) ?_,rfl,q _ hf⟩
 exact ⟨z,us,0,r,Heap.get?_push_size _ rfl⟩
end
noncomputable abbrev Sp:=List V->Hp->VK->XK->Prop
noncomputable abbrev CXT:=List Env->Hp->Shared->XK->Value->Shared->Prop
structure Env0 (P:Program) (w:World) (K:PySem.W.Frag) (mg:Str->Option Value) (base:Heap) (A:Around) (outer:List Env) (s:Shared) (H:Hp):Prop where
 frames:A.frames=some outer
 mod:Mod K mg base
 bs:∀ b o,base.get? b=some o->s.heap.get? b=some o/\H b=none
 bsz:base.objs.size≤s.heap.objs.size
 funs:s.heap.FunFrames base outer
 frf:∀ b ∈ frs outer,H b=none
 hok:HOk P w H s.heap
 bare:AllBare s.gens
noncomputable def CE(outer:List Env)(P:Program)(w:World)(H:Hp)(s:Shared)(Q:VK)(u:Value)(s':Shared):Prop:=
 ∃ v H',s'.os=s.os/\AllBare s'.gens/\Un (frs outer) [] H H' s.heap s'.heap/\HOk P w H' s'.heap/\RelV v u/\Q v H'
noncomputable def CR(CX:CXT)(outer:List Env)(P:Program)(w:World)(H:Hp)(s:Shared)(Q:VK)(E:XK)(r:Result)(s':Shared):Prop:=
 match r with
 | .ok (.ret u)=>CE outer P w H s Q u s'
 | .ok _=>False
 | .error e=>CX outer H s E e s'
structure FnOk (P:Program) (w:World) (K:PySem.W.Frag) (mg:Str->Option Value) (base:Heap) (CX:CXT) (k:Nat) (f:Addr) (fd:FuncData) (ps:List Str) (sp:Sp):Prop where
 len:∀ vs H Q E,sp vs H Q E->vs.length=ps.length
 run:∀ (A:Around) (outer:List Env) (s:Shared) (H:Hp) (args:Args) (us:List Value) (vs:List V) (Q:VK) (E:XK),Room k A->Env0 P w K mg base A outer s H->BindsTo s fd args (ps.zip us)->Vals vs us->sp vs H Q E->
  codeAny (model P w) A (.call (.ref f) args) (CR CX outer P w H s Q E) s
section
variable {X:Cx} {pins:List (Addr × Obj)} {σ:St} {H:Hp} {s s':Shared}
theorem Inv.env0(I:Inv X pins σ H s):Env0 X.prog X.w X.K X.mg X.base X.A X.stack s H:=
 ⟨I.ok.frames,I.ok.mod,I.bs,Nat.le_trans I.ok.bsz I.sz,I.stack,I.stkFree,I.hok,I.bare⟩
theorem Inv.after{Q:VK}{u:Value}(I:Inv X pins σ H s)(h:CE X.stack X.prog X.w H s Q u s'):EP X pins σ Q u s':=by
 obtain ⟨v,H',os,bare,un,hok,r,q⟩:=h
 obtain ⟨hh,g,d,t,os'⟩:=s'
 obtain rfl:os'=s.os:=os
 exact ⟨v,H',I.call (h':=hh) (g':=g) (d':=d) (t':=t) (ch:=[]) un hok bare (fun b z=>absurd z (by simp)),r,q⟩
end
noncomputable def zky(sp:Sp)(dvs:List V)(E:XK)(t:TA):TE:=fun σ H Q=>t σ H fun vs H1=>sp (vs++dvs) H1 Q E
noncomputable def Binds(K:PySem.W.Frag)(fd:FuncData)(ps:List Str)(ds:List Value):Prop:=
 ∀ (s:Shared) (us:List Value),K.In s.heap->(us++ds).length=ps.length->BindsTo s fd ⟨us,[]⟩ (ps.zip (us++ds))
theorem Binds.all{K:PySem.W.Frag}{fd:FuncData}{ps:List Str}(h:∀ us:List Value,us.length=ps.length->bindArgs fd ⟨us,[]⟩=pure (ps.zip us)):Binds K fd ps []:=fun s us _ hl=>by
 rw [List.append_nil] at hl ⊢
 exact .of_eq (h us hl)
noncomputable def zeP(CX:CXT)(X:Cx)(E:XK):Prop:=∀ (pins:List (Addr × Obj)) (σ:St) (H:Hp) (s:Shared) (e:Value) (s':Shared),Inv X pins σ H s->CX X.stack H s E e s'->X.xe e s'
section
variable {X:Cx} {CX:CXT} {k:Nat} {f C:Addr} {fd:FuncData} {ps:List Str} {sp:Sp} {dvs:List V} {ds:List Value} {E:XK} {x m:Str} {p pos apos:Pos} {e o:Expr} {es:List Expr} {ta:TE} {t:TA}
theorem zkS{pins:List (Addr × Obj)}{σ:St}{H:Hp}{s:Shared}{Q:VK}{us:List Value}{vs:List V}(F:FnOk X.prog X.w X.K X.mg X.base CX k f fd ps sp)(hr:Room k X.A)(hb:Binds X.K fd ps ds)(hd:Vals dvs ds)(hx:zeP CX X E)
  (I:Inv X pins σ H s)(r:Vals vs us)(h:sp (vs++dvs) H Q E):wpAny (model X.prog X.w) X.A (call (.ref f) us) (EP X pins σ Q) X.xe s:=by
 have r2:Vals (vs++dvs) (us++ds):=r.append hd
 have hl:(us++ds).length=ps.length:=by rw [← r2.length];exact F.len _ _ _ _ h
 refine wpAny_call (codeAny_mono (F.run X.A X.stack s H ⟨us,[]⟩ (us++ds) (vs++dvs) Q E hr I.env0 (hb s us I.kIn hl) r2 h) fun r s' hq=>?_)
 cases r with
 | error e=>exact hx pins σ H s e s' I hq
 | ok fl=>
  cases fl with
  | ret u=>exact I.after hq
  | next=>exact False.elim hq
  | brk=>exact False.elim hq
  | cont=>exact False.elim hq
theorem zjL(F:FnOk X.prog X.w X.K X.mg X.base CX k f fd ps sp)(hr:Room k X.A)(hg:Gl X x)(hm:X.mg x=some (.ref f))(hk:PySem.W.keepIn X.K (.ref f)=true)(hb:Binds X.K fd ps ds)(hd:Vals dvs ds)(hx:zeP CX X E)
  (ha:PA X (e::es) t)(hdb:(x == ("__debug__":Str))=false:=by decide)(he:starEach (e::es) X.env=(false,eval e X.env)::starEach es X.env:=by rfl)(hpl:(backTo pos (starEach es X.env)).any (·.1)=false:=by rfl):
  PE X (.Call (.Name x p) (e::es) [] pos) (zky sp dvs E t):=by
 intro pins s σ H Q I h
 refine wpAny_Call_Name_kw (zjX I hg hm ?_ hdb)
 refine PySem.W.callWith_K (h₀:=X.base) I.ok.mod.kin hk (thn (ha pos pins s σ H _ I h) fun us s1 ⟨vs,H1,I1,r,q⟩=>⟨I1.kIn,?_⟩) he hpl
 exact zkS F hr hb hd hx I1 r q
structure Mk (K:PySem.W.Frag) (C f:Addr):Prop where
 makes:PySem.W.makesIn K C=true
 init:PySem.W.findIn K (.ref C) "__init__"=some (some (.ref f))
 fn:PySem.W.isFn K (.ref f)=true
 kp:PySem.W.keepIn K (.ref C)=true
end
section
variable {X:Cx} {CX:CXT} {k:Nat} {f C:Addr} {fd:FuncData} {ps ks:List Str} {sp:Sp} {E:XK} {x m:Str} {p pos apos kpos:Pos} {e o:Expr} {es:List Expr} {kws:List Keyword} {te ta:TE} {t tk:TA} {nm:Option Str}
structure KBinds (K:PySem.W.Frag) (fd:FuncData) (ps ks:List Str) (g:List Value->List Value->List Value) (gV:List V->List V->List V):Prop where
 to:∀ (s:Shared) (us ws:List Value),K.In s.heap->(g us ws).length=ps.length->BindsTo s fd ⟨us,ks.zip ws⟩ (ps.zip (g us ws))
 rel:∀ {vs:List V} {us:List Value} {zs:List V} {ws:List Value},Vals vs us->Vals zs ws->Vals (gV vs zs) (g us ws)
variable {g:List Value->List Value->List Value} {gV:List V->List V->List V}
end
structure FnScope (N P:List Str) (sc:Scope):Prop where
 kind:sc.kind=.function
 co:sc.isCoroutine=false
 gen:sc.isGenerator=false
 nd:N.Nodup
 pre:N.take P.length=P
 par:∀ x ∈ P,sc.names.lookup x=some .local∨sc.names.lookup x=some .cell
 nofree:∀ y ∈ sc.names,y.2≠.free
theorem zbK{kindOf:Str->Option NameKind}{x:Str}:∀ {binds:List (Str × Value)} {m:Str->Option Value},(∀ v,(x,v) ∉ binds)->bindL kindOf binds m x=m x
 | [],_,_=>rfl
 | (n,v)::r,m,h=>by
  unfold bindL
  rw [zbK fun w hw=>h w (List.mem_cons_of_mem _ hw)]
  split
  ·have:x≠n:=by rintro rfl;exact h v List.mem_cons_self
   simp [this]
  ·rfl
theorem zbM{kindOf:Str->Option NameKind}{x:Str}:∀ {binds:List (Str × Value)} {m:Str->Option Value},(∀ v,(x,v) ∉ binds)->bindC kindOf binds m x=m x
 | [],_,_=>rfl
 | (n,v)::r,m,h=>by
  unfold bindC
  rw [zbM fun w hw=>h w (List.mem_cons_of_mem _ hw)]
  split
  ·rfl
  ·have:x≠n:=by rintro rfl;exact h v List.mem_cons_self
   simp [this]
theorem zbL{kindOf:Str->Option NameKind}{x:Str}{v:Value}:∀ {P:List Str} {vs:List Value} {i:Nat} {m:Str->Option Value},P.Nodup->P[i]?=some x->vs[i]?=some v->kindOf x=some .local->
  bindL kindOf (P.zip vs) m x=some v
 | [],_,_,_,_,h,_,_=>by simp at h
 | _::_,[],_,_,_,_,h,_=>by simp at h
 | p::P,w::vs,0,m,nd,h1,h2,hk=>by
  simp at h1 h2;subst h1;subst h2
  show bindL kindOf ((p,w)::P.zip vs) m p=_
  unfold bindL
  rw [zbK fun v hv=>(List.nodup_cons.mp nd).1 (List.of_mem_zip hv).1,if_pos hk]
  simp
 | p::P,w::vs,i+1,m,nd,h1,h2,hk=>by
  show bindL kindOf ((p,w)::P.zip vs) m x=_
  unfold bindL
  exact zbL (i:=i) (List.nodup_cons.mp nd).2 (by simpa using h1) (by simpa using h2) hk
theorem zbN{kindOf:Str->Option NameKind}{x:Str}{v:Value}:∀ {P:List Str} {vs:List Value} {i:Nat} {m:Str->Option Value},P.Nodup->P[i]?=some x->vs[i]?=some v->kindOf x≠some .local->
  bindC kindOf (P.zip vs) m x=some v
 | [],_,_,_,_,h,_,_=>by simp at h
 | _::_,[],_,_,_,_,h,_=>by simp at h
 | p::P,w::vs,0,m,nd,h1,h2,hk=>by
  simp at h1 h2;subst h1;subst h2
  show bindC kindOf ((p,w)::P.zip vs) m p=_
  unfold bindC
  rw [zbM fun v hv=>(List.nodup_cons.mp nd).1 (List.of_mem_zip hv).1,if_neg hk]
  simp
 | p::P,w::vs,i+1,m,nd,h1,h2,hk=>by
  show bindC kindOf ((p,w)::P.zip vs) m x=_
  unfold bindC
  exact zbN (i:=i) (List.nodup_cons.mp nd).2 (by simpa using h1) (by simpa using h2) hk
noncomputable def start(N:List Str)(vs:List V):St:=vs.map some++List.replicate (N.length - vs.length) none
noncomputable def zdH(CX:CXT)(P:Program)(w:World)(K:PySem.W.Frag)(mg:Str->Option Value)(base:Heap)(N:List Str)(qual:Str)(scope:Scope)(f:Addr)(cd:Value)(A:Around)(outer:List Env)(s:Shared)(H:Hp)(E:XK):Cx where
 prog:=P
 w:=w
 K:=K
 mg:=mg
 base:=base
 A:=A.deeper (envOfC qual scope s.heap.objs.size f cd)
 N:=N
 s₀:=s
 H₀:=H
 env:=envOfC qual scope s.heap.objs.size f cd
 outer:=outer
 stack:=envOfC qual scope s.heap.objs.size f cd::outer
 ex:=[]
 calm:=true
 fn:=fun _=>true
 pn:=[]
 xe:=fun e s'=>wpAny (model P w) (A.deeper (envOfC qual scope s.heap.objs.size f cd)) (leaving (envOfC qual scope s.heap.objs.size f cd) e) (fun _ s''=>CX outer H s E e s'') (fun e' s''=>CX outer H s E e' s'') s'
theorem zdK{sc:Scope}{n:Nat}{x:Str}(h:sc.names.lookup x=some .cell):∃ c,(cellsFrom n sc.names []).lookup x=some c:=by
 have q:=PySem.W.cellsFrom_some sc.names n [] (.inl h)
 exact Option.isSome_iff_exists.mp q
theorem zgi{CX:CXT}{P:Program}{w:World}{K:PySem.W.Frag}{mg:Str->Option Value}{base:Heap}{N ps:List Str}{qual:Str}{scope:Scope}{f:Addr}{cd:Value}{A:Around}{outer:List Env}{s s1:Shared}{H:Hp}{E:XK}{us:List Value}{vs:List V}
  (S:FnScope N ps scope)(hd:A.handled=none)(e0:Env0 P w K mg base A outer s H)(hl:vs.length=ps.length)(r:Vals vs us)
  (x:InCallC s s.heap.objs.size (bindL (envOfC qual scope s.heap.objs.size f cd).kindOf (ps.zip us) fun _=>none) (cellsFrom (s.heap.objs.size+1) scope.names []) (bindC (envOfC qual scope s.heap.objs.size f cd).kindOf (ps.zip us) fun _=>none) s1):
  Inv (zdH CX P w K mg base N qual scope f cd A outer s H E) [] (start N vs) H s1:=by
 have hpl:ps.length≤N.length:=by have:=congrArg List.length S.pre;rw [List.length_take] at this;omega
 obtain ⟨h1,tk,rfl,hk⟩:=x.done
 have noA:∀ b:Addr,b ∉ (zdH CX P w K mg base N qual scope f cd A outer s H E).ex:=fun b z=>absurd (show b ∈ ([]:List Addr) from z) (by simp)
 refine ⟨⟨e0.mod,S.kind,rfl,rfl,Nat.le_refl _,fun y z c h1 h2=>?_,fun y hy=>?_,fun y c _ h=>?_,fun _=>hd,Around.frames_deeper e0.frames,.inr ⟨rfl,rfl⟩,fun b z=>absurd z (noA b),e0.bs,e0.bsz,fun b _ _=>noA b,fun b z=>absurd z (noA b),e0.funs,e0.frf⟩,
  rfl,e0.bare,Un.kept hk,⟨_,x.toInCall.ns,fun i y v h1 h2 h3=>?_⟩,fun y c h=>⟨_,x.cell y c h⟩,e0.hok.fresh (Nat.le_refl _),fun y c h=>?_,fun p hp=>absurd (show p ∈ ([]:List (Addr × Obj)) from hp) (by simp),e0.hok.kept hk,?_⟩
 ·exact name_of_addr x.apart (PySem.mem_of_lookup h1) (PySem.mem_of_lookup h2)
 ·have hy:scope.names.lookup y=some .cell∨scope.names.lookup y=some .free:=hy
  rcases hy with hy | hy
  ·exact zdK hy
  ·exact absurd rfl (S.nofree _ (PySem.mem_of_lookup hy))
 ·exact Nat.le_of_lt (x.above y c (PySem.mem_of_lookup h))
 ·have hi:i<vs.length:=by
   unfold start at h2
   by_cases hi:i<vs.length
   ·exact hi
   ·rw [List.getElem?_append_right (by simpa using hi)] at h2
    rw [List.getElem?_replicate] at h2
    split at h2<;>cases h2
  have ha:vs[i]?=some v:=by
   unfold start at h2
   rw [List.getElem?_append_left (by simpa using hi),List.getElem?_map] at h2
   cases e:vs[i]? with
   | none=>rw [e] at h2;cases h2
   | some a=>rw [e] at h2;cases h2;rfl
  obtain ⟨u,hu,rv⟩:=r.get ha
  have hp:ps[i]?=some y:=by
   rw [← S.pre,List.getElem?_take_of_lt (by omega)];exact h1
  have ndP:ps.Nodup:=by rw [← S.pre];exact S.nd.sublist (List.take_sublist _ _)
  refine ⟨u,rv,?_⟩
  rcases S.par y (List.mem_of_getElem? hp) with k | k
  ·exact .inl ⟨k,zbL ndP hp hu k⟩
  ·obtain ⟨c,e⟩:=zdK (n:=s.heap.objs.size+1) k
   refine .inr ⟨.inl k,c,e,?_⟩
   have q:=x.cell y c e
   rw [zbN ndP hp hu (by show scope.names.lookup y≠_;rw [k];decide)] at q
   exact q
 ·exact e0.hok.fresh (Nat.le_of_lt (x.above y c (PySem.mem_of_lookup h)))
 ·unfold start
  show _=N.length
  rw [List.length_append,List.length_map,List.length_replicate]
  omega
theorem zmR {CX : CXT} {P : Program} {w : World} {K : PySem.W.Frag} {mg : Str → Option Value} {base : Heap} {k : Nat} {f : Addr} {name qual : Str} {params : Arguments} {body : List Stmt} {scope : Scope} {dV kV doc pm cdv ct oc : Value} {an od : Option Addr}
    {osl : Array (Option Value)} {N ps : List Str} {sp : Sp} (lk : K.lookup f = some ⟨oc, od, .func (PySem.W.fnOf name qual params body scope dV kV doc pm an cdv ct), osl⟩) (hcd : PySem.W.codeIn K cdv qual = true) (S : FnScope N ps scope)
    (len : ∀ vs H Q E, sp vs H Q E → vs.length = ps.length)
    (hbody : ∀ (A : Around) (outer : List Env) (s : Shared) (H : Hp) (vs : List V) (Q : VK) (E : XK), Room k (A.deeper (envOfC qual scope s.heap.objs.size f cdv)) → sp vs H Q E →
      ∃ t, PSs (zdH CX P w K mg base N qual scope f cdv A outer s H E) body t ∧ t { nx := fun _ H' => Q .non H', rt := Q } (start N vs) H) :
    FnOk P w K mg base CX (k + 1) f (PySem.W.fnOf name qual params body scope dV kV doc pm an cdv ct) ps sp := by
  refine ⟨len, fun A outer s H args us vs Q E hr e0 hb r hsp => ?_⟩
  have hl := len _ _ _ _ hsp
  have KX : K.In s.heap := e0.mod.kin.keeps fun b o e => (e0.bs b o e).1
  have lim : s.heap.NoLimit := e0.mod.nolimit.keeps fun b o e => (e0.bs b o e).1
  have hkind : ∀ y ∈ ps.zip us, scope.names.lookup y.1 = some .local ∨ (scope.names.lookup y.1 = some .cell ∧ ((cellsFrom (s.heap.objs.size + 1) scope.names []).lookup y.1).isSome = true) := fun ⟨n, v⟩ hy => by
    rcases S.par n (List.of_mem_zip hy).1 with q | q
    · exact .inl q
    · exact .inr ⟨q, PySem.W.cellsFrom_some _ _ _ (.inl q)⟩
  refine codeAny_call_function hr.depth (KX _ _ lk) rfl S.co S.gen rfl (PySem.W.codeRec_of KX hcd) (hb _ _ _ _ ?_)
  refine wpAny_newFunctionEnv_cells S.kind hkind fun env he s1 x => ?_
  subst he
  refine ⟨lim.keeps x.toInCall.keep, codeAny_func ?_⟩
  obtain ⟨t, ht, hq⟩ := hbody A outer s H vs Q E (hr.deeper _) hsp
  have I : Inv (zdH CX P w K mg base N qual scope f cdv A outer s H E) [] (start N vs) H s1 := zgi S hr.hd e0 hl r x
  refine wpAny_mono (ht [] s1 (start N vs) H _ I hq) (fun fl s' hs => ?_) fun e s' hs => hs
  have fin : ∀ {σ' : St} {H' : Hp} {v : V} {u : Value}, Inv (zdH CX P w K mg base N qual scope f cdv A outer s H E) [] σ' H' s' → RelV v u → Q v H' → CE outer P w H s Q u s' :=
    fun {σ' H' v u} J rv q => ⟨v, H', J.os, J.bare, J.base, J.hok, rv, q⟩
  cases fl with
  | ret u =>
    obtain ⟨v, σ', H', J, rv, q⟩ := hs
    exact fin J rv q
  | next =>
    obtain ⟨σ', H', J, q⟩ := hs
    exact fin (v := V.non) (u := Value.none) J rfl q
  | brk =>
    obtain ⟨_, _, _, q⟩ := hs
    exact False.elim q
  | cont =>
    obtain ⟨_, _, _, q⟩ := hs
    exact False.elim q
section
variable {X:Cx} {x:Str} {p pos:Pos} {e:Expr} {es:List Expr} {t:TA} {id T:String} {r:List V->Hp->VK->Prop}
noncomputable def tCB(r:List V->Hp->VK->Prop)(t:TA):TE:=fun σ H Q=>t σ H fun vs H1=>r vs H1 Q
theorem zhI(hc:CallR X (.builtin id) r)(hg:Gl X x)(hm:X.mg x=none)(hv:bootBuiltins x=some (.builtin id))(ha:PA X (e::es) t)(hn:x≠"__name__":=by decide)(hdb:(x == ("__debug__":Str))=false:=by decide)
  (he:starEach (e::es) X.env=(false,eval e X.env)::starEach es X.env:=by rfl)(hpl:(backTo pos (starEach es X.env)).any (·.1)=false:=by rfl):PE X (.Call (.Name x p) (e::es) [] pos) (tCB r t):=by
 intro pins s σ H Q I h
 refine wpAny_Call_Name_kw (uS I hg hm hv ?_ hn hdb)
 exact PyProof.Rows.callWith_builtin1 (thn (ha pos pins s σ H _ I h) fun us s1 ⟨vs,H1,I1,r1,q1⟩=>hc pins s1 σ H1 vs us Q I1 r1 q1) he hpl
theorem zbu(hc:CallR X (.type T) r)(hg:Gl X x)(hm:X.mg x=none)(hv:bootBuiltins x=some (.type T))(ha:PA X (e::es) t)(hn:x≠"__name__":=by decide)(hdb:(x == ("__debug__":Str))=false:=by decide)
  (he:starEach (e::es) X.env=(false,eval e X.env)::starEach es X.env:=by rfl)(hpl:(backTo pos (starEach es X.env)).any (·.1)=false:=by rfl):PE X (.Call (.Name x p) (e::es) [] pos) (tCB r t):=by
 intro pins s σ H Q I h
 refine wpAny_Call_Name_kw (uS I hg hm hv ?_ hn hdb)
 exact PyProof.Rows.callWith_type1 (thn (ha pos pins s σ H _ I h) fun us s1 ⟨vs,H1,I1,r1,q1⟩=>hc pins s1 σ H1 vs us Q I1 r1 q1) he hpl
end
end L2
namespace HT
open PySem PyProof.Rows
section
variable {prog:Program} {w:World} {A:Around} {E:Value->Shared->Prop} {s:Shared}
theorem cat_tup{t b:Addr}{vs ws:List Value}{Q:Value->Shared->Prop}(ht:IsTup s.heap t vs.toArray)(hb:IsTup s.heap b ws.toArray)(hv:vs≠[])
  (h1:ws=[]->Q (.ref t) s)(h2:ws≠[]->Q (.ref s.heap.objs.size) { s with heap:=s.heap.push { cls:=.type "tuple",data:=.seq (vs++ws).toArray } })
  (hsz:vs.length+ws.length≤sizeLine):wpAny (model prog w) A (binaryOp .Add (.ref t) (.ref b)) Q E s:=by
 obtain ⟨⟨cls,dd,data,sl⟩,ho,hc,n,hd⟩:=id ht
 obtain ⟨⟨cls2,dd2,data2,sl2⟩,ho2,hc2,n2,hd2⟩:=id hb
 simp only at hc hd hc2 hd2
 subst hc hd hc2 hd2
 have e:vs.toArray++ws.toArray=(vs++ws).toArray:=by simp
 by_cases hw:ws=[]
 ·exact concat_meets ⟨_,ho,rfl⟩ ⟨_,ho2,rfl⟩ noFill_tuple_add seq_tuple_add PySem.F.slot_tuple_add PySem.F.entry_tuple_add (PySem.F.args_tuple_add_2 _ _)
   (tuple_addW1 t b vs.toArray ws.toArray n n2 dd dd2 sl sl2 (by simpa using hv) (by simp [hw])) ⟨ho,ho2,h1 hw⟩
 ·refine concat_meets ⟨_,ho,rfl⟩ ⟨_,ho2,rfl⟩ noFill_tuple_add seq_tuple_add PySem.F.slot_tuple_add PySem.F.entry_tuple_add (PySem.F.args_tuple_add_2 _ _)
   (tuple_addW2 t b vs.toArray ws.toArray n n2 dd dd2 sl sl2 (by simpa using hv) (by simpa using hw) (by rw [List.size_toArray,List.size_toArray];exact hsz)) ⟨ho,ho2,?_⟩
  rw [e]
  exact h2 hw
noncomputable def sIx(n d:Nat):Option Int->Nat
 | none=>d
 | some v=>if v<0 then (v+(n:Int)).toNat else min v.toNat n
theorem zkQ(n d:Nat)(hd:d≤n)(o:Option Int):sIx n d o≤n:=by
 cases o with
 | none=>exact hd
 | some v=>
  show (if v<0 then (v+(n:Int)).toNat else min v.toNat n)≤n
  by_cases hv:v<0
  ·rw [if_pos hv];omega
  ·rw [if_neg hv];exact Nat.min_le_right _ _
theorem zfA(v:Int)(n d:Nat):(if v<0 then max (v+(n:Int)) 0 else min v (n:Int))=((sIx n d (some v):Nat):Int):=by
 show (if v<0 then max (v+(n:Int)) 0 else min v (n:Int))=(((if v<0 then (v+(n:Int)).toNat else min v.toNat n):Nat):Int)
 by_cases hv:v<0
 ·simp only [if_pos hv];omega
 ·simp only [if_neg hv];omega
theorem zeM(lo hi:Option Int)(n:Nat):Builtin.Slice.sliceAdjust lo hi 1 (n:Int)=(((sIx n 0 lo:Nat):Int),((sIx n n hi:Nat):Int)):=by
 have h1:¬ ((1:Int)<0):=by omega
 unfold Builtin.Slice.sliceAdjust
 simp only [h1,if_false]
 refine Prod.ext ?_ ?_
 ·cases lo with
  | none=>rfl
  | some v=>exact zfA v n 0
 ·cases hi with
  | none=>rfl
  | some v=>exact zfA v n n
theorem zel(i j:Nat):Builtin.Slice.slicePlaces (i:Int) (j:Int) 1=j - i:=by
 unfold Builtin.Slice.slicePlaces
 have h1:(1:Int) > 0:=by omega
 simp only [h1,if_true,Int.ediv_one]
 split<;>omega
theorem qt{v:Value}{o:Option Int}{Q:Option Int->Shared->Prop}(p:IsPart v o)(h:Q o s):wpAny (model prog w) A (Builtin.Slice.slicePartIndex v) Q E s:=by
 cases p with
 | none=>exact slicePart_none h
 | int i t=>exact slicePart_int h
theorem sliceApplied_gen{sl:Addr}{vl vu:Value}{lo hi:Option Int}{n:Nat}{Q:Int × Int × Nat->Shared->Prop}(hs:s.heap.IsSliceOf sl vl vu .none)(pl:IsPart vl lo)(pu:IsPart vu hi)
  (h:Q (((sIx n 0 lo:Nat):Int),1,sIx n n hi - sIx n 0 lo) s):wpAny (model prog w) A (Builtin.Slice.sliceApplied (.ref sl) (pure (n:Int))) Q E s:=by
 obtain ⟨os,hos,hcs,hds⟩:=id hs
 unfold Builtin.Slice.sliceApplied Builtin.Slice.sliceFields
 refine wpAny_bind (wpAny_bind (wpAny_field hos hds (x:=vl) rfl (wpAny_bind (wpAny_field hos hds (x:=vu) rfl (wpAny_bind (wpAny_field hos hds (x:=.none) rfl (wpAny_pure ?_)))))))
 refine wpAny_bind (slicePart_none ?_)
 show wpAny _ _ (if ((1:Int) == 0)=true then _ else _) _ _ s
 rw [if_neg (by decide)]
 refine wpAny_bind (qt pl (wpAny_bind (qt pu (wpAny_bind (wpAny_pure ?_)))))
 show wpAny _ _ (match Builtin.Slice.sliceAdjust lo hi 1 (n:Int) with | (lo,hi)=>pure (lo,(1:Int),Builtin.Slice.slicePlaces lo hi 1)) _ _ s
 rw [zeM lo hi n]
 show wpAny _ _ (pure (((sIx n 0 lo:Nat):Int),(1:Int),Builtin.Slice.slicePlaces ((sIx n 0 lo:Nat):Int) ((sIx n n hi:Nat):Int) 1)) _ _ s
 rw [zel]
 exact wpAny_pure h
theorem zhA(xs:Array Value)(i k:Nat):((List.range k).filterMap fun (m:Nat)=>xs[((i:Int)+(m:Int) * 1).toNat]?).toArray=((xs.toList.drop i).take k).toArray:=by
 have e:(fun (m:Nat)=>xs[((i:Int)+(m:Int) * 1).toNat]?)=fun m=>xs[i+m]?:=by
  funext m
  have:((i:Int)+(m:Int) * 1).toNat=i+m:=by omega
  rw [this]
 rw [e]
 have:=pick_run xs i k
 rw [List.filterMap_map] at this
 have e2:((fun x=>xs[x]?) ∘ fun x=>i+x)=fun m=>xs[i+m]?:=rfl
 rw [e2] at this
 rw [this]
theorem getItem_tuple_cut{t sl:Addr}{items:Array Value}{vl vu:Value}{lo hi:Option Int}{Q:Value->Shared->Prop}(ht:IsTup s.heap t items)(hs:s.heap.IsSliceOf sl vl vu .none)(pl:IsPart vl lo)(pu:IsPart vu hi)
  (hw:¬ (sIx items.size 0 lo=0/\sIx items.size items.size hi=items.size))
  (h:Q (.ref s.heap.objs.size) { s with heap:=s.heap.push { cls:=.type "tuple",data:=.seq ((items.toList.drop (sIx items.size 0 lo)).take (sIx items.size items.size hi - sIx items.size 0 lo)).toArray } })
  (hsz:items.size≤sizeLine):wpAny (model prog w) A (getItem (.ref t) (.ref sl)) Q E s:=by
 have htake:sizeOk (.seq ((items.toList.drop (sIx items.size 0 lo)).take (sIx items.size items.size hi - sIx items.size 0 lo)).toArray):=by
  show ((items.toList.drop (sIx items.size 0 lo)).take (sIx items.size items.size hi - sIx items.size 0 lo)).toArray.size≤sizeLine
  rw [List.size_toArray,List.length_take,List.length_drop,Array.length_toList]
  omega
 have hj:sIx items.size items.size hi≤items.size:=zkQ _ _ (Nat.le_refl _) hi
 obtain ⟨os,hos,hcs,hds⟩:=id hs
 have hTs:s.TypeIs (.ref sl) "slice":=⟨os,hos,hcs⟩
 unfold getItem
 try with_reducible refine wpAny_holding ?_
 first | refine wpAny_bind (wpAny_pure ?_) | skip
 refine wpAny_bind (wpAny_sequenceKey ht.typeIs (by decide) ?_)
 refine wpAny_bind (wpAny_callSpecial?_slot (name:=Str.ofString "__getitem__") ht.typeIs PyProof.Rows.slot_tuple_getitem
  (wpAny_call_entry PyProof.Rows.slot_tuple_getitem ht.typeIs entry_tuple_getitem ?_ (args_tuple_getitem _ _)))
 show wpAny _ _ (Builtin.Tuple.tupleItemsOf (.ref t) >>= _) _ _ s
 refine wpAny_bind (tupleItemsOf_ ht ?_)
 refine wpAny_bind (wpAny_typeOf hTs ?_)
 rw [if_pos (by decide)]
 refine wpAny_bind (sliceApplied_gen hs pl pu ?_)
 have hno:¬ ((((sIx items.size 0 lo:Nat):Int) == 0 && (1:Int) == 1 && (sIx items.size items.size hi - sIx items.size 0 lo) == items.size)=true):=by
  intro q
  rw [Bool.and_eq_true,Bool.and_eq_true] at q
  have q1:((sIx items.size 0 lo:Nat):Int)=0:=eq_of_beq q.1.1
  have q2:sIx items.size items.size hi - sIx items.size 0 lo=items.size:=eq_of_beq q.2
  exact hw ⟨by omega,by omega⟩
 show wpAny _ _ (if (((sIx items.size 0 lo:Nat):Int) == 0 && (1:Int) == 1 && (sIx items.size items.size hi - sIx items.size 0 lo) == items.size)=true then _ else _) _ _ s
 rw [if_neg hno,zhA]
 first
  | exact wpAny_bind (m:=Builtin.Tuple.tupleExact _) (wpAny_newObj_type (wpAny_pure ⟨_,rfl,wpAny_pure h⟩) htake)
  | exact wpAny_bind (m:=Builtin.Tuple.tupleExact _) (wpAny_newObj_type (wpAny_bind (wpAny_pure (wpAny_pure ⟨_,rfl,wpAny_pure h⟩))) htake)
  | exact wpAny_bind (wpAny_bind (m:=Builtin.Tuple.tupleExact _) (wpAny_newObj_type (wpAny_pure (wpAny_pure ⟨_,rfl,wpAny_pure h⟩)) htake))
  | exact wpAny_bind (wpAny_bind (m:=Builtin.Tuple.tupleExact _) (wpAny_newObj_type (wpAny_pure ⟨_,rfl,wpAny_pure h⟩) htake))
end
end HT
namespace L2
open PySem PySem.Spec PyProof.Rows
noncomputable abbrev TO:=St->Hp->(Option Int->Hp->Prop)->Prop
noncomputable def PO(X:Cx)(e:Option Expr)(t:TO):Prop:=
 ∀ (pins:List (Addr × Obj)) (s:Shared) (σ:St) (H:Hp) (Q:Option Int->Hp->Prop),Inv X pins σ H s->t σ H Q->
  wpAny (model X.prog X.w) X.A (evalPart e X.env) (fun u s'=>∃ o H',Inv X pins σ H' s'/\IsPart u o/\Q o H') X.xe s
noncomputable def zjo:TO:=fun _ H Q=>Q none H
noncomputable def zme(t:TE):TO:=fun σ H Q=>t σ H fun x H1=>∃ i,x=.int i/\Q (some i) H1
theorem zex{ns:List Int}:∀ {us:List Value},Vals (ns.map V.int) us->IntsAre us ns:=by
 induction ns with
 | nil=>intro us r;rw [List.map_nil] at r;cases r;exact .nil
 | cons n ns ih=>
  intro us r
  rw [List.map_cons] at r
  cases r with
  | cons r1 r2=>
   obtain ⟨t,e⟩:=r1
   subst e
   exact .cons n t (ih r2)
section
variable {X:Cx} {e:Expr} {te:TE} {lo hi:Option Expr} {tl th:TO} {pos p2:Pos}
theorem zjD:PO X none zjo:=by
 intro pins s σ H Q I h
 rw [evalPart_none]
 exact wpAny_pure ⟨none,H,I,.none,h⟩
theorem zjC(h:PE X e te):PO X (some e) (zme te):=by
 intro pins s σ H Q I hw
 rw [evalPart_some]
 refine thn (h pins s σ H _ I hw) fun u s1 ⟨x,H1,I1,r1,q1⟩=>?_
 obtain ⟨i,rfl,q⟩:=q1
 obtain ⟨t,rfl⟩:=r1
 exact ⟨some i,H1,I1,.int i t,q⟩
noncomputable def SlR(X:Cx)(r:V->Option Int->Option Int->Hp->VK->Prop):Prop:=
 ∀ (pins:List (Addr × Obj)) (s:Shared) (σ:St) (H:Hp) (x:V) (v vl vu:Value) (lo hi:Option Int) (sl:Addr) (Q:VK),Inv X pins σ H s->RelV x v->s.heap.IsSliceOf sl vl vu .none->IsPart vl lo->IsPart vu hi->r x lo hi H Q->
  ∃ T id,typeLookup (.type T) "__getitem__"=pure (some (.builtin id))/\s.TypeIs v T/\wpAny (model X.prog X.w) X.A (getItem v (.ref sl)) (EP X pins σ Q) X.xe s
theorem SlR.or{r r':V->Option Int->Option Int->Hp->VK->Prop}(h:SlR X r)(h':SlR X r'):SlR X (fun x lo hi H Q=>r x lo hi H Q∨r' x lo hi H Q):=by
 intro pins s σ H x v vl vu lo hi sl Q I rx hs pl pu q
 rcases q with q | q
 ·exact h pins s σ H x v vl vu lo hi sl Q I rx hs pl pu q
 ·exact h' pins s σ H x v vl vu lo hi sl Q I rx hs pl pu q
noncomputable def tSl(r:V->Option Int->Option Int->Hp->VK->Prop)(te:TE)(tl th:TO):TE:=fun σ H Q=>te σ H fun x H1=>tl σ H1 fun l H2=>th σ H2 fun u H3=>r x l u H3 Q
theorem zhE{r:V->Option Int->Option Int->Hp->VK->Prop}(hr:SlR X r)(he:PE X e te)(hl:PO X lo tl)(hu:PO X hi th):PE X (.Subscript e (.Slice lo hi none p2) pos) (tSl r te tl th):=by
 intro pins s σ H Q I h
 refine Subscript_ (thn (he pins s σ H _ I h) fun v s1 hq_=>?_)
 obtain ⟨x,H1,I1,r1,q1⟩:=hq_
 refine wpAny_Slice (thn (hl pins s1 σ H1 _ I1 q1) fun vl s2 ⟨l,H2,I2,pl,q2⟩=>thn (hu pins s2 σ H2 _ I2 q2) fun vu s3 ⟨u,H3,I3,pu,q3⟩=>?_)
 rw [evalPart_none]
 refine wpAny_pure ?_
 have I4:Inv X pins σ H3 { s3 with heap:=s3.heap.push { cls:=.type "slice",data:=.fields #[vl,vu,.none] } }:=I3.kept (t':=s3.toks) fun b ob q=>Heap.get?_push_of_some _ q
 obtain ⟨T,id,hT,ht,hg⟩:=hr pins { s3 with heap:=s3.heap.push { cls:=.type "slice",data:=.fields #[vl,vu,.none] } } σ H3 x v vl vu l u s3.heap.objs.size Q I4 r1 (Heap.IsSliceOf.new ..) pl pu q3
 show wpAny (model X.prog X.w) X.A (subscriptTail e (.Slice lo hi none p2) v (.ref s3.heap.objs.size)) (EP X pins σ Q) X.xe { s3 with heap:=s3.heap.push { cls:=.type "slice",data:=.fields #[vl,vu,.none] } }
 exact tail_any (ops:=[.ref s3.heap.objs.size,v]) ht hT hg (by with_unfolding_all rfl)
noncomputable def zaO(xs:List V)(lo hi:Option Int):List V:=(xs.drop (HT.sIx xs.length 0 lo)).take (HT.sIx xs.length xs.length hi - HT.sIx xs.length 0 lo)
theorem qH(xs:List V)(lo hi:Option Int):(zaO xs lo hi).length≤xs.length:=by
 unfold zaO
 rw [List.length_take,List.length_drop]
 exact Nat.le_trans (Nat.min_le_right _ _) (Nat.sub_le _ _)
noncomputable def znP(K:PySem.W.Frag):V->Option Int->Option Int->Hp->VK->Prop:=fun x lo hi H Q=>∃ a xs,x=.ref a/\SqT K H a xs/\
 ¬ (HT.sIx xs.length 0 lo=0/\HT.sIx xs.length xs.length hi=xs.length)/\∀ p,H p=none->Q (.ref p) (upd H p (.tup (zaO xs lo hi)))
theorem zkO:SlR X (znP X.K):=by
 intro pins s σ H x v vl vu lo hi sl Q I rx hs pl pu h
 obtain ⟨a,xs,rfl,hx,hw,q⟩:=h
 cases rx
 obtain ⟨its,r,ht,hz⟩:=I.tuple hx
 have hlen:its.toArray.size=xs.length:=by rw [List.size_toArray];exact r.length.symm
 refine ⟨"tuple",_,PyProof.Rows.slot_tuple_getitem.lookup,ht.typeIs,?_⟩
 refine HT.getItem_tuple_cut ht hs pl pu (by rw [hlen];exact hw) ?_ (by rw [hlen];exact hz)
 rw [hlen]
 refine ⟨.ref s.heap.objs.size,_,I.laid (t':=s.toks) (o:=.tup (zaO xs lo hi)) (fun b ob q=>Heap.get?_push_of_some _ q) (Nat.le_refl _) ?_,rfl,q _ (I.hok.fresh (Nat.le_refl _))⟩
 exact ⟨Nat.le_trans (qH xs lo hi) hz,_,(r.drop (HT.sIx xs.length 0 lo)).take (HT.sIx xs.length xs.length hi - HT.sIx xs.length 0 lo),IsTup.new _ _⟩
noncomputable def zhs(K:PySem.W.Frag):R2:=fun x y H Q=>∃ a b xs ys,x=.ref a/\y=.ref b/\SqT K H a xs/\SqT K H b ys/\xs≠[]/\xs.length+ys.length≤sizeLine/\
 (ys=[]->Q (.ref a) H)/\(ys≠[]->∀ p,H p=none->Q (.ref p) (upd H p (.tup (xs++ys))))
theorem Vals.nil_iff{xs:List V}{us:List Value}(r:Vals xs us):us=[] ↔ xs=[]:=by
 cases r with
 | nil=>simp
 | cons _ _=>simp
theorem op_catT:OpR X (binaryOp .Add) (zhs X.K):=by
 intro pins s σ H x y v u Q I rx ry h
 obtain ⟨a,b,xs,ys,rfl,rfl,ha,hb,hx,hz,q1,q2⟩:=h
 cases rx
 cases ry
 obtain ⟨its,r1,p1,_⟩:=I.tuple ha
 obtain ⟨its2,r2,p2,_⟩:=I.tuple hb
 refine HT.cat_tup p1 p2 (fun z=>hx (r1.nil_iff.mp z)) (fun z=>⟨.ref a,H,I,rfl,q1 (r2.nil_iff.mp z)⟩) (fun z=>?_) (by rw [← r1.length,← r2.length];exact hz)
 refine ⟨.ref s.heap.objs.size,_,I.laid (t':=s.toks) (o:=.tup (xs++ys)) (fun b ob q=>Heap.get?_push_of_some _ q) (Nat.le_refl _) ?_,rfl,q2 (fun w=>z (r2.nil_iff.mpr w)) _ (I.hok.fresh (Nat.le_refl _))⟩
 exact ⟨by rw [List.length_append];exact hz,_,r1.append r2,IsTup.new _ _⟩
end
noncomputable def ixN(n:Nat)(i:Int):Option Nat:=if 0≤i then (if i<n then some i.toNat else none) else if -(n:Int)≤i then some (i+n).toNat else none
noncomputable def atI{α:Type}(xs:List α)(i:Int):Option α:=(ixN xs.length i).bind fun j=>xs[j]?
theorem zfi{n:Nat}{i:Int}{j:Nat}(h:ixN n i=some j):seqIndex? i n=some j/\j<n/\-(n:Int)≤i/\i<n:=by
 unfold ixN at h
 by_cases h0:0≤i
 ·rw [if_pos h0] at h
  by_cases h1:i<n
  ·rw [if_pos h1] at h
   have e:i.toNat=j:=Option.some.inj h
   exact ⟨by rw [seqIndex_of h0 h1,e],by omega,by omega,h1⟩
  ·rw [if_neg h1] at h;cases h
 ·rw [if_neg h0] at h
  by_cases h1 : -(n:Int)≤i
  ·rw [if_pos h1] at h
   have e:(i+n).toNat=j:=Option.some.inj h
   exact ⟨by rw [seqIndex_neg (by omega) h1,e],by omega,h1,by omega⟩
  ·rw [if_neg h1] at h;cases h
theorem zcK{α:Type}{xs:List α}{i:Int}{v:α}(h:atI xs i=some v):∃ j,seqIndex? i xs.length=some j/\xs[j]?=some v/\j<xs.length/\-(xs.length:Int)≤i/\i<xs.length:=by
 unfold atI at h
 cases e:ixN xs.length i with
 | none=>rw [e] at h;cases h
 | some j=>
  rw [e] at h
  obtain ⟨h1,h2,h3,h4⟩:=zfi e
  exact ⟨j,h1,h,h2,h3,h4⟩
theorem atI_nat{α:Type}{xs:List α}{j:Nat}{v:α}(h:xs[j]?=some v):atI xs (j:Int)=some v:=by
 have hj:j<xs.length:=(List.getElem?_eq_some_iff.mp h).1
 have e:ixN xs.length (j:Int)=some j:=by
  unfold ixN
  rw [if_pos (by omega),if_pos (by omega)];simp
 unfold atI;rw [e];exact h
noncomputable def zfE(b:Expr):Prop:=∀ o i,subscripted b false o i=operate [o,i] (getItem o i)
noncomputable def IxR(X:Cx)(r:R2):Prop:=
 ∀ (value slice:Expr) (pins:List (Addr × Obj)) (s:Shared) (σ:St) (H:Hp) (x y:V) (v u:Value) (Q:VK),Inv X pins σ H s->RelV x v->RelV y u->r x y H Q->
  subscripted slice false v u=operate [v,u] (getItem v u)->wpAny (model X.prog X.w) X.A (subscriptTail value slice v u) (EP X pins σ Q) X.xe s
noncomputable def MtR(X:Cx)(id:String)(r:V->List V->Hp->VK->Prop):Prop:=
 ∀ (pins:List (Addr × Obj)) (s:Shared) (σ:St) (H:Hp) (x:V) (xs:List V) (v:Value) (us:List Value) (Q:VK),Inv X pins σ H s->RelV x v->Vals xs us->r x xs H Q->
  wpAny (model X.prog X.w) X.A (call (.builtin id) (v::us)) (EP X pins σ Q) X.xe s
section
variable {X:Cx} {a b:Expr} {ta tb:TE} {pos:Pos}
theorem IxR.or{r r':R2}(h:IxR X r)(h':IxR X r'):IxR X (fun x y H Q=>r x y H Q∨r' x y H Q):=by
 intro value slice pins s σ H x y v u Q I rx ry q hs
 rcases q with q | q
 ·exact h value slice pins s σ H x y v u Q I rx ry q hs
 ·exact h' value slice pins s σ H x y v u Q I rx ry q hs
theorem zhF{r:R2}(hr:IxR X r)(ha:PE X a ta)(hb:PE X b tb)(hs:zfE b):PE X (.Subscript a b pos) (tOp r ta tb):=by
 intro pins s σ H Q I h
 exact Subscript_ (zlP ha hb I h fun v u s2 x y H2 I2 rx ry q=>hr a b pins s2 σ H2 x y v u Q I2 rx ry q (hs _ _))
noncomputable def zmu(K:PySem.W.Frag):R2:=fun x y H Q=>∃ p xs i v,x=.ref p/\y=.int i/\SqL K H p xs/\atI xs i=some v/\Q v H
noncomputable def zms(K:PySem.W.Frag):R2:=fun x y H Q=>∃ p xs i v,x=.ref p/\y=.int i/\SqT K H p xs/\atI xs i=some v/\Q v H
noncomputable def zmt:R2:=fun x y H Q=>∃ z i c,x=.str z/\y=.int i/\z.length≤sizeLine/\atI z.cps.toList i=some c/\Q (.str ⟨#[c]⟩) H
theorem ix_list:IxR X (zmu X.K):=by
 intro value slice pins s σ H x y v u Q I rx ry h hs
 obtain ⟨p,xs,i,z,rfl,rfl,hq,he,q⟩:=h
 cases rx
 obtain ⟨t,rfl⟩:=ry
 obtain ⟨its,r,pl,hz⟩:=I.list hq
 obtain ⟨j,h1,h2,h3,h4,h5⟩:=zcK he
 obtain ⟨w,ew,rw'⟩:=r.get h2
 have hl:=r.length
 have hn:=jp
 have fin:EP X pins σ Q w s:=⟨z,H,I,rw',q⟩
 by_cases h0:0≤i
 ·have hj:i.toNat=j:=by
   rw [seqIndex_of h0 h5] at h1
   exact Option.some.inj h1
  exact item_listR pl.isList h0 (by omega) (by rw [hj];simpa using ew) fin hs
 ·have hj:(i+(its.toArray.size:Int)).toNat=j:=by
   rw [seqIndex_neg (by omega) h4] at h1
   rw [List.size_toArray,← hl]
   exact Option.some.inj h1
  exact subscriptTail_builtinR (x:=w) pl.isList.typeIs slot_list_getitem.lookup
   (wpAny_getItem_list_neg (Q:=fun r s'=>r=w/\EP X pins σ Q r s') pl.isList (by omega) (by rw [List.size_toArray]<;>omega) (by omega) (by rw [hj];simpa using ew) ⟨rfl,fin⟩) hs
theorem ix_tup:IxR X (zms X.K):=by
 intro value slice pins s σ H x y v u Q I rx ry h hs
 obtain ⟨p,xs,i,z,rfl,rfl,hq,he,q⟩:=h
 cases rx
 obtain ⟨t,rfl⟩:=ry
 obtain ⟨its,r,pl,hz⟩:=I.tuple hq
 obtain ⟨j,h1,h2,h3,h4,h5⟩:=zcK he
 obtain ⟨w,ew,rw'⟩:=r.get h2
 have hl:=r.length
 have hn:=jp
 have fin:EP X pins σ Q w s:=⟨z,H,I,rw',q⟩
 exact subscriptTail_builtinR (x:=w) pl.typeIs slot_tuple_getitem.lookup
  (getItem_tuple (j:=j) (Q:=fun r s'=>r=w/\EP X pins σ Q r s') pl (by omega) (by omega) (by rw [List.size_toArray,← hl];exact h1) (by simpa using ew) ⟨rfl,fin⟩) hs
theorem zly:IxR X zmt:=by
 intro value slice pins s σ H x y v u Q I rx ry h hs
 obtain ⟨z,i,c,rfl,rfl,hz,he,q⟩:=h
 obtain ⟨t,rfl⟩:=rx
 obtain ⟨t',rfl⟩:=ry
 obtain ⟨j,h1,h2,h3,h4,h5⟩:=zcK he
 have hl:z.cps.toList.length=z.length:=by simp [Str.length]
 rw [hl] at h1 h4 h5
 have hn:=jp
 exact tail_any (typeIs_str s z t) slot_str_getitem.lookup (getItem_str (c:=c) (by
  have e1:decide (i < -(2 ^ 63:Int))=false:=decide_eq_false (by omega)
  have e2:decide (i ≥ 2 ^ 63)=false:=decide_eq_false (by omega)
  rw [e1,e2,Bool.or_false]) (by rw [h1];simpa using h2) ⟨.str ⟨#[c]⟩,H,I.tok _,⟨_,rfl⟩,q⟩) hs
noncomputable def rIx(K:PySem.W.Frag):R2:=fun x y H Q=>zmu K x y H Q∨zms K x y H Q∨zmt x y H Q
theorem zev:IxR X (rIx X.K):=ix_list.or (ix_tup.or zly)
theorem zeu(its:List Value)(n j:Nat)(u:Value):Obj.mapSeq (·.setIfInBounds j u) { cls:=.type "list",data:=.seq its.toArray n }={ cls:=.type "list",data:=.seq (its.set j u).toArray n }:=by
 simp [Obj.mapSeq]
theorem Inv.lst{pins:List (Addr × Obj)}{σ:St}{H:Hp}{s:Shared}{p:Addr}{xs:List V}(I:Inv X pins σ H s)(h:H p=some (.lst xs)):
  ∃ (its:List Value) (n:Nat),Vals xs its/\s.heap.get? p=some { cls:=.type "list",data:=.seq its.toArray n }/\xs.length≤sizeLine:=by
 obtain ⟨z,its,n,r,e⟩:=I.hok p _ h
 exact ⟨its,n,r,e,z⟩
theorem Inv.lstUpd{pins:List (Addr × Obj)}{σ:St}{H:Hp}{s:Shared}{p:Addr}{xs ys:List V}{its its':List Value}{n n':Nat}{f:Obj->Obj}(I:Inv X pins σ H s)(h:H p=some (.lst xs))
  (ho:s.heap.get? p=some { cls:=.type "list",data:=.seq its.toArray n })(hf:f { cls:=.type "list",data:=.seq its.toArray n }={ cls:=.type "list",data:=.seq its'.toArray n' })(r:Vals ys its')(hz:ys.length≤sizeLine)(t:Nat):
  Inv X pins σ (upd H p (.lst ys)) { s with heap:=s.heap.update p f,toks:=t }:=by
 have e:(s.heap.update p f).get? p=some { cls:=.type "list",data:=.seq its'.toArray n' }:=by
  rw [Heap.get?_update_self f ho (by rw [hf]<;>rfl),hf]
 refine I.write (x:=p) (e:=p) (by rw [h];trivial) (.inl rfl) (fun b u hb q=>(Heap.get?_update_other _ _ (Ne.symm hb)).trans q) ⟨_,e⟩ ?_
 exact ⟨hz,its',n',r,e⟩
noncomputable def zkA:V->V->V->Hp->(Hp->Prop)->Prop:=fun o i v H Q=>∃ p xs k j,o=.ref p/\i=.int k/\H p=some (.lst xs)/\ixN xs.length k=some j/\Q (upd H p (.lst (xs.set j v)))
theorem um:znm X zkA:=by
 intro pins s σ H o i v ov iv u Q I ro ri rv h
 obtain ⟨p,xs,k,j,rfl,rfl,hp,hj,q⟩:=h
 cases ro
 obtain ⟨t,rfl⟩:=ri
 obtain ⟨its,n,r,ho,hz⟩:=I.lst hp
 obtain ⟨h1,h2,h3,h4⟩:=zfi hj
 have hl:=r.length
 have hn:=jp
 have I':Inv X pins σ (upd H p (.lst (xs.set j v))) { s with heap:=s.heap.update p (Obj.mapSeq (·.setIfInBounds j u)) }:=
  I.lstUpd hp ho (zeu its n j u) (r.set rv j) (by rw [List.length_set];exact hz) s.toks
 by_cases h0:0≤k
 ·have hk:k.toNat=j:=by
   rw [seqIndex_of h0 h4] at h1
   exact Option.some.inj h1
  exact PySem.W.ki_setAt ho h0 (by omega) (by rw [List.size_toArray,← hl];exact h4) (by rw [hk];exact ⟨_,I',q⟩)
 ·have hk:(k+(its.toArray.size:Int)).toNat=j:=by
   rw [seqIndex_neg (by omega) h3] at h1
   rw [List.size_toArray,← hl]
   exact Option.some.inj h1
  exact PySem.W.ki_setBack ho (by omega) (by rw [List.size_toArray,← hl];exact h3) (by omega) (by rw [hk];exact ⟨_,I',q⟩)
theorem zbZ(lo hi:Option Int)(n:Nat):(sliceBounds lo hi none n).1=((HT.sIx n 0 lo:Nat):Int)/\(sliceBounds lo hi none n).2.1=((HT.sIx n n hi:Nat):Int)/\(sliceBounds lo hi none n).2.2=1:=by
 refine ⟨?_,?_,rfl⟩
 ·cases lo with
  | none=>simp [sliceBounds,HT.sIx]
  | some i=>
   simp only [sliceBounds,HT.sIx,Option.getD_none,show (1:Int) > 0 by decide,if_true]
   by_cases h:i<0
   ·simp only [h,if_true]<;>omega
   ·simp only [h,if_false]<;>omega
 ·cases hi with
  | none=>simp [sliceBounds,HT.sIx]
  | some i=>
   simp only [sliceBounds,HT.sIx,Option.getD_none,show (1:Int) > 0 by decide,if_true]
   by_cases h:i<0
   ·simp only [h,if_true]<;>omega
   ·simp only [h,if_false]<;>omega
theorem zaY(its:List Value)(lo hi:Option Int):slicePick its.toArray lo hi none=((its.drop (HT.sIx its.length 0 lo)).take (HT.sIx its.length its.length hi - HT.sIx its.length 0 lo)).toArray:=by
 obtain ⟨h1,h2,h3⟩:=zbZ lo hi its.toArray.size
 unfold slicePick
 rw [h1,h2,h3]
 simp only [sliceRange_one,pick_run,List.size_toArray]<;>rfl
noncomputable def znQ(K:PySem.W.Frag):V->Option Int->Option Int->Hp->VK->Prop:=fun x lo hi H Q=>∃ a xs,x=.ref a/\SqL K H a xs/\∀ p,H p=none->Q (.ref p) (upd H p (.lst (zaO xs lo hi)))
theorem sl_list:SlR X (znQ X.K):=by
 intro pins s σ H x v vl vu lo hi sl Q I rx hs pl pu h
 obtain ⟨a,xs,rfl,hx,q⟩:=h
 cases rx
 obtain ⟨its,r,ht,hz⟩:=I.list hx
 have hlen:=r.length
 refine ⟨"list",_,slot_list_getitem.lookup,ht.isList.typeIs,?_⟩
 refine wpAny_getItem_list_slice ht.isList hs pl pu .none (by simp) ?_ (by rw [List.size_toArray]<;>omega)
 rw [zaY,← hlen]
 refine ⟨.ref s.heap.objs.size,_,I.laid (t':=s.toks) (o:=.lst (zaO xs lo hi)) (fun b ob q=>Heap.get?_push_of_some _ q) (Nat.le_refl _) ?_,rfl,q _ (I.hok.fresh (Nat.le_refl _))⟩
 exact ⟨Nat.le_trans (qH xs lo hi) hz,_,0,(r.drop (HT.sIx xs.length 0 lo)).take (HT.sIx xs.length xs.length hi - HT.sIx xs.length 0 lo),Heap.get?_push_size _ rfl⟩
noncomputable def uh:V->Bool
 | .non=>true
 | .bl _=>true
 | .int _=>true
 | .str _=>true
 | _=>false
noncomputable def eqV:V->V->Bool
 | .non,.non=>true
 | .bl a,.bl b=>a == b
 | .bl a,.int b=>(if a then 1 else 0) == b
 | .int a,.bl b=>a == (if b then 1 else 0)
 | .int a,.int b=>a == b
 | .str a,.str b=>a == b
 | _,_=>false
theorem zlK{A:Around}{s:Shared}{y x:V}{u v:Value}(ry:RelV y u)(rx:RelV x v)(fy:uh y=true)(fx:uh x=true):SeqAt.EqAt A s u v (eqV y x):=by
 cases y with
 | non=>
  cases ry
  cases x with
  | non=>cases rx;exact SeqAt.EqAt.same _
  | bl b=>cases rx;exact SeqAt.EqAt.none_bool b
  | int b=>obtain ⟨t,rfl⟩:=rx;exact SeqAt.EqAt.none_int b t
  | str b=>obtain ⟨t,rfl⟩:=rx;exact SeqAt.EqAt.none_str b t
  | _=>exact absurd (show false=true from fx) Bool.false_ne_true
 | bl a=>
  cases ry
  cases x with
  | non=>cases rx;exact SeqAt.EqAt.bool_none a
  | bl b=>cases rx;exact SeqAt.EqAt.bool_bool a b
  | int b=>obtain ⟨t,rfl⟩:=rx;exact SeqAt.EqAt.bool_int a b t
  | str b=>obtain ⟨t,rfl⟩:=rx;exact SeqAt.EqAt.bool_str a b t
  | _=>exact absurd (show false=true from fx) Bool.false_ne_true
 | int a=>
  obtain ⟨t',rfl⟩:=ry
  cases x with
  | non=>cases rx;exact SeqAt.EqAt.int_none a t'
  | bl b=>cases rx;exact SeqAt.EqAt.int_bool a t' b
  | int b=>obtain ⟨t,rfl⟩:=rx;exact SeqAt.EqAt.int_int a t' b t
  | str b=>obtain ⟨t,rfl⟩:=rx;exact SeqAt.EqAt.int_str a t' b t
  | _=>exact absurd (show false=true from fx) Bool.false_ne_true
 | str a=>
  obtain ⟨t',rfl⟩:=ry
  cases x with
  | non=>cases rx;exact SeqAt.EqAt.str_none a t'
  | bl b=>cases rx;exact SeqAt.EqAt.str_bool a t' b
  | int b=>obtain ⟨t,rfl⟩:=rx;exact SeqAt.EqAt.str_int a t' b t
  | str b=>obtain ⟨t,rfl⟩:=rx;exact SeqAt.EqAt.str_str a t' b t
  | _=>exact absurd (show false=true from fx) Bool.false_ne_true
 | _=>exact absurd (show false=true from fy) Bool.false_ne_true
noncomputable def eqU(x:V)(u:Value):Bool:=match u with
 | .none=>eqV .non x
 | .bool b=>eqV (.bl b) x
 | .int i _=>eqV (.int i) x
 | .str z _=>eqV (.str z) x
 | _=>false
theorem ziB{x y:V}{u:Value}(r:RelV y u)(f:uh y=true):eqU x u=eqV y x:=by
 cases y with
 | non=>cases r;rfl
 | bl b=>cases r;rfl
 | int i=>obtain ⟨t,rfl⟩:=r;rfl
 | str z=>obtain ⟨t,rfl⟩:=r;rfl
 | _=>exact absurd (show false=true from f) Bool.false_ne_true
theorem kd{x:V}:∀ {xs:List V} {us:List Value},Vals xs us->xs.all uh=true->us.any (eqU x)=xs.any fun y=>eqV y x
 | _,_,.nil,_=>rfl
 | y::xs,u::us,.cons r t,f=>by
  rw [List.all_cons,Bool.and_eq_true] at f
  rw [List.any_cons,List.any_cons,ziB r f.1,kd t f.2]
theorem u0{A:Around}{s:Shared}{x:V}{v:Value}(rx:RelV x v)(fx:uh x=true):∀ {xs:List V} {us:List Value},Vals xs us->xs.all uh=true->∀ u ∈ us,SeqAt.EqAt A s u v (eqU x u)
 | _,_,.nil,_=>fun u hu=>by cases hu
 | y::xs,u::us,.cons r t,f=>fun u' hu=>by
  rw [List.all_cons,Bool.and_eq_true] at f
  rcases List.mem_cons.mp hu with rfl | hu
  ·rw [ziB r f.1];exact zlK r rx f.1 fx
  ·exact u0 rx fx t f.2 u' hu
noncomputable def inV(x:V)(xs:List V):Bool:=xs.any fun y=>eqV y x
noncomputable def rIn(K:PySem.W.Frag)(neg:Bool):R2:=fun x y H Q=>∃ p xs,y=.ref p/\(SqL K H p xs∨SqT K H p xs)/\uh x=true/\xs.all uh=true/\Q (.bl (if neg then !inV x xs else inV x xs)) H
theorem zfX:OpR X (compareOp .In) (rIn X.K false):=by
 intro pins s σ H x y v u Q I rx ry h
 obtain ⟨p,xs,rfl,hq,fx,fs,q⟩:=h
 cases ry
 rcases hq with hq | hq
 ·obtain ⟨its,r,pl,hz⟩:=I.list hq
  refine SeqAt.in_listAt (eqU x) pl.isList (fun w hw=>u0 rx fx r fs w (by simpa using hw)) ⟨.bl _,H,I,rfl,?_⟩
  rw [show its.toArray.any (eqU x)=its.any (eqU x) by simp,kd r fs]
  exact q
 ·obtain ⟨its,r,pl,hz⟩:=I.tuple hq
  refine SeqAt.in_tupleAt (eqU x) pl (fun w hw=>u0 rx fx r fs w (by simpa using hw)) ⟨.bl _,H,I,rfl,?_⟩
  rw [show its.toArray.any (eqU x)=its.any (eqU x) by simp,kd r fs]
  exact q
theorem zch:OpR X (compareOp .NotIn) (rIn X.K true):=by
 intro pins s σ H x y v u Q I rx ry h
 obtain ⟨p,xs,rfl,hq,fx,fs,q⟩:=h
 cases ry
 rcases hq with hq | hq
 ·obtain ⟨its,r,pl,hz⟩:=I.list hq
  refine SeqAt.notIn_listAt (eqU x) pl.isList (fun w hw=>u0 rx fx r fs w (by simpa using hw)) ⟨.bl _,H,I,rfl,?_⟩
  rw [show its.toArray.any (eqU x)=its.any (eqU x) by simp,kd r fs]
  exact q
 ·obtain ⟨its,r,pl,hz⟩:=I.tuple hq
  refine SeqAt.notIn_tupleAt (eqU x) pl (fun w hw=>u0 rx fx r fs w (by simpa using hw)) ⟨.bl _,H,I,rfl,?_⟩
  rw [show its.toArray.any (eqU x)=its.any (eqU x) by simp,kd r fs]
  exact q
theorem call_len_seq:CallR X (.builtin "len") (fun xs H Q=>∃ p ys,xs=[.ref p]/\(SqL X.K H p ys∨SqT X.K H p ys)/\Q (.int ys.length) H):=by
 intro pins s σ H xs us Q I r h
 obtain ⟨p,ys,rfl,hq,q⟩:=h
 obtain ⟨u,rfl,rx⟩:=zbo r
 cases rx
 have hn:=jp
 rcases hq with hq | hq
 ·obtain ⟨its,r',pl,hz⟩:=I.list hq
  have hlen:=r'.length
  exact Calls.call_len_list pl.isList (by simp only [List.size_toArray]<;>omega) ⟨.int ys.length,H,I.tok _,⟨s.toks+1,by rw [List.size_toArray,hlen]⟩,q⟩
 ·obtain ⟨its,r',pl,hz⟩:=I.tuple hq
  have hlen:=r'.length
  exact len_tuple pl (by simp only [List.size_toArray]<;>omega) ⟨.int ys.length,H,I.tok _,⟨s.toks+1,by rw [List.size_toArray,hlen]⟩,q⟩
theorem zcG:CallR X (.builtin "len") (fun xs H Q=>∃ z,xs=[.str z]/\z.length≤sizeLine/\Q (.int z.length) H):=by
 intro pins s σ H xs us Q I r h
 obtain ⟨z,rfl,hz,q⟩:=h
 obtain ⟨u,rfl,t,rfl⟩:=zbo r
 have hn:=jp
 exact len_str (by omega) ⟨.int z.length,H,I.tok _,⟨_,rfl⟩,q⟩
theorem CallR.or{f:Value}{r r':List V->Hp->VK->Prop}(h:CallR X f r)(h':CallR X f r'):CallR X f (fun xs H Q=>r xs H Q∨r' xs H Q):=by
 intro pins s σ H xs us Q I rs q
 rcases q with q | q
 ·exact h pins s σ H xs us Q I rs q
 ·exact h' pins s σ H xs us Q I rs q
theorem je:CallR X (.type "tuple") (fun xs H Q=>∃ p ys,xs=[.ref p]/\((SqL X.K H p ys/\∀ l,H l=none->Q (.ref l) (upd H l (.tup ys)))∨(SqT X.K H p ys/\Q (.ref p) H))):=by
 intro pins s σ H xs us Q I r h
 obtain ⟨p,ys,rfl,h⟩:=h
 obtain ⟨u,rfl,rx⟩:=zbo r
 cases rx
 rcases h with ⟨hq,q⟩ | ⟨hq,q⟩
 ·obtain ⟨its,r',pl,hz⟩:=I.list hq
  have hlen:=r'.length
  refine call_tuple_list pl.isList (fun h' kp=>?_) (by simp only [List.size_toArray]<;>omega)
  have I1:Inv X pins σ H { s with heap:=h' }:=I.kept (t':=s.toks) kp
  have I2:Inv X pins σ (upd H h'.objs.size (.tup ys)) { s with heap:=h'.push { cls:=.type "tuple",data:=.seq its.toArray } }:=
   I1.laid (t':=s.toks) (fun b o e=>Heap.get?_push_of_some _ e) (Nat.le_refl _) (show ObjOk X.prog X.w _ _ _ (.tup ys) from ⟨hz,its,r',IsTup.new _ _⟩)
  exact ⟨.ref h'.objs.size,_,I2,rfl,q _ (I1.hok.fresh (Nat.le_refl _))⟩
 ·obtain ⟨its,r',pl,hz⟩:=I.tuple hq
  exact call_tuple_same pl ⟨.ref p,H,I,rfl,q⟩
noncomputable def tyV(K:PySem.W.Frag)(T:String)(x:V)(H:Hp):Prop:=match x with
 | .str _=>T="str"
 | .int _=>T="int"
 | .ref p=>(T="list"/\∃ xs,SqL K H p xs)∨(T="tuple"/\∃ o,K.lookup p=some o/\o.cls=.type "tuple"/\o.dict=none)∨
   (T="dict"/\((∃ kvs,H p=some (.dK kvs))∨∃ kvs,H p=some (.dT kvs)))∨(T="set"/\∃ S n,H p=some (.set S n))
 | _=>False
theorem zgQ{pins:List (Addr × Obj)}{σ:St}{H:Hp}{s:Shared}{T:String}{x:V}{v:Value}(I:Inv X pins σ H s)(r:RelV x v)(ty:tyV X.K T x H):
  s.TypeIs v T/\∀ a,v=.ref a->∃ ob,s.heap.get? a=some ob/\ob.dict=none:=by
 cases x with
 | str z=>
  obtain ⟨t,rfl⟩:=r
  cases (show T="str" from ty)
  exact ⟨typeIs_str s z t,fun _ e=>nomatch e⟩
 | int i=>
  obtain ⟨t,rfl⟩:=r
  cases (show T="int" from ty)
  exact ⟨typeIs_int s i t,fun _ e=>nomatch e⟩
 | ref p=>
  cases r
  rcases ty with ⟨rfl,xs,hq⟩ | ⟨rfl,o,hk,hc,hd⟩ | ⟨rfl,hk⟩ | ⟨rfl,S,n,hk⟩
  ·obtain ⟨its,_,pl,_⟩:=I.list hq
   refine ⟨pl.isList.typeIs,fun a e=>?_⟩
   cases e
   obtain ⟨o,n,e,c,hd,_⟩:=pl
   exact ⟨o,e,hd⟩
  ·refine ⟨⟨o,I.kIn p o hk,hc⟩,fun a e=>?_⟩
   cases e
   exact ⟨o,I.kIn _ o hk,hd⟩
  ·have z:∃ o,s.heap.get? p=some o/\o.ExactDict:=by
    rcases hk with ⟨kvs,hk⟩ | ⟨kvs,hk⟩
    ·obtain ⟨_,_,_,_,o,_,_,e,ex,_⟩:=I.hok p _ hk
     exact ⟨o,e,ex⟩
    ·obtain ⟨_,_,_,_,o,_,_,e,ex,_⟩:=I.hok p _ hk
     exact ⟨o,e,ex⟩
   obtain ⟨o,e,ex⟩:=z
   refine ⟨⟨o,e,ex.1⟩,fun a e2=>?_⟩
   cases e2
   exact ⟨o,e,ex.2.1⟩
  ·obtain ⟨o,_,_,_,e,ex,_⟩:=I.hok p _ hk
   refine ⟨⟨o,e,ex.1⟩,fun a e2=>?_⟩
   cases e2
   exact ⟨o,e,ex.2.1⟩
 | _=>exact False.elim ty
noncomputable def zmi(K:PySem.W.Frag)(T:String)(r:V->List V->Hp->VK->Prop)(to:TE):TE:=fun σ H Q=>to σ H fun x H1=>tyV K T x H1/\r x [] H1 Q
noncomputable def tBM(K:PySem.W.Frag)(T:String)(r:V->List V->Hp->VK->Prop)(to:TE)(t:TA):TE:=fun σ H Q=>to σ H fun x H1=>tyV K T x H1/\t σ H1 fun xs H2=>r x xs H2 Q
variable {o e:Expr} {es:List Expr} {to:TE} {t:TA} {name:Str} {apos cpos:Pos} {T id:String} {r:V->List V->Hp->VK->Prop}
theorem zlm(pa:PlainAttrs T)(slot:Slot T name id)(hty:typeOf (.builtin id)=pure (.type "method_descriptor"))(hm:MtR X id r)(ho:PE X o to)
  (hbase:attributeBase o name X.env (eval o X.env)=eval o X.env:=by rfl)(hline:(apos.endLine == cpos.line)=true:=by rfl):PE X (.Call (.Attribute o name apos) [] [] cpos) (zmi X.K T r to):=by
 intro pins s σ H Q I h
 refine wpAny_Call_method0_late hbase hline (thn (ho pins s σ H _ I h) fun v s1 hq_=>?_)
 obtain ⟨x,H1,I1,r1,ty,q1⟩:=hq_
 obtain ⟨h1,h2⟩:=zgQ I1 r1 ty
 exact ⟨T,id,pa,slot,hty,h1,h2,Calls.callWith_builtin rfl (PySem.evalArgs_none (hm pins s1 σ H1 x [] v [] Q I1 r1 .nil q1))⟩
theorem xh(pa:PlainAttrs T)(slot:Slot T name id)(hty:typeOf (.builtin id)=pure (.type "method_descriptor"))(hm:MtR X id r)(ho:PE X o to)(ha:PA X (e::es) t)
  (hbase:attributeBase o name X.env (eval o X.env)=eval o X.env:=by rfl)
  (hfew:((backTo cpos (starEach (e::es) X.env)).all (fun x=>!x.1) && (backToKw cpos (keywordEach [] X.env)).all (fun x=>x.1.isSome)
   && decide ((e::es).length+([]:List Keyword).length+(if ([]:List Keyword).isEmpty then 0 else 1)<30))=true:=by rfl)
  (hline:(apos.endLine == cpos.line)=true:=by rfl)(hs:starEach (e::es) X.env=(false,eval e X.env)::starEach es X.env:=by rfl)(hplain:(backTo cpos (starEach es X.env)).any (·.1)=false:=by rfl):
  PE X (.Call (.Attribute o name apos) (e::es) [] cpos) (tBM X.K T r to t):=by
 intro pins s σ H Q I h
 refine wpAny_Call_method_late hbase hfew hline rfl (thn (ho pins s σ H _ I h) fun v s1 hq_=>?_)
 obtain ⟨x,H1,I1,r1,ty,q1⟩:=hq_
 obtain ⟨h1,h2⟩:=zgQ I1 r1 ty
 refine ⟨T,id,pa,slot,hty,h1,h2,?_⟩
 have hA:=ha cpos pins s1 σ H1 _ I1 q1
 rw [hs] at hA ⊢
 refine Calls.callWith_builtin (by show (false || (backTo cpos (starEach es X.env)).any (·.1))=false;rw [hplain]<;>rfl) (Calls.evalArgs_plain ?_)
 exact thn hA fun us s2 ⟨vs,H2,I2,r2,q2⟩=>hm pins s2 σ H2 x vs v us Q I2 r1 r2 q2
end
noncomputable def MtM(X:Cx)(id:String)(r:V->List V->Hp->VK->Prop):Prop:=
 ∀ (pins:List (Addr × Obj)) (s:Shared) (σ:St) (H:Hp) (x:V) (xs:List V) (v:Value) (us:List Value) (Q:VK),Inv X pins σ H s->RelV x v->Vals xs us->r x xs H Q->
  wpAny (model X.prog X.w) X.A (call (.builtin id) (v::us)) (EP X pins σ Q) X.xe s
theorem Vals.one{x:V}{us:List Value}(h:Vals [x] us):∃ u,us=[u]/\RelV x u:=by
 cases h with | cons r t=>cases t;exact ⟨_,rfl,r⟩
theorem Vals.zero:∀ {us:List Value},Vals [] us->us=[]
 | _,.nil=>rfl
theorem Vals.dropLast{xs:List V}{us:List Value}(h:Vals xs us):Vals xs.dropLast us.dropLast:=by
 induction h with
 | nil=>exact .nil
 | cons r t ih=>
  cases t with
  | nil=>exact .nil
  | cons q t'=>exact .cons r ih
theorem Vals.eraseIdx:∀ {xs:List V} {us:List Value} (i:Nat),Vals xs us->Vals (xs.eraseIdx i) (us.eraseIdx i)
 | _,_,_,.nil=>.nil
 | _,_,0,.cons _ t=>t
 | _,_,i+1,.cons r t=>.cons r (Vals.eraseIdx i t)
theorem Vals.rep{xs:List V}{us:List Value}(h:Vals xs us):∀ k:Nat,Vals (List.replicate k xs).flatten (List.replicate k us).flatten
 | 0=>.nil
 | k+1=>by
  rw [List.replicate_succ,List.replicate_succ,List.flatten_cons,List.flatten_cons]
  exact Vals.append h (Vals.rep h k)
theorem zeC{α:Type}(l:List α):l.eraseIdx (l.length - 1)=l.dropLast:=List.eraseIdx_length_sub_one
theorem zbx{α:Type}:∀ (l:List α) (i:Nat),(l.eraseIdx i).length≤l.length
 | [],_=>Nat.le_refl _
 | _::_,0=>Nat.le_succ _
 | _::r,i+1=>Nat.succ_le_succ (zbx r i)
theorem zbB(its:List Value):∀ (k:Nat) (acc:List Value),
  List.foldl (fun x1 x2=>x1++x2) acc.toArray (List.replicate k its.toArray)=(acc++(List.replicate k its).flatten).toArray
 | 0,acc=>by simp
 | k+1,acc=>by
  have e:acc.toArray++its.toArray=(acc++its).toArray:=by simp
  have e2:(acc++its)++(List.replicate k its).flatten=acc++(List.replicate (k+1) its).flatten:=by
   rw [List.replicate_succ,List.flatten_cons,List.append_assoc]
  rw [← e2,← zbB its k (acc++its),← e,List.replicate_succ,List.foldl_cons]
section
variable {X:Cx} {pins:List (Addr × Obj)} {σ:St} {H:Hp} {s:Shared} {l b:Addr} {xs ys zs:List V}
theorem Inv.lset{its its':List Value}{n:Nat}{f:Array Value->Array Value}{t':Nat}(I:Inv X pins σ H s)(hH:H l=some (.lst xs))
  (e:s.heap.get? l=some { cls:=.type "list",data:=.seq its.toArray n })(hf:f its.toArray=its'.toArray)(hv:Vals ys its')(hz:ys.length≤sizeLine):
  Inv X pins σ (upd H l (.lst ys)) { s with heap:=s.heap.update l (Obj.mapSeq f),toks:=t' }:=by
 have q:=PySem.IsL.update e f
 rw [hf] at q
 refine I.write (x:=l) (e:=l) (by rw [hH];exact trivial) (.inl rfl) (fun b' u hb hu=>(Heap.get?_update_other s.heap (Obj.mapSeq f) (Ne.symm hb)).trans hu) ⟨_,q⟩ ?_
 exact ⟨hz,its',_,hv,q⟩
theorem Inv.lnew{its:List Value}{t':Nat}(I:Inv X pins σ H s)(hv:Vals ys its)(hz:ys.length≤sizeLine):
  Inv X pins σ (upd H s.heap.objs.size (.lst ys)) { s with heap:=s.heap.push { cls:=.type "list",data:=.seq its.toArray },toks:=t' }:=
 I.laid (fun _ _ q=>Heap.get?_push_of_some _ q) (Nat.le_refl _) ⟨hz,its,0,hv,Heap.get?_push_size _ rfl⟩
theorem Inv.fresh(I:Inv X pins σ H s):H s.heap.objs.size=none:=I.hok.fresh (Nat.le_refl _)
theorem Inv.lstM(I:Inv X pins σ H s)(hH:H l=some (.lst xs)):xs.length≤sizeLine/\∃ (its:List Value) (n:Nat),Vals xs its/\xs.length=its.length/\s.heap.get? l=some { cls:=.type "list",data:=.seq its.toArray n }:=by
 obtain ⟨z,its,n,r,e⟩:=I.hok l _ hH
 exact ⟨z,its,n,r,r.length,e⟩
theorem zam{n:Nat}(h:n≤sizeLine):Builtin.List.listTooLong n=false:=by
 unfold Builtin.List.listTooLong
 exact decide_eq_false (by omega)
end
section
variable {X:Cx}
noncomputable def kJ:V->List V->Hp->VK->Prop:=fun x vs H Q=>∃ l xs y,x=.ref l/\vs=[y]/\H l=some (.lst xs)/\xs.length<sizeLine/\Q .non (upd H l (.lst (xs++[y])))
theorem zu:MtM X "list.append" kJ:=by
 intro pins s σ H x vs v us Q I rx rv h
 obtain ⟨l,xs,y,rfl,rfl,hH,hz,q⟩:=h
 cases rx
 obtain ⟨u,rfl,ru⟩:=rv.one
 obtain ⟨z,its,n,r,hl,e⟩:=I.lstM hH
 refine call_meets F.slot_list_append ⟨_,e,rfl⟩ F.entry_list_append (F.args_list_append_2 _ _) (PySem.list_append l its.toArray n u (by rw [List.size_toArray];omega)) ⟨e,?_⟩
 refine ⟨.non,_,I.lset (its':=its++[u]) hH e (by simp) (r.append (.cons ru .nil)) ?_,rfl,q⟩
 rw [List.length_append,List.length_singleton]
 omega
noncomputable def zce:V->List V->Hp->VK->Prop:=fun x vs H Q=>∃ l b xs zs,x=.ref l/\vs=[.ref b]/\H l=some (.lst xs)/\H b=some (.lst zs)/\xs.length+zs.length≤sizeLine/\Q .non (upd H l (.lst (xs++zs)))
theorem mt_extend:MtM X "list.extend" zce:=by
 intro pins s σ H x vs v us Q I rx rv h
 obtain ⟨l,b,xs,zs,rfl,rfl,hH,hB,hz,q⟩:=h
 cases rx
 obtain ⟨u,rfl,ru⟩:=rv.one
 cases ru
 obtain ⟨z,its,n,r,hl,e⟩:=I.lstM hH
 obtain ⟨z2,its2,n2,r2,hl2,e2⟩:=I.lstM hB
 have hsz:its.toArray.size+its2.toArray.size≤sizeLine:=by rw [List.size_toArray,List.size_toArray];omega
 have hlong:¬ (!its.toArray.isEmpty && Builtin.List.listTooLong (its.toArray.size+its2.toArray.size))=true:=by
  rw [zam hsz,Bool.and_false]
  exact Bool.false_ne_true
 refine call_meets F.slot_list_extend ⟨_,e,rfl⟩ F.entry_list_extend (F.args_list_extend_2 _ _)
  (AutoSeq1.list_extend_list_list_0 l its.toArray n b its2.toArray n2 hlong (by rw [List.size_toArray];omega) (by omega)) ⟨e,e2,?_⟩
 refine ⟨.non,_,I.lset (its':=its++its2) hH e (by simp) (r.append r2) ?_,rfl,q⟩
 rw [List.length_append]
 omega
noncomputable def zmr:V->List V->Hp->VK->Prop:=fun x vs H Q=>∃ l xs y,x=.ref l/\vs=[]/\H l=some (.lst xs)/\xs[xs.length - 1]?=some y/\Q y (upd H l (.lst xs.dropLast))
theorem zlq:MtM X "list.pop" zmr:=by
 intro pins s σ H x vs v us Q I rx rv h
 obtain ⟨l,xs,y,rfl,rfl,hH,hy,q⟩:=h
 cases rx
 have hus:=rv.zero
 subst hus
 obtain ⟨z,its,n,r,hl,e⟩:=I.lstM hH
 obtain ⟨u,hu,ru⟩:=r.get hy
 have hy':its.toArray[its.toArray.size - 1]?=some u:=by
  show its.toArray[its.length - 1]?=some u
  rw [← Array.getElem?_toList,← hl]
  exact hu
 refine call_meets F.slot_list_pop ⟨_,e,rfl⟩ F.entry_list_pop (F.args_list_pop_1 _) (MeetsSeq.list_pop_last l its.toArray n u hy' (by rw [List.size_toArray];omega)) ⟨e,?_⟩
 refine ⟨y,_,I.lset (its':=its.dropLast) hH e ?_ r.dropLast ?_,ru,q⟩
 ·show its.toArray.eraseIdxIfInBounds (its.toArray.size - 1)=its.dropLast.toArray
  rw [List.size_toArray,List.eraseIdxIfInBounds_toArray,zeC]
 ·rw [List.length_dropLast]
  omega
noncomputable def zhq:V->List V->Hp->VK->Prop:=fun x vs H Q=>∃ l xs i k y,x=.ref l/\vs=[.int i]/\H l=some (.lst xs)/\-(2 ^ 63)≤i/\i<2 ^ 63/\seqIndex? i xs.length=some k/\xs[k]?=some y/\Q y (upd H l (.lst (xs.eraseIdx k)))
theorem zhV:MtM X "list.pop" zhq:=by
 intro pins s σ H x vs v us Q I rx rv h
 obtain ⟨l,xs,i,k,y,rfl,rfl,hH,h1,h2,hk,hy,q⟩:=h
 cases rx
 obtain ⟨u,rfl,ru⟩:=rv.one
 obtain ⟨t,rfl⟩:=ru
 obtain ⟨z,its,n,r,hl,e⟩:=I.lstM hH
 obtain ⟨w,hw,rw'⟩:=r.get hy
 refine call_meets F.slot_list_pop ⟨_,e,rfl⟩ F.entry_list_pop (F.args_list_pop_2 _ _)
  (MeetsSeq.list_pop_at l its.toArray n i t k w (fitsIndex_both h1 h2) (by rw [List.size_toArray,← hl];exact hk) (by rw [← Array.getElem?_toList];exact hw) (by rw [List.size_toArray];omega)) ⟨e,?_⟩
 refine ⟨y,_,I.lset (its':=its.eraseIdx k) hH e ?_ (r.eraseIdx k) ?_,rw',q⟩
 ·show its.toArray.eraseIdxIfInBounds k=(its.eraseIdx k).toArray
  rw [List.eraseIdxIfInBounds_toArray]
 ·have:=zbx xs k
  omega
noncomputable def zkV:R2:=fun x y H Q=>∃ l b xs zs,x=.ref l/\y=.ref b/\H l=some (.lst xs)/\H b=some (.lst zs)/\xs.length+zs.length≤sizeLine/\∀ p,H p=none->Q (.ref p) (upd H p (.lst (xs++zs)))
theorem op_cat:OpR X (binaryOp .Add) zkV:=by
 intro pins s σ H x y v u Q I rx ry h
 obtain ⟨l,b,xs,zs,rfl,rfl,hH,hB,hz,q⟩:=h
 cases rx
 cases ry
 obtain ⟨z,its,n,r,hl,e⟩:=I.lstM hH
 obtain ⟨z2,its2,n2,r2,hl2,e2⟩:=I.lstM hB
 refine PySem.P.add_list e e2 ?_ (by rw [List.size_toArray,List.size_toArray];omega)
 have ea:its.toArray++its2.toArray=(its++its2).toArray:=by simp
 rw [ea]
 exact ⟨.ref _,_,I.lnew (t':=s.toks) (r.append r2) (by rw [List.length_append];omega),rfl,q _ I.fresh⟩
noncomputable def zkT:R2:=fun x y H Q=>∃ l k xs,x=.ref l/\y=.int k/\H l=some (.lst xs)/\-(2 ^ 63)≤k/\k<2 ^ 63/\xs.length * k.toNat≤sizeLine/\
 ∀ p,H p=none->Q (.ref p) (upd H p (.lst (List.replicate k.toNat xs).flatten))
theorem zjW{α:Type}(xs:List α)(k:Nat):(List.replicate k xs).flatten.length=k * xs.length:=by
 induction k with
 | zero=>simp
 | succ k ih=>rw [List.replicate_succ,List.flatten_cons,List.length_append,ih,Nat.succ_mul,Nat.add_comm]
theorem zln:OpR X (binaryOp .Mult) zkT:=by
 intro pins s σ H x y v u Q I rx ry h
 obtain ⟨l,k,xs,rfl,rfl,hH,h1,h2,hz,q⟩:=h
 cases rx
 obtain ⟨t,rfl⟩:=ry
 obtain ⟨z,its,n,r,hl,e⟩:=I.lstM hH
 have hlen:its.toArray.size * k.toNat≤sizeLine:=by rw [List.size_toArray,← hl];exact hz
 have hcap:¬ its.toArray.size * k.toNat > (2 ^ 63 - 1) / 8:=by
  have:(sizeLine:Nat)≤(2 ^ 63 - 1) / 8:=by decide
  omega
 have hfit:¬ (!Builtin.List.listFitsIndex k)=true:=by
  rw [fitsIndex_both h1 h2]
  exact Bool.false_ne_true
 have hlong:¬ Builtin.List.listTooLong (its.toArray.size * k.toNat)=true:=by
  rw [zam hlen]
  exact Bool.false_ne_true
 have hnew:List.foldl (fun x1 x2=>x1++x2) #[] (List.replicate (if its.toArray.isEmpty=true then 0 else k.toNat) its.toArray)=(List.replicate k.toNat its).flatten.toArray:=by
  have f0:∀ m:Nat,List.foldl (fun x1 x2=>x1++x2) #[] (List.replicate m its.toArray)=(List.replicate m its).flatten.toArray:=fun m=>by
   have:=zbB its m []
   rw [List.nil_append] at this
   exact this
  rw [f0]
  cases its with
  | nil=>simp
  | cons a r'=>rw [if_neg (by simp)]
 refine wpAny_binaryOp_repeat_ref (T:="list") (U:="int") (by decide) ⟨_,e,rfl⟩ (fun s'=>typeIs_int s' k t) noFill_list_mul F.fills_int_mul F.slot_int_rmul repeat_list F.slot_int_index.lookup
  (call_meets F.slot_int_rmul (typeIs_int s k t) F.entry_int_rmul (F.args_int_rmul_2 _ _) (int___rmul___int_list k t l its.toArray n)
   ⟨e,rfl,⟨_,e,rfl⟩,call_meets F.slot_list_mul ⟨_,e,rfl⟩ F.entry_list_mul (F.args_list_mul_2 _ _) (AutoListH.list___mul___list_int_3 l its.toArray n k t hfit hcap hlong) ⟨e,?_⟩⟩)
 rw [hnew]
 exact ⟨.ref _,_,I.lnew (t':=s.toks) (r.rep k.toNat) (by rw [zjW,Nat.mul_comm];exact hz),rfl,q _ I.fresh⟩
end
section
variable {κ:Type} [DecidableEq κ]
noncomputable def wj(kvs:List (κ × V))(k:κ):Option V:=(kvs.find? fun kv=>decide (kv.1=k)).map (·.2)
noncomputable def wn(kvs:List (κ × V))(k:κ)(v:V):List (κ × V):=
 if (kvs.any fun kv=>decide (kv.1=k))=true then kvs.map (fun kv=>if kv.1=k then (kv.1,v) else kv) else kvs++[(k,v)]
noncomputable def zov(kvs:List (κ × V))(k:κ):List (κ × V):=kvs.filter fun kv=>decide (kv.1≠k)
theorem kA{p:κ × V}{r:List (κ × V)}{k:κ}(e:p.1=k):wj (p::r) k=some p.2:=by simp [wj,List.find?_cons,e]
theorem qg{p:κ × V}{r:List (κ × V)}{k:κ}(e:¬ p.1=k):wj (p::r) k=wj r k:=by simp [wj,List.find?_cons,e]
theorem kB(k:κ):∀ kvs:List (κ × V),(kvs.any fun kv=>decide (kv.1=k))=(wj kvs k).isSome
 | []=>rfl
 | p::r=>by
  rw [List.any_cons]
  by_cases e:p.1=k
  ·simp only [kA e,decide_eq_true e,Bool.true_or,Option.isSome_some]
  ·rw [qg e,decide_eq_false e,Bool.false_or];exact kB k r
theorem vP(kvs:List (κ × V))(k:κ)(v:V):(wn kvs k v).length≤kvs.length+1:=by
 unfold wn
 split
 ·rw [List.length_map];omega
 ·rw [List.length_append,List.length_cons,List.length_nil];omega
theorem RelO.isSome_eq{o:Option V}{u:Option Value}(r:RelO o u):o.isSome=u.isSome:=by
 cases o with
 | none=>cases u with
  | none=>rfl
  | some _=>exact (show False from r).elim
 | some _=>cases u with
  | none=>exact (show False from r).elim
  | some _=>rfl
theorem RelO.getD{o:Option V}{u:Option Value}{d:V}{d':Value}(r:RelO o u)(rd:RelV d d'):RelV (o.getD d) (u.getD d'):=by
 cases o with
 | none=>cases u with
  | none=>exact rd
  | some _=>exact (show False from r).elim
 | some _=>cases u with
  | none=>exact (show False from r).elim
  | some _=>exact r
theorem KV.val{kvs:List (κ × V)}{vs:List (κ × Value)}(r:KV kvs vs)(k:κ):RelO (wj kvs k) (valueAt vs k):=by
 unfold KV at r
 induction r with
 | nil=>exact True.intro
 | @cons p q ps qs h t ih=>
  obtain ⟨h1,h2⟩:=h
  by_cases e:p.1=k
  ·have e':q.1=k:=h1.symm.trans e
   have b:valueAt (q::qs) k=some q.2:=by simp [valueAt,List.find?_cons,e']
   rw [kA e,b];exact h2
  ·have e':¬ q.1=k:=fun z=>e (h1.trans z)
   have b:valueAt (q::qs) k=valueAt qs k:=by simp [valueAt,List.find?_cons,e']
   rw [qg e,b];exact ih
theorem KV.any{kvs:List (κ × V)}{vs:List (κ × Value)}(r:KV kvs vs)(k:κ):(kvs.any fun kv=>decide (kv.1=k))=vs.any fun kv=>decide (kv.1=k):=by
 unfold KV at r
 induction r with
 | nil=>rfl
 | cons h t ih=>rw [List.any_cons,List.any_cons,ih,h.1]
theorem KV.repl{kvs:List (κ × V)}{vs:List (κ × Value)}(r:KV kvs vs)(k:κ){y:V}{u:Value}(ry:RelV y u):
  KV (kvs.map fun kv=>if kv.1=k then (kv.1,y) else kv) (vs.map fun kv=>if kv.1=k then (kv.1,u) else kv):=by
 unfold KV at r ⊢
 induction r with
 | nil=>exact .nil
 | @cons p q ps qs h t ih=>
  rw [List.map_cons,List.map_cons]
  refine .cons ?_ ih
  obtain ⟨h1,h2⟩:=h
  by_cases e:p.1=k
  ·rw [if_pos e,if_pos (h1.symm.trans e)];exact ⟨h1,ry⟩
  ·rw [if_neg e,if_neg (fun z=>e (h1.trans z))];exact ⟨h1,h2⟩
theorem KV.put{kvs:List (κ × V)}{vs:List (κ × Value)}(r:KV kvs vs)(k:κ){y:V}{u:Value}(ry:RelV y u):KV (wn kvs k y) (stored vs k u):=by
 unfold wn stored
 rw [r.any k]
 by_cases e:(vs.any fun kv=>decide (kv.1=k))=true
 ·rw [if_pos e,if_pos e];exact r.repl k ry
 ·rw [if_neg e,if_neg e];exact Paired.snoc r ⟨rfl,ry⟩
theorem KV.length{kvs:List (κ × V)}{vs:List (κ × Value)}(r:KV kvs vs):kvs.length=vs.length:=Paired.length r
end
theorem qC{P:Program}{w:World}{k:Key}{u:Value}(r:RelV (kV k) u):(yI P w).is k u=true:=by
 cases k with
 | inl i=>obtain ⟨t,e⟩:=(show ∃ t,u=Value.int i t from r);subst e;exact zdn P w i t
 | inr x=>obtain ⟨t,e⟩:=(show ∃ t,u=Value.str x t from r);subst e;exact zdm P w x t
theorem zbA{P:Program}{w:World}:∀ {ks:List Key} {us:List Value},Vals (ks.map kV) us->ItemsAre (yI P w) ks us
 | [],_,r=>by rw [List.map_nil] at r;cases r;exact .nil
 | k::ks,_,r=>by
  rw [List.map_cons] at r
  cases r with
  | cons h t=>exact .cons (qC h) (zbA t)
noncomputable abbrev KT(H:Hp):List (List Key × V)->List (List Key × Addr × Value)->Prop:=Paired fun p q=>p.1=q.1/\H q.2.1=some (.tup (p.1.map kV))/\RelV p.2 q.2.2
theorem KT.val{H:Hp}{kvs:List (List Key × V)}{xs:List (List Key × Addr × Value)}(r:KT H kvs xs)(k:List Key):RelO (wj kvs k) ((atKey xs k).map (·.2)):=by
 induction r with
 | nil=>exact True.intro
 | @cons p q ps qs h t ih=>
  obtain ⟨h1,_,h2⟩:=h
  by_cases e:p.1=k
  ·have e':q.1=k:=h1.symm.trans e
   have b:atKey (q::qs) k=some q.2:=by simp [atKey,List.find?_cons,e']
   rw [kA e,b];exact h2
  ·have e':¬ q.1=k:=fun z=>e (h1.trans z)
   have b:atKey (q::qs) k=atKey qs k:=by simp [atKey,List.find?_cons,e']
   rw [qg e,b];exact ih
theorem KT.repl{H:Hp}{kvs:List (List Key × V)}{xs:List (List Key × Addr × Value)}(r:KT H kvs xs)(k:List Key){y:V}{u:Value}(ry:RelV y u):
  KT H (kvs.map fun kv=>if kv.1=k then (kv.1,y) else kv) (xs.map (putAt k u)):=by
 induction r with
 | nil=>exact .nil
 | @cons p q ps qs h t ih=>
  rw [List.map_cons,List.map_cons]
  refine .cons ?_ ih
  obtain ⟨h1,h2,h3⟩:=h
  unfold putAt
  by_cases e:p.1=k
  ·rw [if_pos e,if_pos (h1.symm.trans e)];exact ⟨h1,h2,ry⟩
  ·rw [if_neg e,if_neg (fun z=>e (h1.trans z))];exact ⟨h1,h2,h3⟩
theorem KT.put{H:Hp}{kvs:List (List Key × V)}{xs:List (List Key × Addr × Value)}(r:KT H kvs xs)(k:List Key){b:Addr}{y:V}{u:Value}(hb:H b=some (.tup (k.map kV)))(ry:RelV y u):
  KT H (wn kvs k y) (storedH xs k b u):=by
 have e:(kvs.any fun kv=>decide (kv.1=k))=(atKey xs k).isSome:=by
  rw [kB,(r.val k).isSome_eq,Option.isSome_map]
 unfold wn storedH
 rw [e]
 by_cases q:(atKey xs k).isSome=true
 ·rw [if_pos q,if_pos q];exact r.repl k ry
 ·rw [if_neg q,if_neg q];exact Paired.snoc r ⟨rfl,hb,ry⟩
theorem KT.keeps{H H':Hp}{kvs:List (List Key × V)}{xs:List (List Key × Addr × Value)}(r:KT H kvs xs)(ht:∀ b ys,H b=some (.tup ys)->H' b=some (.tup ys)):KT H' kvs xs:=
 Paired.mapP r fun _ _ z=>⟨z.1,ht _ _ z.2.1,z.2.2⟩
section
variable {P:Program} {w:World} {H:Hp} {h:Heap} {a:Addr}
theorem zkz{u:HO}(ok:HOk P w H h)(e:Rd H a u):ObjOk P w H h a u:=e.ok ok
theorem qG{kvs:List (Key × V)}(ok:HOk P w H h)(e:Rd H a (.dK kvs)):kvs.length≤sizeLine/\(a == sysModules)=false/\∃ vs,KV kvs vs/\h.DictOf (yI P w) a vs:=
 show ObjOk P w H h a (.dK kvs) from zkz ok e
theorem zdA{kvs:List (Key × V)}(ok:HOk P w H h)(e:H a=some (.dK kvs)):kvs.length≤sizeLine/\(a == sysModules)=false/\∃ vs,KV kvs vs/\h.DictOf (yI P w) a vs:=qG ok (.inl e)
theorem kq{ks:List Key}(ok:HOk P w H h)(e:H a=some (.tup (ks.map kV))):(tupleKind (yI P w)).is h ks a:=by
 obtain ⟨_,its,r,o,h1,h2,n,h3⟩:=(show ObjOk P w H h a (.tup (ks.map kV)) from ok a _ e)
 exact ⟨o,its.toArray,n,h1,h2,h3,by simpa using zbA r⟩
theorem zaK{kvs:List (List Key × V)}(ok:HOk P w H h)(e:Rd H a (.dT kvs)):kvs.length≤sizeLine/\(a == sysModules)=false/\
  ∃ xs,KT H kvs xs/\h.DictOfH (tupleKind (yI P w)) a xs:=by
 obtain ⟨z,y,xs,r,o,es,ep,h1,h2,h3,h4,h5⟩:=(show ObjOk P w H h a (.dT kvs) from zkz ok e)
 refine ⟨z,y,xs,r,o,es,ep,h1,h2,h3,h4,fun x hx=>?_,h5⟩
 have all:∀ {l:List (List Key × V)} {m:List (List Key × Addr × Value)},KT H l m->∀ x ∈ m,(tupleKind (yI P w)).is h x.1 x.2.1:=by
  intro l m q
  induction q with
  | nil=>intro x hx;exact nomatch hx
  | @cons p q ps qs hq t ih=>
   intro x hx
   rcases List.mem_cons.mp hx with e | hx
   ·subst e
    exact kq ok (by rw [← hq.1];exact hq.2.1)
   ·exact ih x hx
 exact all r x hx
theorem zmZ{kvs:List (List Key × V)}(ok:HOk P w H h)(e:H a=some (.dT kvs)):kvs.length≤sizeLine/\(a == sysModules)=false/\
  ∃ xs,KT H kvs xs/\h.DictOfH (tupleKind (yI P w)) a xs:=zaK ok (.inl e)
end
noncomputable def DGet(H:Hp)(a:Addr)(y:V)(r:Option V):Prop:=
 (∃ kvs k,Rd H a (.dK kvs)/\y=kV k/\r=wj kvs k)∨∃ kvs k b,Rd H a (.dT kvs)/\y=.ref b/\H b=some (.tup (k.map kV))/\r=wj kvs k
noncomputable def DPut(H:Hp)(a:Addr)(y v:V)(H':Hp):Prop:=
 (∃ kvs k,H a=some (.dK kvs)/\y=kV k/\kvs.length<sizeLine/\H'=upd H a (.dK (wn kvs k v)))∨
 ∃ kvs k b,H a=some (.dT kvs)/\y=.ref b/\H b=some (.tup (k.map kV))/\kvs.length<sizeLine/\H'=upd H a (.dT (wn kvs k v))
theorem DGet.k{H:Hp}{a:Addr}{kvs:List (Key × V)}{k:Key}(e:H a=some (.dK kvs)):DGet H a (kV k) (wj kvs k):=.inl ⟨kvs,k,.inl e,rfl,rfl⟩
theorem DPut.k{H:Hp}{a:Addr}{kvs:List (Key × V)}{k:Key}{v:V}(e:H a=some (.dK kvs))(hl:kvs.length<sizeLine):DPut H a (kV k) v (upd H a (.dK (wn kvs k v))):=.inl ⟨kvs,k,e,rfl,hl,rfl⟩
section
variable {X:Cx} {pins:List (Addr × Obj)} {σ:St} {H:Hp} {s:Shared} {a:Addr} {y v:V} {u r:Value} {o:Option V} {A:Around} {E:Value->Shared->Prop}
theorem Inv.big(I:Inv X pins σ H s):sysModules<s.heap.objs.size:=by
 have h:mainGlobals<s.heap.objs.size:=(I.mod.glob.keeps I.bk).lt
 exact Nat.lt_trans (by decide) h
theorem zgu{Q:Value->Shared->Prop}(hu:A.units+1<cLine)(I:Inv X pins σ H s)(g:DGet H a y (some v))(ry:RelV y u)(h:∀ w' s',Inv X pins σ H s'->RelV v w'->Q w' s'):
  wpAny (model X.prog X.w) A (getItem (.ref a) u) Q E s:=by
 rcases g with ⟨kvs,k,e,ey,l⟩ | ⟨kvs,k,b,e,ey,eb,l⟩
 ·subst ey
  obtain ⟨z,hd,vs,rel,dd⟩:=qG I.hok e
  obtain ⟨w',hw,rw'⟩:=RelO.some_of (v:=v) (o:=valueAt vs k) (by rw [l];exact rel.val k)
  exact wpAny_getItem_of (qC ry) dd.mapOf hw (h w' _ (I.tok _) rw')
 ·subst ey
  cases (show u=Value.ref b from ry)
  obtain ⟨z,hd,xs,rel,dd⟩:=zaK I.hok e
  obtain ⟨w',hw,rw'⟩:=RelO.some_of (v:=v) (o:=(atKey xs k).map (·.2)) (by rw [l];exact rel.val k)
  obtain ⟨p,hp,hp2⟩:=Option.map_eq_some_iff.mp hw
  refine wpAny_getItem_heap (tupleKind_room_in1 hu) (kq I.hok eb) dd hp ?_
  rw [hp2]
  exact h w' _ (I.tok _) rw'
theorem zoi{Q:Value->Shared->Prop}(hu:A.units+1<cLine)(I:Inv X pins σ H s)(g:DGet H a y o)(ry:RelV y u)(h:∀ s',Inv X pins σ H s'->Q (.bool o.isSome) s'):
  wpAny (model X.prog X.w) A (compareOp .In u (.ref a)) Q E s:=by
 rcases g with ⟨kvs,k,e,ey,l⟩ | ⟨kvs,k,b,e,ey,eb,l⟩
 ·subst ey
  obtain ⟨z,hd,vs,rel,dd⟩:=qG I.hok e
  refine wpAny_in_of (qC ry) hd dd.mapOf ?_
  rw [← (rel.val k).isSome_eq,← l]
  exact h _ (I.tok _)
 ·subst ey
  cases (show u=Value.ref b from ry)
  obtain ⟨z,hd,xs,rel,dd⟩:=zaK I.hok e
  refine wpAny_in_heap (tupleKind_room_in1 hu) (kq I.hok eb) hd dd ?_
  have q:=(rel.val k).isSome_eq
  rw [Option.isSome_map] at q
  rw [← q,← l]
  exact h _ (I.tok _)
theorem zkk{Q:Value->Shared->Prop}(hu:A.units+1<cLine)(I:Inv X pins σ H s)(g:DGet H a y o)(ry:RelV y u)(h:∀ s',Inv X pins σ H s'->Q (.bool (!o.isSome)) s'):
  wpAny (model X.prog X.w) A (compareOp .NotIn u (.ref a)) Q E s:=by
 rcases g with ⟨kvs,k,e,ey,l⟩ | ⟨kvs,k,b,e,ey,eb,l⟩
 ·subst ey
  obtain ⟨z,hd,vs,rel,dd⟩:=qG I.hok e
  refine wpAny_notIn_of (qC ry) hd dd.mapOf ?_
  rw [← (rel.val k).isSome_eq,← l]
  exact h _ (I.tok _)
 ·subst ey
  cases (show u=Value.ref b from ry)
  obtain ⟨z,hd,xs,rel,dd⟩:=zaK I.hok e
  refine wpAny_notIn_heap (tupleKind_room_in1 hu) (kq I.hok eb) hd dd ?_
  have q:=(rel.val k).isSome_eq
  rw [Option.isSome_map] at q
  rw [← q,← l]
  exact h _ (I.tok _)
theorem qV{h':Heap}{t':Nat}{ob:HO}(I:Inv X pins σ H s)(mu:Mut (H a))(hs:Heap.SameBut a s.heap h')(he:∃ q,h'.get? a=some q)(new:ObjOk X.prog X.w (upd H a ob) h' a ob):
  Inv X pins σ (upd H a ob) { s with heap:=h',toks:=t' }:=
 I.write (x:=a) (e:=a) mu (.inl rfl) (fun b q hb z=>(hs.2 b hb).trans z) he new
theorem zeD{P:Program}{w:World}{H':Hp}{h':Heap}{kvs:List (Key × V)}{vs:List (Key × Value)}(z:kvs.length≤sizeLine)(hd:(a == sysModules)=false)(rel:KV kvs vs)(dd:h'.DictOf (yI P w) a vs):
  ObjOk P w H' h' a (.dK kvs):=⟨z,hd,vs,rel,dd⟩
theorem zgt{H':Hp}{Q:Unit->Shared->Prop}(hu:A.units+1<cLine)(I:Inv X pins σ H s)(g:DPut H a y v H')(ry:RelV y u)(rv:RelV v r)(h:∀ s',Inv X pins σ H' s'->Q () s'):
  wpAny (model X.prog X.w) A (setItem (.ref a) u r) Q E s:=by
 rcases g with ⟨kvs,k,e,ey,l,eH⟩ | ⟨kvs,k,b,e,ey,eb,l,eH⟩
 ·subst ey eH
  obtain ⟨z,hd,vs,rel,dd⟩:=zdA I.hok e
  have hz:vs.length≤sizeLine:=by rw [← rel.length];exact z
  have hl:(wn kvs k v).length≤sizeLine:=by have:=vP kvs k v;omega
  refine wpAny_setItem_pairs (hsz:=hz) (qC ry) dd fun h' dd' hs=>h _ ?_
  have he:∃ q,h'.get? a=some q:=let ⟨q,_,_,hq,_⟩:=dd';⟨q,hq⟩
  exact qV I (by rw [e];exact True.intro) hs he (zeD hl hd (rel.put k rv) dd')
 ·subst ey eH
  cases (show u=Value.ref b from ry)
  obtain ⟨z,hd,xs,rel,dd⟩:=zmZ I.hok e
  have hz:xs.length≤sizeLine:=by rw [← Paired.length rel];exact z
  have hl:(wn kvs k v).length≤sizeLine:=by have:=vP kvs k v;omega
  refine wpAny_setItem_heap (hsz:=hz) (tupleKind_room_in1 hu) (kq I.hok eb) dd fun h' dd' hs=>h _ ?_
  obtain ⟨q,es,ep,hq,h2,h3,h4,_,h5⟩:=dd'
  refine qV I (by rw [e];exact True.intro) hs ⟨q,hq⟩ ⟨hl,hd,_,(rel.put k eb rv).keeps fun c ys ec=>?_,q,es,ep,hq,h2,h3,h4,h5⟩
  rw [zk (zmG ec e (fun z=>nomatch z))]
  exact ec
end
section
variable {X:Cx} {pins:List (Addr × Obj)} {σ:St} {H:Hp} {s:Shared} {a:Addr} {kvs:List (Key × V)} {k:Key} {u:Value} {A:Around} {E:Value->Shared->Prop}
theorem znc{Q:Value->Shared->Prop}(I:Inv X pins σ H s)(e:Rd H a (.dK kvs))(h:∀ t s',Inv X pins σ H s'->Q (.int kvs.length t) s'):wpAny (model X.prog X.w) A (call (.builtin "len") [.ref a]) Q E s:=by
 obtain ⟨z,hd,vs,rel,dd⟩:=qG I.hok e
 refine call_len_dict hd dd (by rw [← rel.length];rw [sizeLine_eq] at z;omega) ?_
 rw [← rel.length]
 exact h _ _ (I.tok _)
end
noncomputable def znn(i:Expr):Prop:=∀ ov iv,subscripted i false ov iv=operate [ov,iv] (getItem ov iv)
theorem zjp{prog:Program}{w:World}{A:Around}{E:Value->Shared->Prop}{s:Shared}{env:Env}{value slice:Expr}{pos:Pos}{T id:String}{Q:Value->Shared->Prop}
  (hl:typeLookup (.type T) "__getitem__"=pure (some (.builtin id)))(hs:znn slice)
  (h:wpAny (model prog w) A (eval value env) (fun o s₁=>wpAny (model prog w) A (eval slice env) (fun i s₂=>s₂.TypeIs o T/\wpAny (model prog w) A (getItem o i) Q E s₂) E s₁) E s):
  wpAny (model prog w) A (eval (.Subscript value slice pos) env) Q E s:=by
 refine Subscript_ (wpAny_mono h (fun o s₁ h₁=>wpAny_mono h₁ (fun i s₂ h₂=>?_) fun _ _ x=>x) fun _ _ x=>x)
 obtain ⟨hT,h₂⟩:=h₂
 unfold subscriptTail
 refine wpAny_bind ?_
 rw [getitemInPython_of_ne hT.not_modules]
 refine wpAny_bind (wpAny_specialOf hT hl ?_)
 have fin:wpAny (model prog w) A (subscripted slice false o i) (fun r s₃=>wpAny (model prog w) A (letTemporaryGo value o r >>= fun _=>pure r) Q E s₃) E s₂:=by
  rw [hs o i]
  exact wpAny_operating (wpAny_mono h₂ (fun r s₃ h₃=>wpAny_bind (wpAny_letTemporaryGo (wpAny_pure h₃))) fun _ _ x=>x)
 first
  | exact wpAny_pure (wpAny_bind fin)
  | exact wpAny_bind (wpAny_pure (wpAny_bind fin))
  | exact wpAny_bind fin
theorem zdC{X:Cx}{pins:List (Addr × Obj)}{σ:St}{H:Hp}{s:Shared}{a:Addr}{y:V}{o:Option V}(I:Inv X pins σ H s)(g:DGet H a y o):s.TypeIs (.ref a) "dict":=by
 rcases g with ⟨kvs,k,e,_,_⟩ | ⟨kvs,k,b,e,_,_,_⟩
 ·obtain ⟨_,_,vs,_,dd⟩:=qG I.hok e
  exact dd.typeIs
 ·obtain ⟨_,_,xs,_,dd⟩:=zaK I.hok e
  exact dd.typeIs
noncomputable def zmh(td ty:TE):TE:=fun σ H Q=>td σ H fun x H1=>ty σ H1 fun y H2=>∃ a v,x=.ref a/\DGet H2 a y (some v)/\Q v H2
noncomputable def zeX(td ty tv:TE):TS:=fun D σ H=>tv σ H fun v H1=>td σ H1 fun x H2=>ty σ H2 fun y H3=>∃ a H4,x=.ref a/\DPut H3 a y v H4/\D.nx σ H4
section
variable {X:Cx} {o i e value:Expr} {pos pos' tpos:Pos} {td ty tv:TE}
theorem zjJ(hu:X.A.units+1<cLine)(ho:PE X o td)(hi:PE X i ty)(hs:znn i):PE X (.Subscript o i pos) (zmh td ty):=by
 intro pins s σ H Q I h
 refine zjp PySem.F.slot_dict_getitem.lookup hs (thn (ho pins s σ H _ I h) fun u s1 ⟨x,H1,I1,rx,q1⟩=>thn (hi pins s1 σ H1 _ I1 q1) fun iv s2 ⟨y,H2,I2,ry,a,v,ex,g,q2⟩=>?_)
 subst ex
 obtain rfl:u=Value.ref a:=rx
 exact ⟨zdC I2 g,zgu hu I2 g ry fun w' s3 I3 rw'=>⟨v,H2,I3,rw',q2⟩⟩
theorem jM(hu:X.A.units+1<cLine)(ho:PE X o td)(hi:PE X i ty)(hv:PE X value tv)(hs:swapsWith value (some (.Subscript o i pos')) pos.line X.env=pure false):
  PS X (.Assign [.Subscript o i pos'] value pos) (zeX td ty tv):=by
 intro pins s σ H D I h
 refine wpAny_Assign_Subscript (thn (hv pins s σ H _ I h) fun r s1 ⟨v,H1,I1,rv,q1⟩=>thn (ho pins s1 σ H1 _ I1 q1) fun u s2 ⟨x,H2,I2,rx,q2⟩=>thn (hi pins s2 σ H2 _ I2 q2) fun iv s3 ⟨y,H3,I3,ry,a,H4,ex,g,q3⟩=>?_) hs
 subst ex
 obtain rfl:u=Value.ref a:=rx
 exact zgt hu I3 g ry rv fun s4 I4=>⟨σ,H4,I4,q3⟩
end
theorem zdB{P:Program}{w:World}{H:Hp}(h:Heap)(hb:sysModules<h.objs.size):ObjOk P w H (h.push { cls:=.type "dict",data:=.dict #[] }) h.objs.size (.dK []):=
 ⟨Nat.zero_le _,beq_eq_false_iff_ne.mpr (Ne.symm (Nat.ne_of_lt hb)),[],.nil,Heap.DictOf.new h⟩
noncomputable def zgW:TE:=fun _ H Q=>∀ p,H p=none->Q (.ref p) (upd H p (.dK []))
section
variable {X:Cx} {pos:Pos}
theorem kL:PE X (.Dict [] [] pos) zgW:=fun pins s σ H Q I h=>
 wpAny_Dict_empty ⟨.ref s.heap.objs.size,_,I.laid (a:=s.heap.objs.size) (o:=.dK []) (t':=s.toks) (fun _ _ q=>Heap.get?_push_of_some _ q) (Nat.le_refl _) (zdB s.heap I.big),rfl,h _ (I.hok.fresh (Nat.le_refl _))⟩
end
noncomputable def zdY:List (TE × TE)->St->Hp->(List (V × V)->Hp->Prop)->Prop
 | [],_,H,Q=>Q [] H
 | (tk,tv)::r,σ,H,Q=>tk σ H fun x H1=>tv σ H1 fun y H2=>zdY r σ H2 fun ps H3=>Q ((x,y)::ps) H3
noncomputable abbrev VV:List (V × V)->List (Value × Value)->Prop:=Paired fun p q=>RelV p.1 q.1/\RelV p.2 q.2
noncomputable def PPs(X:Cx)(pos:Pos)(keys:List (Option Expr))(values:List Expr)(trs:List (TE × TE)):Prop:=
 ∀ (pins:List (Addr × Obj)) (s:Shared) (σ:St) (H:Hp) (Q:List (V × V)->Hp->Prop),Inv X pins σ H s->zdY trs σ H Q->
  wpAny (model X.prog X.w) X.A (evalPairs (pairTrees keys values X.env pos)) (fun vs s'=>∃ ps H',Inv X pins σ H' s'/\VV ps vs/\Q ps H') X.xe s
theorem zjB{X:Cx}{pos:Pos}:PPs X pos [] [] []:=fun pins s σ H Q I h=>pairTrees_nil_walk ⟨[],H,I,.nil,h⟩
theorem zhy{X:Cx}{pos:Pos}{k v:Expr}{ks:List (Option Expr)}{vs:List Expr}{tk tv:TE}{trs:List (TE × TE)}(hk:PE X k tk)(hv:PE X v tv)(hr:PPs X pos ks vs trs):
  PPs X pos (some k::ks) (v::vs) ((tk,tv)::trs):=fun pins s σ H Q I h=>
 pairTrees_cons_walk (thn (hk pins s σ H _ I h) fun u s1 ⟨x,H1,I1,rx,q1⟩=>thn (hv pins s1 σ H1 _ I1 q1) fun w2 s2 ⟨y,H2,I2,ry,q2⟩=>
  thn (hr pins s2 σ H2 _ I2 q2) fun ws s3 ⟨ps,H3,I3,rel,q3⟩=>⟨(x,y)::ps,H3,I3,.cons ⟨rx,ry⟩ rel,q3⟩)
noncomputable def kn(kvs more:List (Key × V)):List (Key × V):=more.foldl (fun acc kv=>wn acc kv.1 kv.2) kvs
theorem KV.merge:∀ {more:List (Key × V)} {rs:List (Key × Value)} {kvs:List (Key × V)} {vs:List (Key × Value)},KV more rs->KV kvs vs->KV (kn kvs more) (merged vs rs):=by
 intro more rs kvs vs r
 unfold KV at r
 induction r generalizing kvs vs with
 | nil=>intro q;exact q
 | @cons p q ps qs h t ih=>
  intro r0
  have e:KV (wn kvs p.1 p.2) (stored vs q.1 q.2):=by
   have:=r0.put p.1 h.2
   rw [← h.1];exact this
  exact ih e
theorem ja:∀ (more kvs:List (Key × V)),(kn kvs more).length≤kvs.length+more.length
 | [],kvs=>by show kvs.length≤kvs.length+0;omega
 | p::r,kvs=>by
  have h1:=ja r (wn kvs p.1 p.2)
  have h2:=vP kvs p.1 p.2
  show (kn (wn kvs p.1 p.2) r).length≤_
  rw [List.length_cons];omega
theorem zaV{P:Program}{w:World}:∀ {kvs:List (Key × V)} {ws:List (Value × Value)},VV (kvs.map fun kv=>(kV kv.1,kv.2)) ws->∃ rs,Carries (yI P w) ws rs/\KV kvs rs
 | [],_,r=>by rw [List.map_nil] at r;cases r;exact ⟨[],True.intro,.nil⟩
 | p::kvs,_,r=>by
  rw [List.map_cons] at r
  cases r with
  | @cons a b as bs h t=>
   obtain ⟨rs,c,q⟩:=zaV (P:=P) (w:=w) t
   obtain ⟨b1,b2⟩:=b
   exact ⟨(p.1,b2)::rs,⟨qC h.1,rfl,c⟩,.cons ⟨rfl,h.2⟩ q⟩
noncomputable def zmg(trs:List (TE × TE)):TE:=fun σ H Q=>∀ p,H p=none->zdY trs σ (upd H p (.dK [])) fun ps H2=>H2 p=some (.dK [])/\∃ kvs:List (Key × V),ps=kvs.map (fun kv=>(kV kv.1,kv.2))/\kvs.length≤15/\Q (.ref p) (upd H2 p (.dK (kn [] kvs)))
theorem zjI{X:Cx}{pos:Pos}{keys:List (Option Expr)}{values:List Expr}{trs:List (TE × TE)}(h:PPs X pos keys values trs)(hall:keys.all (·.isSome)=true)(hl:keys.length=values.length)(h0:keys≠[])
  (h15:keys.length≤15):PE X (.Dict keys values pos) (zmg trs):=by
 intro pins s σ H Q I q
 have hn:=I.hok.fresh (Nat.le_refl s.heap.objs.size)
 have I1:=I.laid (a:=s.heap.objs.size) (o:=.dK []) (h':=s.heap.push { cls:=.type "dict",data:=.dict #[] }) (t':=s.toks) (fun _ _ q=>Heap.get?_push_of_some _ q) (Nat.le_refl _) (zdB s.heap I.big)
 refine wpAny_Dict_walk (knd:=yI X.prog X.w) hall hl h0 h15 (thn (h pins _ σ _ _ I1 (q _ hn)) fun ws s2 hq_=>?_)
 obtain ⟨ps,H2,I2,rel,e,kvs,ep,lk,q2⟩:=hq_
 subst ep
 obtain ⟨rs,c,rk⟩:=zaV (P:=X.prog) (w:=X.w) rel
 obtain ⟨z,hd,vs0,r0,dd⟩:=zdA I2.hok e
 cases r0
 refine ⟨rs,c,dd,fun h' dd' hs=>⟨.ref s.heap.objs.size,_,?_,rfl,q2⟩⟩
 have hz:(kn [] kvs).length≤sizeLine:=by
  have h1:=ja kvs []
  rw [List.length_nil] at h1
  rw [sizeLine_eq];omega
 have he:∃ q,h'.get? s.heap.objs.size=some q:=let ⟨q,_,_,hq,_⟩:=dd';⟨q,hq⟩
 exact qV I2 (by rw [e];exact True.intro) hs he (zeD hz hd (rk.merge .nil) dd')
structure M1 (X:Cx) (o:Expr) (m:Str) (apos:Pos) (e:Expr) (cpos:Pos):Prop where
 base:attributeBase o m X.env (eval o X.env)=eval o X.env
 few:((backTo cpos (starEach [e] X.env)).all (fun x=>!x.1) && (backToKw cpos (keywordEach [] X.env)).all (fun x=>x.1.isSome)
  && decide (([e]:List Expr).length+([]:List Keyword).length+(if ([]:List Keyword).isEmpty then 0 else 1)<30))=true
 line:(apos.endLine == cpos.line)=true
 trees:backTo cpos (starEach [e] X.env)=[(false,eval e X.env)]
structure M2 (X:Cx) (o:Expr) (m:Str) (apos:Pos) (e f:Expr) (cpos:Pos):Prop where
 base:attributeBase o m X.env (eval o X.env)=eval o X.env
 few:((backTo cpos (starEach [e,f] X.env)).all (fun x=>!x.1) && (backToKw cpos (keywordEach [] X.env)).all (fun x=>x.1.isSome)
  && decide (([e,f]:List Expr).length+([]:List Keyword).length+(if ([]:List Keyword).isEmpty then 0 else 1)<30))=true
 line:(apos.endLine == cpos.line)=true
 trees:backTo cpos (starEach [e,f] X.env)=[(false,eval e X.env),(false,eval f X.env)]
noncomputable def IsD(H:Hp)(a:Addr):Prop:=(∃ kvs,Rd H a (.dK kvs))∨∃ kvs,Rd H a (.dT kvs)
theorem zij{X:Cx}{pins:List (Addr × Obj)}{σ:St}{H:Hp}{s:Shared}{a:Addr}(I:Inv X pins σ H s)(d:IsD H a):
  s.TypeIs (.ref a) "dict"/\(∀ b,Value.ref a=.ref b->∃ ob,s.heap.get? b=some ob/\ob.dict=none)/\(a == sysModules)=false:=by
 rcases d with ⟨kvs,e⟩ | ⟨kvs,e⟩
 ·obtain ⟨_,hd,vs,_,dd⟩:=qG I.hok e
  refine ⟨dd.typeIs,fun b q=>?_,hd⟩
  cases q
  obtain ⟨ob,_,_,h1,h2,_⟩:=dd
  exact ⟨ob,h1,h2.2.1⟩
 ·obtain ⟨_,hd,xs,_,dd⟩:=zaK I.hok e
  refine ⟨dd.typeIs,fun b q=>?_,hd⟩
  cases q
  obtain ⟨ob,_,_,h1,h2,_⟩:=dd
  exact ⟨ob,h1,h2.2.1⟩
section
variable {X:Cx} {pins:List (Addr × Obj)} {σ:St} {H:Hp} {s:Shared} {a:Addr} {y d:V} {u r:Value} {o:Option V} {A:Around} {E:Value->Shared->Prop}
theorem zlM{Q:Value->Shared->Prop}(hu:A.units+1<cLine)(I:Inv X pins σ H s)(g:DGet H a y o)(ry:RelV y u)(rd:RelV d r)(h:∀ w' s',Inv X pins σ H s'->RelV (o.getD d) w'->Q w' s'):
  wpAny (model X.prog X.w) A (call (.builtin "dict.get") [.ref a,u,r]) Q E s:=by
 rcases g with ⟨kvs,k,e,ey,l⟩ | ⟨kvs,k,b,e,ey,eb,l⟩
 ·subst ey
  obtain ⟨z,hd,vs,rel,dd⟩:=qG I.hok e
  refine call_meetsIn PySem.F.slot_dict_get dd.typeIs PySem.F.entry_dict_get (PySem.F.args_dict_get_3 _ _ _) (meets_dict_get_default (yI X.prog X.w) a (qC ry) hd r) ⟨_,dd.mapOf,h _ _ (I.tok _) ?_⟩
  rw [l]
  exact (rel.val k).getD rd
 ·subst ey
  cases (show u=Value.ref b from ry)
  obtain ⟨z,hd,xs,rel,dd⟩:=zaK I.hok e
  refine call_meetsIn PySem.F.slot_dict_get dd.typeIs PySem.F.entry_dict_get (PySem.F.args_dict_get_3 _ _ _) (meetsH_dict_get_default (tupleKind (yI X.prog X.w)) a b hd r) ⟨tupleKind_room_in1 hu,k,xs,kq I.hok eb,dd,h _ _ (I.tok _) ?_⟩
  rw [l]
  exact (rel.val k).getD rd
end
noncomputable def zkN(td ty tx:TE):TE:=fun σ H Q=>td σ H fun x H1=>∃ a,x=.ref a/\IsD H1 a/\ty σ H1 fun y H2=>tx σ H2 fun z H3=>∃ o,DGet H3 a y o/\Q (o.getD z) H3
section
variable {X:Cx} {o e f:Expr} {apos cpos:Pos} {td ty tx:TE}
theorem zdd(hu:X.A.units+1<cLine)(ho:PE X o td)(he:PE X e ty)(hf:PE X f tx)(m:M2 X o "get" apos e f cpos):PE X (.Call (.Attribute o "get" apos) [e,f] [] cpos) (zkN td ty tx):=by
 intro pins s σ H Q I h
 refine wpAny_Call_method m.base m.few m.line PySem.F.plainAttrs_dict PySem.F.slot_dict_get PySem.F.type_dict_get (thn (ho pins s σ H _ I h) fun u s1 hq_=>?_)
 obtain ⟨x,H1,I1,rx,a,ex,d,q1⟩:=hq_
 subst ex
 obtain rfl:u=Value.ref a:=rx
 obtain ⟨t1,t2,_⟩:=zij I1 d
 refine ⟨t1,t2,?_⟩
 rw [m.trees]
 refine Calls.callWith_builtin rfl (Calls.evalArgs_plain (Calls.spliced_cons (thn (he pins s1 σ H1 _ I1 q1) fun iv s2 ⟨y,H2,I2,ry,q2⟩=>
  Calls.spliced_cons (thn (hf pins s2 σ H2 _ I2 q2) fun fv s3 ⟨z,H3,I3,rz,ov,g,q3⟩=>Calls.spliced_nil ?_))))
 exact zlM hu I3 g ry rz fun w' s4 I4 rw'=>⟨_,H3,I4,rw',q3⟩
end
end L2
namespace Att
open PySem PySem.W PySem.Calls PyProof.Rows
theorem qK{P:Params}{h:Heap}:∀ (ns:List Int) (vs:List Value),WellAll P h vs (ns.map WData.int)->IntsAre vs ns:=by
 intro ns
 induction ns with
 | nil=>
  intro vs w
  rw [List.map_nil] at w
  cases w
  exact .nil
 | cons n ns ih=>
  intro vs w
  rw [List.map_cons] at w
  cases w with
  | cons a b=>
   cases a
   exact .cons _ _ (ih _ b)
theorem zfS{l:OpenLaw}{n:Nat}(hn:l.most=some n){P:Params}{h:Heap}{args:List WData}{vals:List Value}
  (hpre:l.row.toRowW.claim.pre args=true)(hwl:WellAll P h vals args):
  ∃ a vs ns,vals=[Value.ref a]/\args=[WData.list (ns.map WData.int)]/\h.get? a=some { cls:=.type "list",data:=.seq vs.toArray }/\IntsAre vs ns/\ns.length≤n:=by
 have hsh:WShape.hasAll [] args [.list .int]=true:=(pre_splitW hpre).1
 have hc:l.pre.holds [] { args:=args }=true:=(pre_splitW hpre).2
 obtain ⟨d,r,rfl,h1,h2⟩:=hasAllW_cons hsh
 obtain rfl:=hasAllW_nil h2
 obtain ⟨xs,rfl,h3⟩:=hasW_list h1
 obtain ⟨ns,rfl⟩:=items_int h3
 have hlen:ns.length≤n:=by
  unfold OpenLaw.pre at hc
  have h4:(WTm.not (.lt (.lit (.int (n:Int))) (.len (.arg 0)))).holds [] { args:=[.list (ns.map .int)] }=true:=by
   have h4:=(holds_andW hc).1
   rw [hn] at h4
   exact h4
  have h5:=condW_of h4 (w_not (w_lt w_lit (w_len_list (w_arg rfl))))
  rw [List.length_map] at h5
  refine Nat.le_of_not_lt fun q=>?_
  have q':(n:Int)<((ns.length:Nat):Int):=by omega
  first
   | (rw [decide_eq_true q'] at h5;exact absurd h5 (by decide))
   | (simp at h5;omega)
 cases hwl with
 | cons w1 w2=>
  cases w2
  cases w1 with
  | list ho hall=>exact ⟨_,_,ns,rfl,rfl,ho,qK ns _ hall,hlen⟩
theorem zfU(l:OpenLaw)(args:List WData):l.row.toRowW.claim.post args (.bool true) args=true:=
 postW_of (r:=l.row.toRowW) (X:=(true == true))
  (show WShape.has [] (.bool true) .bool=true by first | rfl | decide | simp [WShape.has,WShape.arms,WShape.armsAll])
  (show (WTm.eq .res (.lit (.bool true))).value [] { args:=args,res:=some (.bool true),after:=args }=some (.bool (true == true)) from w_eq_bool (w_res rfl) w_lit) rfl
end Att
namespace L2
open PySem PySem.Spec PyProof.Rows
theorem zbn:∀ {vs:List Value} {ns:List Int},IntsAre vs ns->Vals (ns.map V.int) vs
 | _,_,.nil=>.nil
 | _,_,.cons n t h=>.cons ⟨t,rfl⟩ (zbn h)
noncomputable def zkq(H:Hp):Prop:=∀ b,H b=none∨∃ o xs,H b=some (.frz o (.lst xs))
theorem zie{P:Program}{w:World}{K:PySem.W.Frag}{mg mb:Str->Option Value}{CX:CXT}{k:Nat}{fa a:Addr}{fd:FuncData}{x:Str}{sp:Sp}{s₁:Shared}{vs:List Value}{ns:List Int}
  (KX:K.In s₁.heap)(hns:s₁.heap.Ns mainGlobals mg)(hb:s₁.heap.Ns builtinsNs mb)(hbb:∀ x:Str,x≠"__name__"->mb x=bootBuiltins x)(hlim:s₁.heap.NoLimit)(hg:s₁.gens=#[])
  (ha:s₁.heap.get? a=some { cls:=.type "list",data:=.seq vs.toArray })(hi:IntsAre vs ns)(hl:ns.length≤sizeLine)(hr:Room k callerA)
  (F:∀ base:Heap,K.In base->base.Ns mainGlobals mg->FnOk P w K mg base CX k fa fd [x] sp)(hbind:∀ (s:Shared) (u:Value),BindsTo s fd ⟨[u],[]⟩ [(x,u)])
  (hsp:∀ H:Hp,zkq H->SqL K H a (ns.map V.int)->sp [.ref a] H (fun v _=>v=.bl true) fun _ _ _=>False)
  (hCX:∀ H e s',CX [] H s₁ (fun _ _ _=>False) e s'->False):
  codeAny (model P w) callerA (.call (.ref fa) ⟨[.ref a],[]⟩) (fun r s'=>r=.ok (.ret (.bool true))/\OldK s₁.heap s'.heap/\s'.os=s₁.os/\AllBare s'.gens) s₁:=by
 have rv:=zbn hi
 have lenV:=hi.length
 -- from an abstract heap in which nothing but the script may be tracked
 have core:∀ H:Hp,zkq H->SqL K H a (ns.map V.int)->HOk P w H s₁.heap->(∀ b,H b≠none->b=a)->(H a≠none->K.lookup a=none)->
   codeAny (model P w) callerA (.call (.ref fa) ⟨[.ref a],[]⟩) (fun r s'=>r=.ok (.ret (.bool true))/\OldK s₁.heap s'.heap/\s'.os=s₁.os/\AllBare s'.gens) s₁:=by
  intro H hO hS hok hA hK
  have base_of:∀ {b:Addr} {o:Obj},s₁.heap.get? b=some o->H b=none->(zcy s₁.heap H).get? b=some o:=fun e n=>zin e n
  have noA:∀ {b:Addr} {o:Obj} {es:Array DictEntry} {ep:Nat},s₁.heap.get? b=some o->o.data=.dict es ep->H b=none:=fun {b o es ep} e d=>by
   cases q:H b with
   | none=>rfl
   | some u=>
    have e':b=a:=hA b (by rw [q];simp)
    subst e'
    rw [ha] at e;cases e
    have d':Data.seq vs.toArray _=Data.dict es ep:=d
    cases d'
  have nsK:∀ {b:Addr} {m:Str->Option Value},s₁.heap.Ns b m->(zcy s₁.heap H).Ns b m:=fun {b m} ⟨o,es,ep,e,d,r⟩=>⟨o,es,ep,base_of e (noA e d),d,r⟩
  have hKb:K.In (zcy s₁.heap H):=fun b o e=>base_of (KX b o e) (by
   cases q:H b with
   | none=>rfl
   | some u=>
    have e':b=a:=hA b (by rw [q];simp)
    subst e'
    rw [hK (by rw [q];simp)] at e;cases e)
  have hM:Mod K mg (zcy s₁.heap H):=⟨hKb,nsK hns,⟨mb,nsK hb,hbb⟩,let ⟨mc,h1,h2⟩:=hlim;⟨mc,nsK h1,h2⟩⟩
  have e0:Env0 P w K mg (zcy s₁.heap H) callerA [] s₁ H:=⟨rfl,hM,fun b o e=>zjS e,Nat.le_of_eq (zgj _ _),trivial,fun b hb=>absurd (show b ∈ ([]:List Addr) from hb) (by simp),hok,.of_eq hg⟩
  refine codeAny_mono ((F _ hKb (nsK hns)).run callerA [] s₁ H ⟨[.ref a],[]⟩ [.ref a] [.ref a] _ _ hr e0 (hbind s₁ (.ref a)) (.cons rfl .nil) (hsp H hO hS)) fun r s' h=>?_
  cases r with
  | error e=>exact (hCX H e s' h).elim
  | ok fl=>
   cases fl with
   | next=>exact False.elim h
   | brk=>exact False.elim h
   | cont=>exact False.elim h
   | ret u=>
    obtain ⟨v,H',os,bare,un,hok',r',q⟩:=h
    have q':v=.bl true:=q
    subst q'
    obtain rfl:u=Value.bool true:=r'
    refine ⟨rfl,OldK.of_keep fun b o e=>?_,os,bare⟩
    cases q:H b with
    | none=>exact un.keep b o e q (by intro z;exact absurd (show b ∈ ([]:List Addr) from z) (by simp)) (by simp)
    | some u=>
     rcases hO b with z | ⟨ob,xs,z⟩
     ·rw [q] at z;cases z
     ·have z2:=un.frzs b ob _ z
      obtain ⟨e1,_⟩:=hok b _ z
      obtain ⟨e2,_⟩:=hok' b _ z2
      rw [e] at e1;cases e1
      exact e2
 cases hk:K.lookup a with
 | some o=>
  -- the script is one of the module's own objects
  have e:=KX a o hk
  rw [ha] at e
  cases e
  refine core (fun _=>none) (fun _=>.inl rfl) (.inr ⟨_,vs.toArray,_,hk,rfl,rfl,rfl,by rw [List.size_toArray,lenV];exact hl,by simpa using rv⟩) (fun b u z=>by have z':(none:Option HO)=some u:=z;cases z') (fun b z=>absurd rfl z) fun z=>absurd rfl z
 | none=>
  refine core (fun b=>if b=a then some (.frz { cls:=.type "list",data:=.seq vs.toArray } (.lst (ns.map V.int))) else none) (fun b=>?_) (.inl (.inr ⟨{ cls:=.type "list",data:=.seq vs.toArray },if_pos rfl⟩)) (fun b u z=>?_) (fun b z=>?_) fun _=>hk
  ·by_cases hb:b=a
   ·exact .inr ⟨_,_,if_pos hb⟩
   ·exact .inl (if_neg hb)
  ·by_cases hb:b=a
   ·have z':=(if_pos hb).symm.trans z
    cases z'
    subst hb
    exact ⟨ha,by rw [List.length_map];exact hl,vs,_,rv,ha⟩
   ·have z':=(if_neg hb).symm.trans z
    cases z'
  ·by_cases hb:b=a
   ·exact hb
   ·exact absurd (if_neg hb) z
noncomputable def ud(s:Stmt):Arguments:=match s with
 | .FunctionDef _ a _ _ _ _ _ _ _ _=>a
 | _=>{ posonlyargs:=[],args:=[],vararg:=none,kwonlyargs:=[],kw_defaults:=[],kwarg:=none,defaults:=[] }
noncomputable def wf(s:Stmt):List Stmt:=match s with
 | .FunctionDef _ _ b _ _ _ _ _ _ _=>b
 | _=>[]
noncomputable def zS(s:Stmt):Scope:=match s with
 | .FunctionDef _ _ _ _ _ _ sc _ _ _=>sc
 | _=>{ kind:=.function,names:=[],isGenerator:=false,isCoroutine:=false }
noncomputable abbrev CX0:CXT:=fun _ _ _ _ _ _=>False
noncomputable abbrev E0:XK:=fun _ _ _=>False
theorem zmC{X:Cx}:zeP CX0 X E0:=fun _ _ _ _ _ _ _ h=>h.elim
structure Fun (K:PySem.W.Frag) (x qual:Str) (st:Stmt) (f:Addr) (fd:FuncData):Prop where
 ex:∃ (oc:Value) (od:Option Addr) (kV doc pm:Value) (an:Option Addr) (cdv ct:Value) (osl:Array (Option Value)),
  fd=PySem.W.fnOf x qual (ud st) (wf st) (zS st) .none kV doc pm an cdv ct/\K.lookup f=some ⟨oc,od,.func fd,osl⟩/\PySem.W.codeIn K cdv qual=true
 kp:PySem.W.keepIn K (.ref f)=true
section
variable {P:Program} {w:World} {K:PySem.W.Frag} {mg:Str->Option Value} {base:Heap}
theorem Fun.ok{x qual:Str}{st:Stmt}{f:Addr}{fd:FuncData}{N ps:List Str}{k:Nat}{sp:Sp}(F:Fun K x qual st f fd)(S:FnScope N ps (zS st))(len:∀ vs H Q E,sp vs H Q E->vs.length=ps.length)
  (hbody:∀ (cdv:Value) (A:Around) (outer:List Env) (s:Shared) (H:Hp) (vs:List V) (Q:VK) (E:XK),Room k (A.deeper (envOfC qual (zS st) s.heap.objs.size f cdv))->sp vs H Q E->
   ∃ t,PSs (zdH CX0 P w K mg base N qual (zS st) f cdv A outer s H E).nox (wf st) t/\t { nx:=fun _ H'=>Q .non H',rt:=Q } (start N vs) H):FnOk P w K mg base CX0 (k+1) f fd ps sp:=by
 obtain ⟨oc,od,kV,doc,pm,an,cdv,ct,osl,rfl,lk,hcd⟩:=F.ex
 refine zmR lk hcd S len fun A outer s H vs Q E hr hsp=>?_
 obtain ⟨t,h,q⟩:=hbody cdv A outer s H vs Q E hr hsp
 exact ⟨t,h.nox,q⟩
theorem Fun.binds{x qual:Str}{st:Stmt}{f:Addr}{fd:FuncData}{ps:List Str}(F:Fun K x qual st f fd)
  (h:∀ (kV doc pm:Value) (an:Option Addr) (cdv ct:Value) (us:List Value),us.length=ps.length->bindArgs (PySem.W.fnOf x qual (ud st) (wf st) (zS st) .none kV doc pm an cdv ct) ⟨us,[]⟩=pure (ps.zip us)):Binds K fd ps []:=by
 obtain ⟨oc,od,kV,doc,pm,an,cdv,ct,osl,rfl,lk,hcd⟩:=F.ex
 exact .all (h kV doc pm an cdv ct)
theorem zis{x qual:Str}{st:Stmt}{f:Addr}{oc:Value}{od an:Option Addr}{osl:Array (Option Value)}{kV doc pm cdv ct:Value}(l:K.lookup f=some ⟨oc,od,.func (PySem.W.fnOf x qual (ud st) (wf st) (zS st) .none kV doc pm an cdv ct),osl⟩)
  (c:PySem.W.codeIn K cdv qual=true)(k:PySem.W.keepIn K (.ref f)=true):Fun K x qual st f (PySem.W.fnOf x qual (ud st) (wf st) (zS st) .none kV doc pm an cdv ct):=⟨⟨oc,od,kV,doc,pm,an,cdv,ct,osl,rfl,l,c⟩,k⟩
end
theorem ye{A:Around}{k:Nat}(hr:Room k A):A.units+1<cLine:=Nat.lt_of_le_of_lt (Nat.add_le_add_left (by decide:1≤64) _) hr.units
section
variable {X:Cx}
theorem pv(i:Nat){x:Str}{pos:Pos}(hN:X.N[i]?=some x:=by rfl)(hv:Vis X.env.scope x:=by first | exact Or.inl rfl | exact Or.inr (Or.inl rfl) | exact Or.inr (Or.inr rfl))(hd:(x == ("__debug__":Str))=false:=by decide)
  (hcd:(x == ("__classdict__":Str))=false:=by decide):PE X (.Name x pos) (uJ i):=zlg hN hv hd hcd
theorem call_lenD:CallR X (.builtin "len") (fun xs H Q=>∃ a kvs,xs=[V.ref a]/\H a=some (.dK kvs)/\Q (.int kvs.length) H):=by
 intro pins s σ H xs us Q I r h
 obtain ⟨a,kvs,rfl,ha,q⟩:=h
 obtain ⟨u,rfl,ru⟩:=zbo r
 cases ru
 exact znc I (.inl ha) fun t s' I'=>⟨.int kvs.length,H,I',⟨t,rfl⟩,q⟩
end
noncomputable def Same(H H':Hp):Prop:=∀ b o,H b=some o->H' b=some o
theorem Same.refl(H:Hp):Same H H:=fun _ _ h=>h
theorem Same.trans{H H1 H2:Hp}(a:Same H H1)(b:Same H1 H2):Same H H2:=fun c o h=>b c o (a c o h)
theorem Same.free{H H':Hp}(e:Same H H'){l:Addr}(h:H' l=Option.none):H l=Option.none:=by
 cases q:H l with
 | none=>rfl
 | some o=>
  rw [e l o q] at h
  cases h
theorem Same.seq{K:PySem.W.Frag}{H H':Hp}{a:Addr}{xs:List V}(e:Same H H')(h:SqL K H a xs):SqL K H' a xs:=by
 rcases h with (h | ⟨o,h⟩) | h
 ·exact .inl (.inl (e _ _ h))
 ·exact .inl (.inr ⟨o,e _ _ h⟩)
 ·exact .inr h
theorem zaF{α β:Type}{f:α->β->Sem (ForInStep β)}(g:β->α->β):∀ (l:List α) (c:β),(∀ x ∈ l,∀ c,f x c=pure (.yield (g c x)))->forIn l c f=pure (l.foldl g c)
 | [],_,_=>rfl
 | x::l,c,h=>by
  rw [List.forIn_cons,h x List.mem_cons_self,pure_bind]
  exact zaF g l _ fun y hy=>h y (List.mem_cons_of_mem _ hy)
noncomputable def wX(cells:List (Str × Addr))(cs:List (Str × Addr))(y:Str × NameKind):List (Str × Addr):=
 if (y.2 == NameKind.free)=true then (match cells.lookup y.1 with | some c=>(y.1,c)::cs | none=>cs) else cs
noncomputable def zeI(scope:Scope)(cells:List (Str × Addr)):List (Str × Addr):=scope.names.foldl (wX cells) []
theorem zaU{scope:Scope}{env:Env}(h:∀ y ∈ scope.names,(y.2 == NameKind.free)=true->∃ c,env.cells.lookup y.1=some c):closureFor scope env=pure (zeI scope env.cells):=by
 simp only [closureFor]
 rw [zaF (wX env.cells) _ _ (fun y hy c=>?_)]
 ·rfl
 ·obtain ⟨n,k⟩:=y
  by_cases e:(k == NameKind.free)=true
  ·obtain ⟨a,ha⟩:=h _ hy e
   have ha':List.lookup n env.cells=some a:=ha
   simp [wX,cellOf,ha',e]
  ·simp [wX,e]
theorem yJ{x n:Str}{α:Type}{c:α}{r:List (Str × α)}:List.lookup x ((n,c)::r)=if x=n then some c else r.lookup x:=by
 rw [List.lookup_cons]
 by_cases e:x=n
 ·subst e;simp
 ·rw [if_neg e]
  have:(x == n)=false:=by simpa using e
  rw [this]
theorem zeH{cells:List (Str × Addr)}:∀ (names:List (Str × NameKind)) (acc:List (Str × Addr)),(∀ x c,acc.lookup x=some c->cells.lookup x=some c)->∀ x c,(names.foldl (wX cells) acc).lookup x=some c->cells.lookup x=some c
 | [],_,h=>h
 | y::r,acc,h=>by
  refine zeH r (wX cells acc y) fun x c e=>?_
  unfold wX at e
  split at e
  ·split at e
   ·rename_i c' hc'
    rw [yJ] at e
    split at e
    ·rename_i hx;cases e;rw [hx];exact hc'
    ·exact h x c e
   ·exact h x c e
  ·exact h x c e
theorem zfB{cells:List (Str × Addr)}{x:Str}:∀ (names:List (Str × NameKind)) (acc:List (Str × Addr)),(acc.lookup x).isSome=true->((names.foldl (wX cells) acc).lookup x).isSome=true
 | [],_,h=>h
 | y::r,acc,h=>by
  refine zfB r (wX cells acc y) ?_
  unfold wX
  split
  ·split
   ·rw [yJ];split
    ·rfl
    ·exact h
   ·exact h
  ·exact h
theorem ziO{cells:List (Str × Addr)}{x:Str}(hc:(cells.lookup x).isSome=true):∀ (names:List (Str × NameKind)) (acc:List (Str × Addr)) (k:NameKind),(k == NameKind.free)=true->(x,k) ∈ names->((names.foldl (wX cells) acc).lookup x).isSome=true
 | [],_,_,_,h=>nomatch h
 | y::r,acc,k,hk,h=>by
  rcases List.mem_cons.mp h with e | h
  ·refine zfB r (wX cells acc y) ?_
   subst e
   obtain ⟨c,hc⟩:=Option.isSome_iff_exists.mp hc
   unfold wX
   rw [if_pos hk]
   simp [hc]
  ·exact ziO hc r _ k hk h
theorem kH{env:Env}{x:Str}{k:NameKind}:∀ {names:List (Str × NameKind)},
  (names.map fun (n,k)=>if (k == NameKind.free && env.scope.kind == .function && env.kindOf n == some .cell) then (n,NameKind.cell) else (n,k)).lookup x=some k->∃ k0,(x,k0) ∈ names/\(k=k0∨(k0 == NameKind.free)=true)
 | [],h=>by simp at h
 | (n,j)::r,h=>by
  rw [List.map_cons] at h
  by_cases hx:x=n
  ·subst hx
   by_cases hc:(j == NameKind.free && env.scope.kind == .function && env.kindOf x == some .cell)=true
   ·refine ⟨j,List.mem_cons_self,.inr ?_⟩
    simp only [Bool.and_eq_true] at hc
    exact hc.1.1
   ·dsimp only at h
    rw [if_neg hc,yJ,if_pos rfl] at h
    cases h
    exact ⟨k,List.mem_cons_self,.inl rfl⟩
  ·have h':(r.map fun (n,k)=>if (k == NameKind.free && env.scope.kind == .function && env.kindOf n == some .cell) then (n,NameKind.cell) else (n,k)).lookup x=some k:=by
    dsimp only at h
    by_cases hc:(j == NameKind.free && env.scope.kind == .function && env.kindOf n == some .cell)=true
    ·rw [if_pos hc,yJ,if_neg hx] at h;exact h
    ·rw [if_neg hc,yJ,if_neg hx] at h;exact h
   obtain ⟨k0,h1,h2⟩:=kH h'
   exact ⟨k0,List.mem_cons_of_mem _ h1,h2⟩
theorem kI{env:Env}{x:Str}:∀ {names:List (Str × NameKind)},names.lookup x=some .free->
  (names.map fun (n,k)=>if (k == NameKind.free && env.scope.kind == .function && env.kindOf n == some .cell) then (n,NameKind.cell) else (n,k)).lookup x=some .cell∨
  (names.map fun (n,k)=>if (k == NameKind.free && env.scope.kind == .function && env.kindOf n == some .cell) then (n,NameKind.cell) else (n,k)).lookup x=some .free
 | [],h=>by simp at h
 | (n,j)::r,h=>by
  rw [List.map_cons]
  dsimp only
  by_cases hx:x=n
  ·subst hx
   rw [yJ,if_pos rfl] at h
   cases h
   by_cases hc:(NameKind.free == NameKind.free && env.scope.kind == .function && env.kindOf x == some .cell)=true
   ·rw [if_pos hc,yJ,if_pos rfl];exact .inl rfl
   ·rw [if_neg hc,yJ,if_pos rfl];exact .inr rfl
  ·rw [yJ,if_neg hx] at h
   have ih:=kI (env:=env) h
   by_cases hc:(j == NameKind.free && env.scope.kind == .function && env.kindOf n == some .cell)=true
   ·rw [if_pos hc,yJ,if_neg hx];exact ih
   ·rw [if_neg hc,yJ,if_neg hx];exact ih
noncomputable def cN(own:List Str)(js:List Nat)(N:List Str):List Str:=own++js.map fun j=>N.getD j ""
noncomputable def cS(own:List Str)(js:List Nat)(σ:St):St:=own.map (fun _=>none)++js.map fun j=>(σ[j]?).join
noncomputable def xK (X : Cx) (own : List Str) (js : List Nat) (scope : Scope) (C : Addr) (s₀ : Shared) (H₀ : Hp) (fp : List Addr) : Cx :=
  { prog := X.prog, w := X.w, K := X.K, mg := X.mg, base := X.base, A := X.A, N := cN own js X.N, s₀ := s₀, H₀ := H₀, env := compEnvC scope (zeI scope X.env.cells) C X.env, outer := X.stack, stack := X.stack,
    ex := fp, fn := fun _ => false, calm := X.calm, pn := [], xe := fun _ _ => False }
noncomputable def zbI(js:List Nat)(scope:Scope)(kindOf:Str->Option NameKind)(N:List Str):Bool:=
 (scope.kind == .function) && scope.names.all (fun y=>!(y.2 == .cell) && (!(y.2 == .free) || kindOf y.1 == some .cell || kindOf y.1 == some .free) && (!(y.2 == .local) || scope.names.lookup y.1 == some .local)) &&
  js.all fun j=>scope.names.lookup (N.getD j "") == some .free
structure CompOk (js:List Nat) (scope:Scope) (kindOf:Str->Option NameKind) (N:List Str):Prop where
 kind:scope.kind=.function
 nocell:∀ y ∈ scope.names,y.2≠.cell
 free:∀ y ∈ scope.names,(y.2 == NameKind.free)=true->kindOf y.1=some .cell∨kindOf y.1=some .free
 loc:∀ y ∈ scope.names,y.2=.local->scope.names.lookup y.1=some .local
 used:∀ j ∈ js,scope.names.lookup (N.getD j "")=some .free
theorem zbH{js:List Nat}{scope:Scope}{kindOf:Str->Option NameKind}{N:List Str}(h:zbI js scope kindOf N=true):CompOk js scope kindOf N:=by
 unfold zbI at h
 simp only [Bool.and_eq_true,List.all_eq_true] at h
 obtain ⟨⟨h1,h2⟩,h3⟩:=h
 refine ⟨by simpa using h1,fun y hy e=>?_,fun y hy e=>?_,fun y hy e=>?_,fun j hj=>by simpa using h3 j hj⟩
 ·have:=(h2 y hy).1.1
  rw [e] at this
  exact absurd this (by decide)
 ·have:=(h2 y hy).1.2
  rw [e] at this
  simpa using this
 ·have:=(h2 y hy).2
  rw [e] at this
  simpa using this
theorem zas{α:Type}{x:Str}{a:α}:∀ {l:List (Str × α)},l.lookup x=some a->(x,a) ∈ l
 | [],h=>by simp at h
 | (n,c)::r,h=>by
  rw [yJ] at h
  split at h
  ·rename_i e;cases h;subst e;exact List.mem_cons_self
  ·exact List.mem_cons_of_mem _ (zas h)
section
variable {X:Cx} {pins:List (Addr × Obj)} {σ:St} {H:Hp} {s:Shared} {own:List Str} {js:List Nat} {scope:Scope}
theorem zeG {C : Addr} {h₁ : Heap} {t : Nat} {fp : List Addr} {m0 : Str → Option Value} (ok : CompOk js scope X.env.kindOf X.N) (I : Inv X pins σ H s) (hC : C = s.heap.objs.size) (hns : h₁.Ns C m0)
    (keep : ∀ b o, s.heap.get? b = some o → h₁.get? b = some o) (hf : ∀ b ∈ fp, jT X pins H b) (hlt : ∀ b ∈ fp, b < s.heap.objs.size) :
    Inv (xK X own js scope C s H fp) [] (cS own js σ) H { s with heap := h₁, toks := t } := by
  have sub := zeH (cells := X.env.cells) scope.names [] (by simp)
  have has : ∀ x k0, (x, k0) ∈ scope.names → (k0 == NameKind.free) = true → ∃ c, (zeI scope X.env.cells).lookup x = some c := fun x k0 m hk => by
    obtain ⟨c, hc⟩ := I.ok.has x (ok.free _ m hk)
    exact Option.isSome_iff_exists.mp (ziO (by rw [hc]; rfl) scope.names [] k0 hk m)
  refine ⟨⟨I.ok.mod, ok.kind, I.ok.glob, I.ok.blt, Nat.le_of_eq hC.symm, fun x y c hx hy => I.ok.inj x y c (sub x c hx) (sub y c hy), fun x hx => ?_, fun x c h => absurd (show false = true from h) (by decide), I.ok.hd, I.ok.frames, .inl rfl, fun b hb => ⟨?_, fun x c hc => (hf b hb).2.2.2.2.1 x c (sub x c hc)⟩, I.bs, Nat.le_trans I.ok.bsz I.sz, fun b o e hb => ?_, fun b hb hb2 => ?_, I.stack, I.stkFree⟩,
    rfl, I.bare, Un.kept keep, ⟨m0, hns, fun i x v e1 e2 e3 => ?_⟩, fun x c e => ?_, ?_, fun x c e => I.freeC x c (sub x c e), (fun p hp => nomatch hp), I.hok.kept keep, ?_⟩
  · have hx' : ∃ k, (k = NameKind.cell ∨ k = NameKind.free) ∧ (relabel scope X.env).names.lookup x = some k := by
      rcases hx with hx | hx
      · exact ⟨_, .inl rfl, hx⟩
      · exact ⟨_, .inr rfl, hx⟩
    obtain ⟨k, hk, hl⟩ := hx'
    obtain ⟨k0, m, e⟩ := kH hl
    have hfree : (k0 == NameKind.free) = true := by
      rcases e with e | e
      · subst e
        rcases hk with hk | hk
        · exact absurd hk (ok.nocell _ m)
        · rw [hk]; rfl
      · exact e
    exact has x k0 m hfree
  · rw [hC]; exact Nat.ne_of_lt (hlt b hb)
  · rcases (hf b hb).2.2.2.1 with z | z
    · exact I.ok.noex b o e z
    · exact absurd (Nat.lt_of_lt_of_le (Heap.lt_size e) (Nat.le_trans I.ok.bsz z)) (Nat.lt_irrefl _)
  · rcases List.mem_cons.mp (I.stkSub b hb2) with e | e
    · exact (hf b hb).2.1 e
    · exact (hf b hb).2.2.1 e
  · have key : ∃ j, j ∈ js ∧ x = X.N.getD j "" ∧ σ[j]? = some (some v) := by
      have e1 : (own ++ js.map fun j => X.N.getD j "")[i]? = some x := e1
      have e2 : (own.map (fun _ => none) ++ js.map fun j => (σ[j]?).join)[i]? = some (some v) := e2
      by_cases hi : i < own.length
      · rw [List.getElem?_append_left (by simpa using hi), List.getElem?_map] at e2
        cases q : own[i]? with
        | none => rw [q] at e2; simp at e2
        | some y => rw [q] at e2; simp at e2
      · have hi' : own.length ≤ i := Nat.le_of_not_lt hi
        rw [List.getElem?_append_right hi', List.getElem?_map] at e1
        rw [List.getElem?_append_right (by simpa using hi'), List.getElem?_map, List.length_map] at e2
        cases q : js[i - own.length]? with
        | none => rw [q] at e1; simp at e1
        | some j =>
          rw [q] at e1 e2
          refine ⟨j, List.mem_of_getElem? q, ?_, ?_⟩
          · have := Option.some.inj e1; exact this.symm
          · have e2' : (σ[j]?).join = some v := Option.some.inj e2
            cases z : σ[j]? with
            | none => rw [z] at e2'; simp at e2'
            | some w => rw [z] at e2'; have : w = some v := by simpa using e2'
                        rw [this]
    obtain ⟨j, hj, hx, hσ⟩ := key
    have hu := ok.used j hj
    rw [← hx] at hu
    have hm := zas hu
    obtain ⟨m, hn, hl⟩ := I.loc
    have hjl : j < X.N.length := by rw [← I.len]; exact (List.getElem?_eq_some_iff.mp hσ).1
    have hN : X.N[j]? = some x := by
      rw [hx, List.getElem?_eq_getElem hjl]
      simp [List.getD, List.getElem?_eq_getElem hjl]
    have kx := ok.free _ hm rfl
    obtain ⟨u, r, l⟩ := hl j x v hN hσ (.inr kx)
    refine ⟨u, r, .inr ⟨kI hu, ?_⟩⟩
    rcases l with ⟨hk, _⟩ | ⟨hk, c, hc, cell⟩
    · have kx' : X.env.kindOf x = some .cell ∨ X.env.kindOf x = some .free := kx
      rw [hk] at kx'
      rcases kx' with z | z <;> cases z
    · obtain ⟨c', hc'⟩ := has x _ hm rfl
      have := sub x c' hc'
      rw [hc] at this; cases this
      obtain ⟨o, ho, hd⟩ := cell
      exact ⟨c, hc', o, keep _ _ ho, hd⟩
  · obtain ⟨v, o, ho, hd⟩ := I.cell x c (sub x c e)
    exact ⟨v, o, keep _ _ ho, hd⟩
  · show H C = none
    rw [hC]; exact I.hok.fresh (Nat.le_refl _)
  · show (own.map (fun _ => none) ++ js.map fun j => (σ[j]?).join).length = (own ++ js.map fun j => X.N.getD j "").length
    simp
theorem zgy{C:Addr}{s':Shared}{p2:List (Addr × Obj)}{σ2:St}{H2:Hp}{fp:List Addr}(I:Inv X pins σ H s)(hf:∀ b ∈ fp,jT X pins H b)(J:Inv (xK X own js scope C s H fp) p2 σ2 H2 s'):Inv X pins σ H2 s':=
 I.call' J.os J.base J.hok J.bare fun b hb=>⟨(hf b hb).2.2.2.1,(hf b hb).2.1,(hf b hb).2.2.2.2.1,(hf b hb).2.2.2.2.2⟩
end
noncomputable def PTs(X:Cx)(ifs:List Expr)(t:TT):Prop:=
 ∀ (pins:List (Addr × Obj)) (s:Shared) (σ:St) (H:Hp) (Q:Bool->Hp->Prop),Inv X pins σ H s->t σ H Q->
  wpAny (model X.prog X.w) X.A (forIn ifs true fun c r=>if r=true then do let ok ← isTrue c X.env (eval c X.env);pure (ForInStep.yield ok) else pure (ForInStep.yield r)) (TP X pins σ Q) X.xe s
noncomputable def znD:TT:=fun _ H Q=>Q true H
theorem zjy{X:Cx}:PTs X [] znD:=fun _ _ _ H _ I h=>wpAny_tests_nil ⟨H,I,h⟩
theorem zjx{X:Cx}{c:Expr}{t:TT}(h:PT X c t):PTs X [c] t:=fun pins s σ H Q I hw=>wpAny_tests_one (h pins s σ H Q I hw)
theorem zgx{prog:Program}{w:World}{A:Around}{R:Result->Shared->Prop}{s:Shared}{elt target iter:Expr}{ifs:List Expr}{scope:Scope}{pos:Pos}{it acc:Value}{env:Env}(I:Nat->Shared->Prop)
  (turn:∀ n s,I n s->wpAny (model prog w) A (pyNext it) (fun r s₁=>match r with
   | none=>R (.ok .next) s₁
   | some v=>wpAny (model prog w) A (letOwnedTupleGo target it v) (fun _ s₁'=>wpAny (model prog w) A (assign target env v) (fun _ s₂=>
     wpAny (model prog w) A (forIn ifs true fun c r=>if r=true then do let ok ← isTrue c env (eval c env);pure (ForInStep.yield ok) else pure (ForInStep.yield r)) (fun ok s₃=>
      if ok=true then wpAny (model prog w) A (eval elt env) (fun x s₄=>
       wpAny (model prog w) A (call (.builtin "list.append") [acc,x]) (fun _ s₅=>∃ m,m<n/\I m s₅) (fun _ _=>False) s₄) (fun _ _=>False) s₃
      else ∃ m,m<n/\I m s₃) (fun _ _=>False) s₂) (fun _ _=>False) s₁') (fun _ _=>False) s₁) (fun _ _=>False) s)
  (n:Nat)(h:I n s):codeAny (model prog w) A (.compLoop (.ListComp elt [⟨target,iter,ifs,0⟩] scope pos) 0 it acc env) R s:=by
 refine codeAny_loop rfl I (fun n s hI=>?_) n h
 show wpAny _ A ((compTurn (.ListComp elt [⟨target,iter,ifs,0⟩] scope pos) 0 it acc env).onRaise (fun x=>do noteFrame x env;theTreesLotGoes x)) _ _ s
 refine wpAny_noted ?_
 rw [compTurn_list]
 refine wpAny_bind (wpAny_standAt (wpAny_bind (wpAny_mono (turn n s hI) (fun r s₁ h₁=>?_) fun _ _ h'=>h'.elim)))
 cases r with
 | none=>exact wpAny_pure h₁
 | some v=>
  refine wpAny_bind (wpAny_mono h₁ (fun _ s₁' h₁'=>?_) fun _ _ h'=>h'.elim)
  refine wpAny_bind (wpAny_mono h₁' (fun _ s₂ h₂=>wpAny_bind (wpAny_mono h₂ (fun ok s₃ h₃=>?_) fun _ _ h'=>h'.elim)) fun _ _ h'=>h'.elim)
  cases ok with
  | false=>exact wpAny_pure ⟨rfl,h₃⟩
  | true=>
   exact wpAny_bind (wpAny_bind (wpAny_mono h₃ (fun x s₄ h₄=>wpAny_bind (wpAny_mono h₄ (fun _ s₅ h₅=>wpAny_pure (wpAny_pure ⟨rfl,h₅⟩)) fun _ _ h'=>h'.elim)) fun _ _ h'=>h'.elim))
noncomputable def zmn(t:TT)(σ:St)(H:Hp)(Q:Bool->Hp->Prop):Prop:=t σ H Q
noncomputable def zmp(t:TE)(σ:St)(H:Hp)(Q:VK):Prop:=t σ H Q
noncomputable def zmo(g:TG)(v:V)(σ:St)(H:Hp)(Q:St->Hp->Prop):Prop:=g v σ H Q
noncomputable def zne(Q:VK)(D:Addr)(H:Hp):Prop:=Q (.ref D) H
noncomputable def zgX(wi:TI)(own:List Str)(js:List Nat)(g:Addr->Shared->Hp->List Addr->TG)(tt:Addr->Shared->Hp->List Addr->TT)(te:Addr->Shared->Hp->List Addr->TE):TE:=fun σ H Q=>wi σ H fun J H1=>∀ C s₀ H₀ fp D,H1 D=none->
 ∃ W:Nat->Nat->St->Hp->Prop,(∃ m,W 0 m (cS own js σ) (upd H1 D (.lst [])))/\∀ i m σ1 H2,W i m σ1 H2->
  (J.stop i H2/\zne Q D H2)∨(J.go i H2/\∀ x H3,J.yld i H2 x H3->zmo (g C s₀ H₀ fp) x σ1 H3 fun σ2 H4=>zmn (tt C s₀ H₀ fp) σ2 H4 fun b H5=>
   if b=true then zmp (te C s₀ H₀ fp) σ2 H5 fun y H6=>∃ ys,H6 D=some (.lst ys)/\ys.length<sizeLine/\∃ m',m'<m/\W (i+1) m' σ2 (upd H6 D (.lst (ys++[y]))) else ∃ m',m'<m/\W (i+1) m' σ2 H5)
section
variable {X:Cx} {own:List Str} {js:List Nat} {scope:Scope} {tg elt iter:Expr} {ifs:List Expr} {pos:Pos} {g:Addr->Shared->Hp->List Addr->TG} {tt:Addr->Shared->Hp->List Addr->TT} {te:Addr->Shared->Hp->List Addr->TE}
theorem zaS{pins:List (Addr × Obj)}{σ:St}{H1:Hp}{s2:Shared}{it:Addr}{fp:List Addr}{tn:Nat->Heap->Prop}{J:It}{E:Value->Shared->Prop}{RR:Value->Addr->Result->Shared->Prop}{Qv:V->Hp->Prop}
  (hc:X.calm=true)(ok:CompOk js scope X.env.kindOf X.N)(hg:∀ C s₀ H₀ fp,PG (xK X own js scope C s₀ H₀ fp) tg (g C s₀ H₀ fp))(ht:∀ C s₀ H₀ fp,PTs (xK X own js scope C s₀ H₀ fp) ifs (tt C s₀ H₀ fp))(he:∀ C s₀ H₀ fp,PE (xK X own js scope C s₀ H₀ fp) elt (te C s₀ H₀ fp))
  (I:Inv X pins σ H1 s2)(T:Turn X.prog X.w X.K tg J fp it tn)(st:tn 0 s2.heap)(hf:∀ b ∈ fp,jT X pins H1 b)
  (h:∀ C s₀ H₀ fp D,H1 D=none->∃ W:Nat->Nat->St->Hp->Prop,(∃ m,W 0 m (cS own js σ) (upd H1 D (.lst [])))/\∀ i m σ1 H2,W i m σ1 H2->
   (J.stop i H2/\zne Qv D H2)∨(J.go i H2/\∀ x H3,J.yld i H2 x H3->zmo (g C s₀ H₀ fp) x σ1 H3 fun σ2 H4=>zmn (tt C s₀ H₀ fp) σ2 H4 fun b H5=>
    if b=true then zmp (te C s₀ H₀ fp) σ2 H5 fun y H6=>∃ ys,H6 D=some (.lst ys)/\ys.length<sizeLine/\∃ m',m'<m/\W (i+1) m' σ2 (upd H6 D (.lst (ys++[y]))) else ∃ m',m'<m/\W (i+1) m' σ2 H5))
  (hRR:∀ D C H2 s' oC m,s'.heap.get? C=some oC->s'.heap.Ns C m->(∀ v,oC.data≠.cell v)->jT X pins H2 C->Inv X pins σ H2 s'->Qv (.ref D) H2->RR (.ref D) C (.ok .next) s'):
  wpAny (model X.prog X.w) X.A (newList []) (fun acc s₃=>wpAny (model X.prog X.w) X.A (newFunctionEnv scope X.env.globals (zeI scope X.env.cells) [] X.env.qual none .none (some X.env)) (fun cenv s₄=>
   codeAny (model X.prog X.w) X.A (.compStart (.ListComp elt [⟨tg,iter,ifs,0⟩] scope pos) 0 (.ref it) acc { cenv with scope:=relabel scope X.env }) (RR acc cenv.locals) s₄) E s₃) E s2:=by
 refine wpAny_newObj_type (wpAny_newFunctionEnv ok.nocell (by intro y hy;simp at hy) (fun h₁ hns₁ hsb₁=>?_) ok.kind)
 dsimp only at hns₁ hsb₁ ⊢
 have hD:H1 s2.heap.objs.size=none:=I.hok.fresh (Nat.le_refl _)
 have I3:Inv X pins σ (upd H1 s2.heap.objs.size (.lst [])) { s2 with heap:=s2.heap.push { cls:=.type "list",dict:=none,data:=.seq ([]:List Value).toArray } }:=
  I.laid (t':=s2.toks) (fun b u e=>Heap.get?_push_of_some _ e) (Nat.le_refl _) ⟨Nat.zero_le _,[],0,.nil,Heap.get?_push_size _ rfl⟩
 have hlt2:∀ b ∈ fp,b<s2.heap.objs.size:=fun b hb=>let ⟨o,e,_⟩:=T.obj 0 _ st b hb;Heap.lt_size e
 generalize hH2:s2.heap.push { cls:=.type "list",dict:=none,data:=.seq ([]:List Value).toArray }=heap2 at hns₁ hsb₁ I3 ⊢
 have sz2:heap2.objs.size=s2.heap.objs.size+1:=by rw [← hH2,Heap.size_push]
 have keep12:∀ b o,s2.heap.get? b=some o->heap2.get? b=some o:=fun b o e=>hH2 ▸ Heap.get?_push_of_some _ e
 have keep:∀ b o,heap2.get? b=some o->h₁.get? b=some o:=fun b o e=>hsb₁.extBut b o (Nat.ne_of_lt (Heap.lt_size e)) (Heap.get?_push_of_some _ e)
 have hf3:∀ b ∈ fp,jT X pins (upd H1 s2.heap.objs.size (.lst [])) b:=fun b hb=>⟨by rw [zk (Nat.ne_of_lt (hlt2 b hb))];exact (hf b hb).1,(hf b hb).2⟩
 have hlt3:∀ b ∈ fp,b<heap2.objs.size:=fun b hb=>by rw [sz2];exact Nat.lt_succ_of_lt (hlt2 b hb)
 generalize hDd:s2.heap.objs.size=D at *
 have I4:=zeG (own:=own) (js:=js) (t:=s2.toks+([]:List (Str × Value)).length) ok I3 rfl hns₁ keep hf3 hlt3
 have st4:tn 0 h₁:=T.keep 0 _ _ st fun b _ o e=>keep b o (keep12 b o e)
 obtain ⟨W,⟨m0,w0⟩,turn⟩:=h heap2.objs.size { s2 with heap:=heap2 } (upd H1 D (.lst [])) fp D hD
 -- facts about the block's frame
 have hXl:X.env.locals<heap2.objs.size:=I3.lt
 have loop:∀ s₃:Shared,s₃={ s2 with heap:=h₁,toks:=s2.toks+([]:List (Str × Value)).length }->
   codeAny (model X.prog X.w) X.A (.compLoop (.ListComp elt [⟨tg,iter,ifs,0⟩] scope pos) 0 (.ref it) (.ref D) (compEnvC scope (zeI scope X.env.cells) heap2.objs.size X.env)) (RR (.ref D) heap2.objs.size) s₃:=by
  rintro s₃ rfl
  generalize hXX:xK X own js scope heap2.objs.size { s2 with heap:=heap2 } (upd H1 D (.lst [])) fp=X' at I4
  have eP:X'.prog=X.prog:=by rw [← hXX];rfl
  have eW:X'.w=X.w:=by rw [← hXX];rfl
  have eK:X'.K=X.K:=by rw [← hXX];rfl
  have eA:X'.A=X.A:=by rw [← hXX];rfl
  have eC:X'.calm=true:=by rw [← hXX];exact hc
  have eE:X'.env=compEnvC scope (zeI scope X.env.cells) heap2.objs.size X.env:=by rw [← hXX];rfl
  have eL:X'.env.locals=heap2.objs.size:=by rw [← hXX];rfl
  have eX:X'.xe=fun _ _=>False:=by rw [← hXX];rfl
  have eex:X'.ex=fp:=by rw [← hXX];rfl
  have epn:X'.pn=[]:=by rw [← hXX];rfl
  have efs:X'.fs=frs X.stack:=by rw [← hXX];rfl
  have ecl:X'.env.cells=zeI scope X.env.cells:=by rw [← hXX];rfl
  have sub:=zeH (cells:=X.env.cells) scope.names [] (by simp)
  have stat:∀ {H':Hp},(∀ b ∈ fp,H' b=none)->∀ b ∈ fp,jT X' [] H' b:=fun {H'} hn b hb=>by
   refine ⟨hn b hb,by rw [eL];exact Nat.ne_of_lt (hlt3 b hb),?_,.inl (by rw [eex];exact hb),fun x c hc=>?_,fun p hp=>?_⟩
   ·rw [efs]
    intro hb2
    rcases List.mem_cons.mp (I3.stkSub b hb2) with e | e
    ·exact (hf3 b hb).2.1 e
    ·exact (hf3 b hb).2.2.1 e
   ·rw [ecl] at hc
    exact (hf3 b hb).2.2.2.2.1 x c (sub x c hc)
   ·rw [epn] at hp;exact nomatch hp
  have hg':=hg heap2.objs.size { s2 with heap:=heap2 } (upd H1 D (.lst [])) fp
  have ht':=ht heap2.objs.size { s2 with heap:=heap2 } (upd H1 D (.lst [])) fp
  have he':=he heap2.objs.size { s2 with heap:=heap2 } (upd H1 D (.lst [])) fp
  rw [hXX] at hg' ht' he'
  rw [← eE]
  refine zgx (fun n s'=>∃ i σ' H',Inv X' [] σ' H' s'/\tn i s'.heap/\(∀ b ∈ fp,H' b=none)/\W i n σ' H') ?_ m0 ⟨0,_,_,I4,st4,fun b hb=>(hf3 b hb).1,w0⟩
  rintro n s3 ⟨i,σ3,H3,I3',st3,fr3,w3⟩
  rcases turn i n σ3 H3 w3 with ⟨stop,qn⟩ | ⟨go,step⟩
  ·have:=T.done X' eP eW eK eC i [] s3 σ3 H3 (fun _ _=>False) I3' (stat fr3) st3 stop
   rw [eA] at this
   refine thn this fun r s4 ⟨hr,I5⟩=>?_
   subst hr
   obtain ⟨m,hn,_⟩:=I5.loc
   obtain ⟨oC,es,ep,hoC,hd,_⟩:=id hn
   rw [eL] at hoC hn
   have hback:Inv X pins σ H3 s4:=zgy I3 hf3 (hXX ▸ I5)
   refine hRR _ _ H3 s4 oC m hoC hn (fun v z=>by rw [hd] at z;cases z) ?_ hback qn
   have hfree:H3 heap2.objs.size=none:=by have:=I5.free;rw [eL] at this;exact this
   refine ⟨hfree,Nat.ne_of_gt hXl,I3.nofs (Nat.le_refl _),.inr I3.sz,fun x c e z=>?_,fun p hp z=>?_⟩
   ·obtain ⟨v,q⟩:=I3.cell x c e
    exact absurd q.lt (by rw [z];exact Nat.lt_irrefl _)
   ·exact absurd (Heap.lt_size (I3.pin p hp).1) (by rw [z];exact Nat.lt_irrefl _)
  ·have:=T.item X' eP eW eK eC i [] s3 σ3 H3 (fun _ _=>False) I3' (stat fr3) st3 go
   rw [eA] at this
   refine thn this fun r s4 ⟨u,hr,h4⟩=>?_
   subst hr
   refine thn h4 fun _ s5 ⟨x,H5,I5,r5,y5,st5,fr5⟩=>?_
   have I5':=I5.pinned (stat fr5) (T.obj _ _ st5)
   have h6:=hg' _ s5 σ3 H5 x u _ I5' r5 (step x H5 y5)
   rw [eP,eW,eA,eX] at h6
   refine thn h6 fun _ s6 ⟨σ6,H6,I6,q6⟩=>?_
   have h7:=ht' _ s6 σ6 H6 _ I6 q6
   rw [eP,eW,eA,eX] at h7
   refine thn h7 fun b s7 ⟨H7,I7,q7⟩=>?_
   have again:∀ {s8:Shared} {H8:Hp},Inv X' ([]++q9 fp s5.heap) σ6 H8 s8->(∃ m',m'<n/\W (i+1) m' σ6 H8)->∃ m,m<n/\∃ i σ' H',Inv X' [] σ' H' s8/\tn i s8.heap/\(∀ b ∈ fp,H' b=none)/\W i m σ' H':=fun {s8 H8} I8 ⟨m',hm,w8⟩=>by
    refine ⟨m',hm,i+1,σ6,H8,I8.unpinned,T.keep _ _ _ st5 fun b hb o e=>(I8.pin (b,o) (List.mem_append_right _ (List.mem_append_right _ (uR hb e)))).1,fun b hb=>?_,w8⟩
    obtain ⟨o,e,d⟩:=T.obj _ _ st5 b hb
    exact (I8.pin (b,o) (List.mem_append_right _ (List.mem_append_right _ (uR hb e)))).2.1
   cases b with
   | false=>exact again I7 q7
   | true=>
    have h8:=he' _ s7 σ6 H7 _ I7 q7
    rw [eP,eW,eA,eX] at h8
    refine thn h8 fun v s8 ⟨y,H8,I8,r8,ys,hys,hz,q8⟩=>?_
    have h9:=zu (X:=X') _ s8 σ6 H8 (.ref D) [y] (.ref D) [v] (fun _ H9=>H9=upd H8 D (.lst (ys++[y]))) I8 rfl (.cons r8 .nil) ⟨D,ys,y,rfl,rfl,hys,hz,rfl⟩
    rw [eP,eW,eA,eX] at h9
    refine thn h9 fun _ s9 ⟨v9,H9,I9,r9,e9⟩=>?_
    subst e9
    exact again I9 q8
 exact codeAny_compStart_list (loop _ rfl) (T.self _ 0 _ _ _ st4 (loop _ rfl))
theorem zmA{wi:TI}(hc:X.calm=true)(hi:PI X tg iter wi)(hg:∀ C s₀ H₀ fp,PG (xK X own js scope C s₀ H₀ fp) tg (g C s₀ H₀ fp))(ht:∀ C s₀ H₀ fp,PTs (xK X own js scope C s₀ H₀ fp) ifs (tt C s₀ H₀ fp))(he:∀ C s₀ H₀ fp,PE (xK X own js scope C s₀ H₀ fp) elt (te C s₀ H₀ fp))
  (ok:zbI js scope X.env.kindOf X.N=true:=by first | rfl | decide +kernel)(hs:∀ x,foldedSetIterable iter X.env x=pure x:=by intro _;rfl):
  PE X (.ListComp elt [⟨tg,iter,ifs,0⟩] scope pos) (zgX wi own js g tt te):=by
 intro pins s σ H Q I h
 have ok:=zbH ok
 rw [eval_ListComp]
 refine wpAny_comprehension_free (use:=none) rfl hs (zaU fun y hy e=>I.ok.has _ (ok.free y hy e)) ok.kind ok.loc (thn (hi pins s σ H _ I h) fun v s1 h1=>thn h1 fun itv s2 h2=>?_)
 obtain ⟨it,fp,tn,J,H2,e,I2,T,st2,f2,q⟩:=h2
 subst e
 refine zaS (RR:=fun acc C=>compPost (model X.prog X.w) X.A X.xe none (EP X pins σ Q) acc C) hc ok hg ht he I2 T st2 f2 q ?_
 intro D C H3 s' oC m hoC hn hd hfp I' q'
 refine ⟨m,hn,fun h' hs'=>⟨.ref D,H3,?_,rfl,q'⟩⟩
 exact I'.turned (t':=s'.toks) (fun b o hb e=>(hs'.2 b hb).trans e) hfp.1 hfp.2.1 hfp.2.2.2.1 hfp.2.2.2.2.1 hfp.2.2.2.2.2
theorem zjA{wi:TI}{i:Nat}{y:Str}{py spos:Pos}(hN:X.N.Nodup)(hi':X.N[i]?=some y)(hx:Loc X.env.scope y)(hc:X.calm=true)(hi:PI X tg iter wi)(hg:∀ C s₀ H₀ fp,PG (xK X own js scope C s₀ H₀ fp) tg (g C s₀ H₀ fp))
  (ht:∀ C s₀ H₀ fp,PTs (xK X own js scope C s₀ H₀ fp) ifs (tt C s₀ H₀ fp))(he:∀ C s₀ H₀ fp,PE (xK X own js scope C s₀ H₀ fp) elt (te C s₀ H₀ fp))
  (ok:zbI js scope X.env.kindOf X.N=true:=by first | rfl | decide +kernel)(hs:∀ x,foldedSetIterable iter X.env x=pure x:=by intro _;rfl)
  (hsw:swapsWith (.ListComp elt [⟨tg,iter,ifs,0⟩] scope pos) (some (.Name y py)) spos.line X.env=pure true:=by rfl)(hf:X.fn y=true∨X.env.scope.names.lookup y=some .local:=by first | exact .inl rfl | exact .inr rfl | assumption):
  PS X (.Assign [.Name y py] (.ListComp elt [⟨tg,iter,ifs,0⟩] scope pos) spos) (qj (zgX wi own js g tt te) (jb i)):=by
 intro pins s σ H D I h
 have ok:=zbH ok
 rw [exec_Assign_Name_used _ _ _ _ hsw]
 refine wpAny_bind (wpAny_standAt (wpAny_bind ?_))
 show wpAny _ X.A (do let _ ← comprehension (.ListComp elt [⟨tg,iter,ifs,0⟩] scope pos) scope X.env _ (newList []) false (eval iter X.env) (some (assign (.Name y py) X.env))) _ _ s
 refine wpAny_bind (wpAny_mono (wpAny_comprehension_free (use:=some (assign (.Name y py) X.env)) (Q:=fun _ s'=>SP X pins D .next s') rfl hs (zaU fun y hy e=>I.ok.has _ (ok.free y hy e)) ok.kind ok.loc (thn (hi pins s σ H _ I h) fun v s1 h1=>thn h1 fun itv s2 h2=>?_))
  (fun _ s' hq=>wpAny_pure (wpAny_pure hq)) fun _ _ e=>e)
 obtain ⟨it,fp,tn,J,H2,e,I2,T,st2,f2,q⟩:=h2
 subst e
 refine zaS (Qv:=fun x H1=>jb i x σ H1 D.nx) (RR:=fun acc C=>compPost (model X.prog X.w) X.A X.xe (some (assign (.Name y py) X.env)) (fun _ s'=>SP X pins D .next s') acc C) hc ok hg ht he I2 T st2 f2 q ?_
 intro Da C H3 s' oC m hoC hn hd hfp I' q'
 have I'':Inv X (pins++[(C,oC)]) σ H3 s':=I'.pins_of fun p hp=>(List.mem_append.mp hp).elim (fun z=>I'.pin p (List.mem_append_right _ z)) fun z=>by
  rw [List.mem_singleton.mp z]
  exact ⟨hoC,hfp.1,hfp.2.1,hfp.2.2.1,hd⟩
 refine thn (zM (pos:=py) hN hi' hx hf _ s' σ H3 (.ref Da) (.ref Da) _ I'' rfl q') fun _ s'' ⟨σ4,H4,I4,q4⟩=>?_
 have hC4:=I4.pin (C,oC) (List.mem_append_right _ (List.mem_append_right _ List.mem_cons_self))
 refine ⟨m,hn.at' fun o e=>?_,fun h' hs'=>⟨σ4,H4,?_,q4⟩⟩
 ·rw [hoC] at e;cases e;exact hC4.1
 ·have I5:Inv X pins σ4 H4 s'':=I4.unpinned
  exact I5.turned (t':=s''.toks) (fun b o hb e=>(hs'.2 b hb).trans e) hC4.2.1 hfp.2.1 hfp.2.2.2.1 hfp.2.2.2.2.1 hfp.2.2.2.2.2
end
structure Fn (P:Program) (w:World) (K:PySem.W.Frag) (mg:Str->Option Value) (base:Heap) (x:Str) (k:Nat) (ps:List Str) (sp:Sp):Prop where
 ex:∃ f fd,FnOk P w K mg base CX0 k f fd ps sp/\mg x=some (.ref f)/\PySem.W.keepIn K (.ref f)=true/\Binds K fd ps []
theorem zkC{X:Cx}{x:Str}{k:Nat}{ps:List Str}{sp:Sp}{e:Expr}{es:List Expr}{t:TA}{p pos:Pos}(F:Fn X.prog X.w X.K X.mg X.base x k ps sp)(hr:Room k X.A)(hg:Gl X x)(ha:PA X (e::es) t)
  (hdb:(x == ("__debug__":Str))=false:=by decide)(he:starEach (e::es) X.env=(false,eval e X.env)::starEach es X.env:=by rfl)(hpl:(backTo pos (starEach es X.env)).any (·.1)=false:=by rfl):
  PE X (.Call (.Name x p) (e::es) [] pos) (zky sp [] E0 t):=by
 obtain ⟨f,fd,F,hm,hk,hb⟩:=F.ex
 exact zjL F hr hg hm hk hb .nil zmC ha hdb he hpl
section
variable {prog:Program} {w:World} {A:Around} {E:Value->Shared->Prop} {s:Shared}
theorem zbD{it t:Addr}{items:Array Value}(hne:t≠it):∀ (n i:Nat) (s:Shared) (Q:List Value->Shared->Prop),s.heap.IsListIter it t i->s.heap.IsList t items->i+n≤items.size->
  (∀ h',h'.IsListIter it t (i+n)->Heap.SameBut it s.heap h'->Q ((items.toList.drop i).take n) { s with heap:=h' })->wpAny (model prog w) A (draw (.ref it) n) Q E s
 | 0,i,s,Q,hit,_,_,hQ=>by
  show wpAny _ _ (pure []) Q E s
  exact wpAny_pure (by simpa using hQ s.heap hit (Heap.SameBut.refl ..))
 | n+1,i,s,Q,hit,ht,hle,hQ=>by
  have hlt:i<items.size:=by omega
  show wpAny _ _ (pyNext (.ref it) >>= _) Q E s
  refine wpAny_bind (wpAny_pyNext_list_item hit ht (x:=items[i]) (by simp [hlt]) fun h₁ hit₁ hs₁=>?_)
  refine wpAny_bind (wpAny_holding (zbD hne n (i+1) _ _ hit₁ (ht.extBut hs₁.extBut hne) (by omega) fun h₂ hit₂ hs₂=>wpAny_pure ?_))
  have hd:items.toList.drop i=items[i]::items.toList.drop (i+1):=by simp [List.drop_eq_getElem_cons,hlt]
  have:=hQ h₂ (by rw [show i+(n+1)=i+1+n by omega];exact hit₂) (hs₁.trans hs₂)
  rw [hd,List.take_succ_cons] at this
  exact this
theorem kg{t:Addr}{items:Array Value}{Q:List Value->Shared->Prop}(hh:A.handled=none)(ht:s.heap.IsList t items)
  (hQ:∀ h',Heap.ExtBut s.heap.objs.size s.heap h'->Q items.toList { s with heap:=h' }):wpAny (model prog w) A (unpackItems (.ref t) items.size none) Q E s:=by
 have hlt:t≠s.heap.objs.size:=by obtain ⟨o,ho,_⟩:=ht;exact Nat.ne_of_lt (Heap.lt_size ho)
 unfold unpackItems
 refine wpAny_bind ?_
 ·unfold notIterableAtAll
  refine wpAny_bind (wpAny_specialOf ht.typeIs slot_list_iter.lookup ?_)
  refine wpAny_pure ?_
  simp only [Bool.false_eq_true,if_false]
  refine wpAny_bind (wpAny_holding (wpAny_pyIter_list ht ?_))
  have hpush:(s.heap.push { cls:=.type "list_iterator",data:=.fields #[.ref t,.int 0 0] }).IsList t items:=by
   obtain ⟨o,ho,r⟩:=ht
   exact ⟨o,Heap.get?_push_of_some _ ho,r⟩
  refine wpAny_bind (wpAny_holding (zbD hlt items.size 0 _ _ ⟨_,Heap.get?_push_size _ rfl,rfl,rfl⟩ hpush (by omega) fun h₁ hit₁ hs₁=>?_))
  have hall:List.take items.size (List.drop 0 items.toList)=items.toList:=by
   rw [List.drop_zero];exact List.take_of_length_le (by simp)
  rw [hall]
  rw [if_neg (by simp)]
  have ht₁:h₁.IsList t items:=hpush.extBut hs₁.extBut hlt
  refine wpAny_bind (wpAny_holding (wpAny_pyNext_list_end hh hit₁ ht₁ (by simp) fun h₂ he₂=>?_))
  simp only [Option.isSome_none,Bool.false_eq_true,if_false]
  refine wpAny_pure (hQ h₂ fun b o hb e=>he₂ b o hb (hs₁.extBut b o hb (Heap.get?_push_of_some _ e)))
theorem kZ{env:Env}{elts:List Expr}{x1}{pos:Pos}{t:Addr}{items:Array Value}{Q:Unit->Shared->Prop}(hh:A.handled=none)(ht:s.heap.IsList t items)
  (hn:(assignEach elts env).length=items.size)(hstar:(assignEach elts env).findIdx? (·.1)=none)
  (h:∀ h',Heap.ExtBut s.heap.objs.size s.heap h'->wpAny (model prog w) A (assignInOrder ((assignEach elts env).map (·.2)) items.toList) Q E { s with heap:=h' }):
  wpAny (model prog w) A (assign (.Tuple elts x1 pos) env (.ref t)) Q E s:=by
 rw [assign_Tuple]
 refine wpAny_bind (wpAny_standAt ?_)
 unfold unpack
 rw [hn,hstar]
 exact wpAny_bind (wpAny_holding (kg hh ht h))
end
section
variable {X:Cx} {pos:Pos}
noncomputable def zoe(K:PySem.W.Frag)(n:Nat)(t:TGs):TG:=fun v σ H Q=>∃ a xs,v=.ref a/\SqL K H a xs/\xs.length=n/\t xs σ H Q
theorem zlf{es:List Expr}{k:Nat}{t:TGs}{n:Nat}(hc:X.calm=true)(h:PGs X es t)
  (hn:(assignEach es X.env).length=n:=by rfl)(hst:(assignEach es X.env).findIdx? (·.1)=none:=by rfl):PG X (.Tuple es k pos) (zoe X.K n t):=by
 intro pins s σ H v u Q I r hw
 obtain ⟨a,xs,e1,hq,hl,hw⟩:=hw
 subst e1
 cases r
 obtain ⟨its,rv,ht,hz⟩:=I.list hq
 refine kZ (I.ok.hd hc) ht.isList (by simp [hn,← hl,rv.length]) hst fun h' hx=>?_
 have I1:Inv X pins σ H { s with heap:=h' }:=I.kept (t':=s.toks) fun b o e=>hx b o (Nat.ne_of_lt (Heap.lt_size e)) e
 exact h pins _ σ H xs _ Q I1 (by simpa using rv) hw
end
section
variable {prog:Program} {w:World} {A:Around} {E:Value->Shared->Prop} {s:Shared}
theorem jR{t sl:Addr}{items:Array Value}{vl vu:Value}{lo hi:Option Int}{Q:Value->Shared->Prop}(ht:IsTup s.heap t items)(hs:s.heap.IsSliceOf sl vl vu .none)(pl:IsPart vl lo)(pu:IsPart vu hi)
  (hw:HT.sIx items.size 0 lo=0/\HT.sIx items.size items.size hi=items.size)(h:Q (.ref t) s):wpAny (model prog w) A (getItem (.ref t) (.ref sl)) Q E s:=by
 obtain ⟨os,hos,hcs,hds⟩:=id hs
 have hTs:s.TypeIs (.ref sl) "slice":=⟨os,hos,hcs⟩
 unfold getItem
 try with_reducible refine wpAny_holding ?_
 first | refine wpAny_bind (wpAny_pure ?_) | skip
 refine wpAny_bind (wpAny_sequenceKey ht.typeIs (by decide) ?_)
 refine wpAny_bind (wpAny_callSpecial?_slot (name:=Str.ofString "__getitem__") ht.typeIs PyProof.Rows.slot_tuple_getitem
  (wpAny_call_entry PyProof.Rows.slot_tuple_getitem ht.typeIs entry_tuple_getitem ?_ (args_tuple_getitem _ _)))
 show wpAny _ _ (Builtin.Tuple.tupleItemsOf (.ref t) >>= _) _ _ s
 refine wpAny_bind (tupleItemsOf_ ht ?_)
 refine wpAny_bind (wpAny_typeOf hTs ?_)
 rw [if_pos (by decide)]
 refine wpAny_bind (HT.sliceApplied_gen hs pl pu ?_)
 have hyes:(((HT.sIx items.size 0 lo:Nat):Int) == 0 && (1:Int) == 1 && (HT.sIx items.size items.size hi - HT.sIx items.size 0 lo) == items.size)=true:=by
  rw [hw.1,hw.2];simp
 show wpAny _ _ (if (((HT.sIx items.size 0 lo:Nat):Int) == 0 && (1:Int) == 1 && (HT.sIx items.size items.size hi - HT.sIx items.size 0 lo) == items.size)=true then _ else _) _ _ s
 rw [if_pos hyes]
 refine wpAny_bind ?_
 unfold Builtin.Tuple.tupleIsExact
 refine wpAny_bind (wpAny_typeOf ht.typeIs (wpAny_pure ?_))
 rw [if_pos (by decide)]
 first
  | exact wpAny_bind (wpAny_rule (wpAny_pure ⟨_,rfl,wpAny_pure h⟩))
  | exact wpAny_bind (wpAny_rule (wpAny_bind (wpAny_pure (wpAny_pure ⟨_,rfl,wpAny_pure h⟩))))
  | exact wpAny_bind (wpAny_rule (wpAny_bind (wpAny_pure ⟨_,rfl,wpAny_pure h⟩)))
end
section
variable {X:Cx}
noncomputable def zmq(K:PySem.W.Frag):V->Option Int->Option Int->Hp->VK->Prop:=fun x lo hi H Q=>∃ a xs,x=.ref a/\SqT K H a xs/\(zaO xs lo hi=xs->Q (.ref a) H)/\∀ p,H p=none->Q (.ref p) (upd H p (.tup (zaO xs lo hi)))
theorem zjs:SlR X (zmq X.K):=by
 intro pins s σ H x v vl vu lo hi sl Q I rx hs pl pu h
 obtain ⟨a,xs,rfl,hx,q1,q2⟩:=h
 by_cases hw:HT.sIx xs.length 0 lo=0/\HT.sIx xs.length xs.length hi=xs.length
 ·cases rx
  obtain ⟨its,r,ht,hz⟩:=I.tuple hx
  have hlen:its.toArray.size=xs.length:=by rw [List.size_toArray];exact r.length.symm
  refine ⟨"tuple",_,PyProof.Rows.slot_tuple_getitem.lookup,ht.typeIs,?_⟩
  refine jR ht hs pl pu (by rw [hlen];exact hw) ⟨.ref a,H,I,rfl,q1 ?_⟩
  unfold zaO
  rw [hw.1,hw.2]
  simp
 ·exact zkO pins s σ H _ v vl vu lo hi sl Q I rx hs pl pu ⟨a,xs,rfl,hx,hw,q2⟩
theorem op_mulB:OpR X (binaryOp .Mult) (rI IntMulOk fun i j=>.int (i * j)):=opI fun _ _ _ _ _ _ _ hc q=>mul_int q hc
theorem zac(hu:X.A.units+1<cLine):OpR X (compareOp .In) (fun x y H Q=>∃ a o,y=.ref a/\DGet H a x o/\Q (.bl o.isSome) H):=by
 intro pins s σ H x y v u Q I rx ry h
 obtain ⟨a,o,rfl,g,q⟩:=h
 cases ry
 exact zoi hu I g rx fun s' I'=>⟨.bl _,H,I',rfl,q⟩
theorem zaZ(hu:X.A.units+1<cLine):OpR X (compareOp .NotIn) (fun x y H Q=>∃ a o,y=.ref a/\DGet H a x o/\Q (.bl (!o.isSome)) H):=by
 intro pins s σ H x y v u Q I rx ry h
 obtain ⟨a,o,rfl,g,q⟩:=h
 cases ry
 exact zkk hu I g rx fun s' I'=>⟨.bl _,H,I',rfl,q⟩
noncomputable def zkr(K:PySem.W.Frag)(H:Hp)(y x:V)(b:Bool):Prop:=
 (∃ p xs,y=.ref p/\(SqL K H p xs∨SqT K H p xs)/\uh x=true/\xs.all uh=true/\b=inV x xs)∨∃ a o,y=.ref a/\DGet H a x o/\b=o.isSome
theorem zfY(hu:X.A.units+1<cLine):OpR X (compareOp .In) (fun x y H Q=>∃ b,zkr X.K H y x b/\Q (.bl b) H):=by
 intro pins s σ H x y v u Q I rx ry h
 obtain ⟨b,h | h,q⟩:=h
 ·obtain ⟨p,xs,rfl,h1,h2,h3,rfl⟩:=h
  exact zfX pins s σ H x _ v u Q I rx ry ⟨p,xs,rfl,h1,h2,h3,q⟩
 ·obtain ⟨a,o,rfl,h1,rfl⟩:=h
  exact zac hu pins s σ H x _ v u Q I rx ry ⟨a,o,rfl,h1,q⟩
theorem zci(hu:X.A.units+1<cLine):OpR X (compareOp .NotIn) (fun x y H Q=>∃ b,zkr X.K H y x b/\Q (.bl (!b)) H):=by
 intro pins s σ H x y v u Q I rx ry h
 obtain ⟨b,h | h,q⟩:=h
 ·obtain ⟨p,xs,rfl,h1,h2,h3,rfl⟩:=h
  exact zch pins s σ H x _ v u Q I rx ry ⟨p,xs,rfl,h1,h2,h3,q⟩
 ·obtain ⟨a,o,rfl,h1,rfl⟩:=h
  exact zaZ hu pins s σ H x _ v u Q I rx ry ⟨a,o,rfl,h1,q⟩
end
mutual
inductive Rep (K:PySem.W.Frag) (H:Hp):V->PyData->Prop
 | non:Rep K H .non .none
 | bl (b:Bool):Rep K H (.bl b) (.bool b)
 | int (i:Int):Rep K H (.int i) (.int i)
 | str (x:Str):Rep K H (.str x) (.str x)
 | list {a:Addr} {xs:List V} {ds:List PyData}:SqL K H a xs->Reps K H xs ds->Rep K H (.ref a) (.list ds)
 | tuple {a:Addr} {xs:List V} {ds:List PyData}:SqT K H a xs->Reps K H xs ds->Rep K H (.ref a) (.tuple ds)
inductive Reps (K:PySem.W.Frag) (H:Hp):List V->List PyData->Prop
 | nil:Reps K H [] []
 | cons {x:V} {d:PyData} {xs:List V} {ds:List PyData}:Rep K H x d->Reps K H xs ds->Reps K H (x::xs) (d::ds)
end
theorem Same.tup{K:PySem.W.Frag}{H H':Hp}{a:Addr}{xs:List V}(e:Same H H')(h:SqT K H a xs):SqT K H' a xs:=by
 rcases h with (h | ⟨o,h⟩) | h
 ·exact .inl (.inl (e _ _ h))
 ·exact .inl (.inr ⟨o,e _ _ h⟩)
 ·exact .inr h
mutual
theorem Rep.same{K:PySem.W.Frag}{H H':Hp}(e:Same H H'):∀ {x:V} {d:PyData},Rep K H x d->Rep K H' x d
 | _,_,.non=>.non
 | _,_,.bl b=>.bl b
 | _,_,.int i=>.int i
 | _,_,.str x=>.str x
 | _,_,.list h r=>.list (e.seq h) (Reps.same e r)
 | _,_,.tuple h r=>.tuple (e.tup h) (Reps.same e r)
theorem Reps.same{K:PySem.W.Frag}{H H':Hp}(e:Same H H'):∀ {xs:List V} {ds:List PyData},Reps K H xs ds->Reps K H' xs ds
 | _,_,.nil=>.nil
 | _,_,.cons h t=>.cons (Rep.same e h) (Reps.same e t)
end
mutual
theorem Rep.reads{X:Cx}{pins:List (Addr × Obj)}{σ:St}{H:Hp}{s:Shared}(I:Inv X pins σ H s):∀ {x:V} {d:PyData} {u:Value},Rep X.K H x d->RelV x u->∃ as,Reads s.heap u d as
 | _,_,_,.non,r=>by cases r;exact ⟨_,.none⟩
 | _,_,_,.bl b,r=>by cases r;exact ⟨_,.bool b⟩
 | _,_,_,.int i,r=>by obtain ⟨t,rfl⟩:=r;exact ⟨_,.int i t⟩
 | _,_,_,.str x,r=>by obtain ⟨t,rfl⟩:=r;exact ⟨_,.str x t⟩
 | _,_,_,.list h q,r=>by
  cases r
  obtain ⟨its,rv,⟨o,n,e,c,d,hd⟩,hz⟩:=I.list h
  obtain ⟨as,ra⟩:=Reps.reads I q rv
  exact ⟨_,.list e c hd (by simpa using ra)⟩
 | _,_,_,.tuple h q,r=>by
  cases r
  obtain ⟨its,rv,⟨o,e,c,n,hd⟩,hz⟩:=I.tuple h
  obtain ⟨as,ra⟩:=Reps.reads I q rv
  exact ⟨_,.tuple e c hd (by simpa using ra)⟩
theorem Reps.reads{X:Cx}{pins:List (Addr × Obj)}{σ:St}{H:Hp}{s:Shared}(I:Inv X pins σ H s):∀ {xs:List V} {ds:List PyData} {us:List Value},Reps X.K H xs ds->Vals xs us->∃ as,ReadsAll s.heap us ds as
 | _,_,_,.nil,r=>by cases r;exact ⟨_,.nil⟩
 | _,_,_,.cons h t,r=>by
  cases r with
  | cons r1 r2=>
   obtain ⟨as,ra⟩:=Rep.reads I h r1
   obtain ⟨bs,rb⟩:=Reps.reads I t r2
   exact ⟨_,.cons ra rb⟩
end
section
variable {X:Cx}
open PySem.SeqAt in
theorem vi(hu:X.A.units+64<cLine):OpR X (compareOp .Eq) (fun x y H Q=>∃ d e,Rep X.K H x d/\Rep X.K H y e/\d.canLay0=true/\e.canLay0=true/\d.depth≤64/\Q (.bl (PyData.eqv d e)) H):=by
 intro pins s σ H x y v u Q I rx ry h
 obtain ⟨d,e,hd,he,h1,h2,h3,q⟩:=h
 obtain ⟨as,ra⟩:=hd.reads I rx
 obtain ⟨bs,rb⟩:=he.reads I ry
 exact compareEq_reads ra rb h1 h2 (by have:=Nat.min_le_left d.depth e.depth;omega) ⟨.bl _,H,I,rfl,q⟩
open PySem.SeqAt in
theorem zab(hu:X.A.units+64<cLine):OpR X (compareOp .NotEq) (fun x y H Q=>∃ d e,Rep X.K H x d/\Rep X.K H y e/\d.canLay0=true/\e.canLay0=true/\d.depth≤64/\Q (.bl (!PyData.eqv d e)) H):=by
 intro pins s σ H x y v u Q I rx ry h
 obtain ⟨d,e,hd,he,h1,h2,h3,q⟩:=h
 obtain ⟨as,ra⟩:=hd.reads I rx
 obtain ⟨bs,rb⟩:=he.reads I ry
 exact compareNe_reads ra rb h1 h2 (by have:=Nat.min_le_left d.depth e.depth;omega) ⟨.bl _,H,I,rfl,q⟩
end
noncomputable def cW(D:Addr)(xs:List V)(τ:St)(Pv:Nat->List V->Hp->Prop)(i m:Nat)(σ:St)(H:Hp):Prop:=
 ∃ o ys,σ=o::τ/\H D=some (.lst ys)/\ys.length≤i/\i≤xs.length/\m=xs.length - i/\Pv i ys H
noncomputable def zoB(D:Addr)(xs:List V)(τ:St)(Pv:Nat->List V->Hp->Prop)(i:Nat)(x:V)(y:V)(H6:Hp):Prop:=
 ∃ ys,H6 D=some (.lst ys)/\ys.length<sizeLine/\∃ m',m'<xs.length - i/\cW D xs τ Pv (i+1) m' (some x::τ) (upd H6 D (.lst (ys++[y])))
noncomputable def zow(D:Addr)(xs:List V)(τ:St)(Pv:Nat->List V->Hp->Prop)(i:Nat)(x:V)(H5:Hp):Prop:=
 ∃ m',m'<xs.length - i/\cW D xs τ Pv (i+1) m' (some x::τ) H5
section
variable {J:It} {v:Str} {js:List Nat} {tt:TT} {te:TE} {σ:St} {H1:Hp} {Q:VK}
noncomputable def zcZ(lo:Int)(n:Nat):List V:=(List.range n).map fun (i:Nat)=>V.int (lo+i)
theorem zhm{lo:Int}{n i:Nat}{x:V}(h:(zcZ lo n)[i]?=some x):i<n/\x=V.int (lo+i):=by
 unfold zcZ at h
 rw [List.getElem?_map] at h
 by_cases hi:i<n
 ·rw [List.getElem?_range hi] at h
  exact ⟨hi,(Option.some.inj h).symm⟩
 ·rw [List.getElem?_eq_none (by simpa using hi)] at h
  cases h
theorem zcY(lo:Int)(n:Nat):(zcZ lo n).length=n:=by simp [zcZ]
end
theorem ya{H H':Hp}{D:Addr}{o:HO}(s:Same H H')(hD:H D=none):Same H (upd H' D o):=fun b u e=>by
 rw [zk (yh e hD)]
 exact s b u e
theorem bits_of_weight:∀ (ns:List Int),PySem.W.WData.weightAll (ns.map PySem.W.WData.int)≤2 ^ 20->∀ n ∈ ns,Builtin.Int.intBits n≤1048576
 | [],_,_,h=>nomatch h
 | m::ns,hw,n,h=>by
  rw [List.map_cons] at hw
  unfold PySem.W.WData.weightAll at hw
  rcases List.mem_cons.mp h with rfl | h
  ·have:PySem.W.WData.weight (PySem.W.WData.int n)=Builtin.Int.intBits n:=by unfold PySem.W.WData.weight Builtin.Int.intBits;rfl
   omega
  ·exact bits_of_weight ns (by omega) n h
end L2
namespace Att
open PySem PySem.W PySem.Calls PyProof.Rows
theorem attach_callB{l:OpenLaw}{n:Nat}{q:Program}{loose:List Str}{XP:(Str->Option Value)->Heap->Prop}{YP:World->Heap->Prop}{d:DefRec}
  (hn:l.most=some n)(hdf:d.params.defaults=[])
  (call:∀ (w:World) (s₀ s₁:Shared) (mg mb:Str->Option Value) (fa:Addr) (o:Obj) (pm cd doc:Value) (a:Addr) (vs:List Value) (ns:List Int),
   Ground q loose [] XP w s₀ mg mb s₁.heap->YP w s₁.heap->
   s₁.heap.get? fa=some o->o.data=.func (docDef d.name d.params d.body d.scope pm cd doc)->s₁.heap.CodeRec cd d.name->mg d.name=some (.ref fa)->
   s₁.heap.get? a=some { cls:=.type "list",data:=.seq vs.toArray }->IntsAre vs ns->ns.length≤n->(∀ m ∈ ns,Builtin.Int.intBits m≤1048576)->s₁.gens=#[]->
   codeAny (model l.prog w) callerA (.call (.ref fa) ⟨[.ref a],[]⟩) (fun r s'=>r=.ok (.ret (.bool true))/\OldK s₁.heap s'.heap/\s'.os=s₁.os/\AllBare s'.gens) s₁):
  WalkO q loose XP YP l.row.toRowW d [] (fun f vs=>PySem.call f vs):=by
 intro w s₀ s₁ mg mb G Y fa o pm cd doc dV kV ho hd hcd hD hmg hg args vals as hpre hlay hrd hwl hlo
 obtain rfl:dV=.none:=Dflts.none hD hdf
 obtain rfl:kV=.none:=Dflts.noKw hD
 obtain ⟨a,vs,ns,rfl,rfl,hobj,hints,hlen⟩:=zfS hn hpre hwl
 have hb:∀ m ∈ ns,Builtin.Int.intBits m≤1048576:=by
  refine L2.bits_of_weight ns ?_
  have h1:WData.layable (WData.list (ns.map WData.int))=true:=by simpa [WData.layableAll] using hlay
  unfold WData.layable at h1
  have h2:=of_decide_eq_true (Bool.and_eq_true_iff.mp h1).2
  unfold WData.weight at h2
  exact h2
 refine enter_call (codeAny_mono (call w s₀ s₁ mg mb fa o pm cd doc a vs ns G Y ho (fd_plain hd) hcd hmg hobj hints hlen hb hg) fun r s' hq=>?_)
 obtain ⟨rfl,h2,h3,h4⟩:=hq
 exact ⟨.inl ⟨.bool true,.bool true,[],rfl,fun _=>rfl,.bool true,zfU l _,fun _=>⟨List.Pairwise.nil,fun _ hm=>(nomatch hm)⟩⟩,h2,h3,h4⟩
end Att
namespace L2
open PySem PySem.Spec PyProof.Rows
theorem walk_ofB{l:PySem.W.OpenLaw}{n k:Nat}{q:Program}{loose:List Str}{XP:(Str->Option Value)->Heap->Prop}{YP:World->Heap->Prop}{d:DefRec}{K:Params->PySem.W.Frag}{CX:World->CXT}{sp:World->Sp}{x:Str}
  (hn:l.most=some n)(hn2:n≤sizeLine)(hdf:d.params.defaults=[])(hr:Room k callerA)
  (hY:∀ (w:World) (h:Heap),YP w h->(K w.params).In h)
  (F:∀ (w:World) (mg:Str->Option Value) (fa:Addr) (h:Heap),(K w.params).In h->h.Ns mainGlobals mg->mg d.name=some (.ref fa)->
   ∃ fd:FuncData,(∀ (s:Shared) (u:Value),BindsTo s fd ⟨[u],[]⟩ [(x,u)])/\
    ∀ base:Heap,(K w.params).In base->base.Ns mainGlobals mg->FnOk l.prog w (K w.params) mg base (CX w) k fa fd [x] (sp w))
  (hsp:∀ (w:World) (H:Hp) (a:Addr) (ns:List Int),ns.length≤n->(∀ m ∈ ns,Builtin.Int.intBits m≤1048576)->zkq H->SqL (K w.params) H a (ns.map V.int)->sp w [.ref a] H (fun v _=>v=.bl true) fun _ _ _=>False)
  (hCX:∀ (w:World) (H:Hp) (s:Shared) (e:Value) (s':Shared),CX w [] H s (fun _ _ _=>False) e s'->False):
  PySem.W.WalkO q loose XP YP l.row.toRowW d [] (fun f vs=>PySem.call f vs):=by
 refine Att.attach_callB hn hdf fun w s₀ s₁ mg mb fa o pm cd doc a vs ns G Y ho hd hcd hmg hobj hints hlen hb hg=>?_
 have KX:=hY w _ Y
 obtain ⟨fd,hbd,hF⟩:=F w mg fa _ KX G.T.g hmg
 exact zie KX G.T.g G.T.b G.T.builtins G.T.nolimit hg hobj hints (Nat.le_trans hlen hn2) hr hF hbd (fun H hO hS=>hsp w H a ns hlen hb hO hS) fun H e s'=>hCX w H s₁ e s'
section
variable {prog:Program} {w:World} {A:Around} {E:Value->Shared->Prop} {s:Shared}
theorem vO(s:Shared):s.TypeIs .none "NoneType":=by first | exact rfl | trivial | (unfold Shared.TypeIs;trivial)
theorem j6{Q:Int->Shared->Prop}(h:Q 0xFCA86420 { s with toks:=s.toks+1 }):wpAny (model prog w) A (pyHash .none) Q E s:=by
 unfold pyHash
 unfold pyHashByItsType
 have hv:[Value.none].any Value.onHeap=false:=rfl
 refine wpAny_bind ?_
 rw [cRoomFor,if_neg (by rw [hv];exact Bool.false_ne_true)];refine wpAny_pure ?_
 refine wpAny_bind (wpAny_specialOf (vO s) PySem.F.slot_NoneType_hash.lookup ?_)
 show wpAny _ _ (if (some (Value.builtin "NoneType.__hash__") == some Value.none)=true then _ else _) Q E s
 rw [if_neg (by rw [beq_builtin_none];exact Bool.false_ne_true)]
 refine wpAny_bind (wpAny_specialOf (vO s) PySem.F.slot_NoneType_hash.lookup ?_)
 show wpAny _ _ (callSpecialIfBoundUnlessNone? .none "__hash__" _ >>= _) Q E s
 refine wpAny_bind (wpAny_callSpecialIfBoundUnlessNone?_slot (vO s) PySem.F.slot_NoneType_hash
  (wpAny_call_entry PySem.F.slot_NoneType_hash (vO s) PySem.F.entry_NoneType_hash
   (show wpAny _ _ (do ret (← mkInt 0xFCA86420)) _ _ s from wpAny_ret_mkInt ?_) (PySem.F.args_NoneType_hash_1 _)))
 show wpAny _ _ (if (decide (-(2:Int) ^ 63≤0xFCA86420) && decide ((0xFCA86420:Int)<2 ^ 63))=true then _ else _) Q E _
 rw [if_pos (by decide)]
 exact wpAny_pure h
end
noncomputable def zcg(prog:Program)(w:World):PySem.KeyKind prog w (Option Key) where
 is:=fun o v=>match o with | some k=>zav k v | none=>(v == Value.none)
 hash:=fun o=>match o with | some k=>zmM w k | none=>0xFCA86420
 inj:=fun v a b ha hb=>by
  cases a with
  | none=>
   have ha:v=Value.none:=eq_of_beq ha
   subst ha
   cases b with
   | none=>rfl
   | some k=>rcases yC hb with ⟨_,_,_,e⟩ | ⟨_,_,_,e⟩<;>cases e
  | some k=>
   cases b with
   | none=>
    have hb:v=Value.none:=eq_of_beq hb
    subst hb
    rcases yC ha with ⟨_,_,_,e⟩ | ⟨_,_,_,e⟩<;>cases e
   | some k'=>rw [(yI prog w).inj v k k' ha hb]
 byValue:=fun k v h=>by
  cases k with
  | none=>have h:v=Value.none:=eq_of_beq h;subst h;rfl
  | some k=>exact (yI prog w).byValue k v h
 pyHash:=fun {A E s k v Q} hv h=>by
  cases k with
  | none=>have hv:v=Value.none:=eq_of_beq hv;subst hv;exact j6 h
  | some k=>exact (yI prog w).pyHash (k:=k) hv h
 eqBool:=fun {A E s a b u v Q} hu hv h=>by
  cases a with
  | none=>
   have hu:u=Value.none:=eq_of_beq hu
   subst hu
   cases b with
   | none=>
    have hv:v=Value.none:=eq_of_beq hv
    subst hv
    exact SeqAt.EqAt.same .none _ _ _ _ (by simpa using h)
   | some k=>
    have h:Q false s:=by simpa using h
    rcases yC hv with ⟨i,t,rfl,rfl⟩ | ⟨x,t,rfl,rfl⟩
    ·exact SeqAt.EqAt.none_int i t _ _ _ _ h
    ·exact SeqAt.EqAt.none_str x t _ _ _ _ h
  | some k=>
   cases b with
   | none=>
    have hv:v=Value.none:=eq_of_beq hv
    subst hv
    have h:Q false s:=by simpa using h
    rcases yC hu with ⟨i,t,rfl,rfl⟩ | ⟨x,t,rfl,rfl⟩
    ·exact SeqAt.EqAt.int_none i t _ _ _ _ h
    ·exact SeqAt.EqAt.str_none x t _ _ _ _ h
   | some k'=>
    refine (yI prog w).eqBool (a:=k) (b:=k') hu hv ?_
    have e:decide (some k=some k')=decide (k=k'):=by by_cases z:k=k'<;>simp [z]
    rw [e] at h
    exact h
 «strs»:=fun k x t v h=>by
  cases k with
  | none=>
   have z:Value.str x t=Value.none:=eq_of_beq h
   cases z
  | some k=>exact (yI prog w).strs k x t v h
theorem zdp{P:Program}{w:World}{h:Heap}{a:Addr}{f:Key->Option Value}(m:h.MapOf (yI P w) a f):h.MapOf (zcg P w) a (fun o=>match o with | some k=>f k | none=>none):=by
 obtain ⟨o,es,ep,h1,h2,h3,h4,h5⟩:=m
 refine ⟨o,es,ep,h1,h2,h3,fun e he=>?_,fun k=>?_⟩
 ·obtain ⟨k,a1,a2⟩:=h4 e he
  exact ⟨some k,a1,a2⟩
 ·cases k with
  | some k=>exact h5 k
  | none=>
   unfold findBy
   rw [Option.map_eq_none_iff,Array.find?_eq_none]
   intro e he z
   obtain ⟨k,a1,a2⟩:=h4 e he
   have z:e.key=Value.none:=eq_of_beq z
   rw [z] at a1
   rcases yC a1 with ⟨_,_,_,e⟩ | ⟨_,_,_,e⟩<;>cases e
section
variable {X:Cx}
theorem zdf(hu:X.A.units+1<cLine):OpR X (compareOp .In) (fun x y H Q=>∃ a,y=.ref a/\((∃ o,DGet H a x o/\Q (.bl o.isSome) H)∨(∃ kvs,x=.non/\H a=some (.dK kvs)/\Q (.bl false) H))):=by
 intro pins s σ H x y v u Q I rx ry h
 obtain ⟨a,rfl,h | h⟩:=h
 ·obtain ⟨o,g,q⟩:=h
  exact zac hu pins s σ H x _ v u Q I rx ry ⟨a,o,rfl,g,q⟩
 ·obtain ⟨kvs,rfl,ha,q⟩:=h
  cases ry
  cases rx
  obtain ⟨z,hd,vs,rel,dd⟩:=zdA I.hok ha
  exact wpAny_in_of (knd:=zcg X.prog X.w) (k:=none) rfl hd (zdp dd.mapOf) ⟨.bl false,H,I.tok _,rfl,q⟩
end
end L2
namespace CB
inductive Reach (R:Int->Int->Prop) (S A:Int->Prop):Int->Prop where
 | start {p:Int}:A p->S p->Reach R S A p
 | step {p q:Int}:Reach R S A p->R p q->S q->Reach R S A q
theorem Reach.inS{R S A}{p:Int}(h:Reach R S A p):S p:=by
 cases h with
 | start _ h=>exact h
 | step _ _ h=>exact h
theorem Reach.mono{R:Int->Int->Prop}{S S' A A':Int->Prop}(hA:∀ p,A p->S p->Reach R S' A' p)(hS:∀ p,Reach R S A p->S' p){p:Int}(h:Reach R S A p):Reach R S' A' p:=by
 induction h with
 | start a s=>exact hA _ a s
 | step h r s ih=>exact .step ih r (hS _ (.step h r s))
theorem zX:∀ (xs ys:List Int),xs.Nodup->(∀ x ∈ xs,x ∈ ys)->xs.length≤ys.length
 | [],ys,_,_=>Nat.zero_le _
 | x::xs,ys,nd,h=>by
  have hx:x ∈ ys:=h x List.mem_cons_self
  have nd':=List.nodup_cons.mp nd
  have ih:=zX xs (ys.erase x) nd'.2 fun z hz=>by
   have hzx:z≠x:=fun e=>nd'.1 (e ▸ hz)
   exact (List.mem_erase_of_ne hzx).mpr (h z (List.mem_cons_of_mem _ hz))
  rw [List.length_erase_of_mem hx] at ih
  have:0<ys.length:=List.length_pos_of_mem hx
  simp only [List.length_cons]
  omega
structure Dfs (R:Int->Int->Prop) (S A:Int->Prop) (found waiting:List Int):Prop where
 nd:found.Nodup
 sound:∀ p ∈ found,Reach R S A p
 soundW:∀ p ∈ waiting,Reach R S A p
 starts:∀ p,A p->S p->p ∈ found∨p ∈ waiting
 closed:∀ p ∈ found,∀ q,R p q->S q->q ∈ found∨q ∈ waiting
section
variable {R:Int->Int->Prop} {S A:Int->Prop} {found ws nbs:List Int} {p:Int}
theorem Dfs.init{starts:List Int}(h:∀ q,q ∈ starts ↔ A q/\S q):Dfs R S A [] starts:=
 ⟨List.nodup_nil,(fun _ h=>nomatch h),fun p hp=>.start ((h p).mp hp).1 ((h p).mp hp).2,fun p a s=>.inr ((h p).mpr ⟨a,s⟩),(fun _ h=>nomatch h)⟩
theorem Dfs.old(d:Dfs R S A found (ws++[p]))(hp:p ∈ found):Dfs R S A found ws:=by
 refine ⟨d.nd,d.sound,fun q hq=>d.soundW q (List.mem_append_left _ hq),fun q a s=>?_,fun q hq r hr s=>?_⟩
 ·rcases d.starts q a s with h | h
  ·exact .inl h
  ·rcases List.mem_append.mp h with h | h
   ·exact .inr h
   ·rw [List.mem_singleton.mp h];exact .inl hp
 ·rcases d.closed q hq r hr s with h | h
  ·exact .inl h
  ·rcases List.mem_append.mp h with h | h
   ·exact .inr h
   ·rw [List.mem_singleton.mp h];exact .inl hp
theorem Dfs.new(d:Dfs R S A found (ws++[p]))(hp:p ∉ found)(hn:∀ q,q ∈ nbs ↔ R p q/\S q):Dfs R S A (found++[p]) (ws++nbs):=by
 have rp:Reach R S A p:=d.soundW p (List.mem_append_right _ List.mem_cons_self)
 have mv:∀ q,q ∈ found∨q ∈ ws++[p]->q ∈ found++[p]∨q ∈ ws++nbs:=fun q h=>by
  rcases h with h | h
  ·exact .inl (List.mem_append_left _ h)
  ·rcases List.mem_append.mp h with h | h
   ·exact .inr (List.mem_append_left _ h)
   ·exact .inl (List.mem_append_right _ h)
 refine ⟨?_,fun q hq=>?_,fun q hq=>?_,fun q a s=>mv q (d.starts q a s),fun q hq r hr s=>?_⟩
 ·rw [List.nodup_append]
  refine ⟨d.nd,by simp,fun a ha b hb=>?_⟩
  rw [List.mem_singleton.mp hb]
  exact fun e=>hp (e ▸ ha)
 ·rcases List.mem_append.mp hq with h | h
  ·exact d.sound q h
  ·rw [List.mem_singleton.mp h];exact rp
 ·rcases List.mem_append.mp hq with h | h
  ·exact d.soundW q (List.mem_append_left _ h)
  ·exact .step rp ((hn q).mp h).1 ((hn q).mp h).2
 ·rcases List.mem_append.mp hq with h | h
  ·exact mv r (d.closed q h r hr s)
  ·rw [List.mem_singleton.mp h] at hr
   exact .inr (List.mem_append_right _ ((hn r).mpr ⟨hr,s⟩))
theorem Dfs.done(d:Dfs R S A found [])(q:Int):q ∈ found ↔ Reach R S A q:=by
 refine ⟨d.sound q,fun h=>?_⟩
 induction h with
 | start a s=>rcases d.starts _ a s with h | h;exact h;exact nomatch h
 | step h r s ih=>rcases d.closed _ ih _ r s with h | h;exact h;exact nomatch h
end
noncomputable def Place(w h p:Int):Prop:=0≤p/\p<w * h
noncomputable def Adj(w p q:Int):Prop:=(q=p+1/\p / w=q / w)∨(q+1=p/\p / w=q / w)∨q=p+w∨q+w=p
noncomputable def Rim(w h p:Int):Prop:=p % w=0∨p % w=w - 1∨p / w=0∨p / w=h - 1
theorem qo{w p:Int}(w1:1≤w)(h:p % w<w - 1):(p+1) / w=p / w/\(p+1) % w=p % w+1:=by
 have e:=Int.mul_ediv_add_emod p w
 have:=Int.emod_nonneg p (show w≠0 by omega)
 exact (Int.ediv_emod_unique (by omega)).mpr ⟨by omega,by omega,by omega⟩
theorem zdL{w p:Int}(w1:1≤w)(h:0<p % w):(p - 1) / w=p / w/\(p - 1) % w=p % w - 1:=by
 have e:=Int.mul_ediv_add_emod p w
 have:=Int.emod_lt_of_pos p (show 0<w by omega)
 exact (Int.ediv_emod_unique (by omega)).mpr ⟨by omega,by omega,by omega⟩
theorem zcV{w p:Int}(w1:1≤w)(h:p / w=(p+1) / w):p % w<w - 1:=by
 have e:=Int.mul_ediv_add_emod p w
 have e':=Int.mul_ediv_add_emod (p+1) w
 have:=Int.emod_lt_of_pos (p+1) (show 0<w by omega)
 rw [← h] at e'
 omega
theorem zhj{w p:Int}(w1:1≤w)(h:p / w=(p - 1) / w):0<p % w:=by
 have e:=Int.mul_ediv_add_emod p w
 have e':=Int.mul_ediv_add_emod (p - 1) w
 have:=Int.emod_nonneg (p - 1) (show w≠0 by omega)
 rw [← h] at e'
 omega
theorem zbt{w h p:Int}(w1:1≤w)(hp:Place w h p):0≤p / w/\p / w<h:=by
 obtain ⟨p0,p1⟩:=hp
 exact ⟨Int.ediv_nonneg p0 (by omega),Int.ediv_lt_of_lt_mul (by omega) (by rw [Int.mul_comm];exact p1)⟩
theorem zdo{c:Prop}[Decidable c]{a q:Int}:(q ∈ (if c then [a] else []:List Int)) ↔ c/\q=a:=by
 by_cases h:c
 ·simp [h]
 ·simp [h]
theorem Adj.symm{w p q:Int}(h:Adj w p q):Adj w q p:=by
 unfold Adj at *
 rcases h with ⟨a,b⟩ | ⟨a,b⟩ | a | a
 ·exact .inr (.inl ⟨by omega,b.symm⟩)
 ·exact .inl ⟨by omega,b.symm⟩
 ·exact .inr (.inr (.inr (by omega)))
 ·exact .inr (.inr (.inl (by omega)))
structure IsFloor (w h:Int) (F:List Int):Prop where
 w1:1≤w
 w6:w≤6
 h1:1≤h
 h6:h≤6
 ne:F≠[]
 rise:F.Pairwise (·<·)
 inn:∀ p ∈ F,Place w h p
 conn:∀ p ∈ F,Reach (Adj w) (· ∈ F) (fun q=>F.head?=some q) p
 noh:∀ p,Place w h p->p ∉ F->Reach (Adj w) (fun q=>Place w h q/\q ∉ F) (Rim w h) p
theorem xH{F:List Int}(h:F.Pairwise (·<·)):F.Nodup:=h.imp fun h e=>by omega
noncomputable def zi(w h:Int):List Int:=(List.range (w * h).toNat).map fun (n:Nat)=>(n:Int)
theorem mem_places{w h p:Int}:p ∈ zi w h ↔ Place w h p:=by
 unfold zi Place
 simp only [List.mem_map,List.mem_range]
 constructor
 ·rintro ⟨n,hn,rfl⟩;omega
 ·intro hp;exact ⟨p.toNat,by omega,by omega⟩
theorem zdc(w h:Int):(zi w h).Pairwise (·<·):=by
 unfold zi
 rw [List.pairwise_map]
 exact List.pairwise_lt_range.imp fun h=>by omega
theorem zlF{w h:Int}(w1:1≤w)(w6:w≤6)(h1:1≤h)(h6:h≤6){L O:Int->Prop}{a:Int}(hL:∀ p,L p->Place w h p)(ha:L a)
  (conn:∀ p,L p->Reach (Adj w) L (·=a) p)(hO:∀ p,O p ↔ Reach (Adj w) (fun q=>Place w h q/\¬ L q) (Rim w h) p)[DecidablePred O]:
  IsFloor w h ((zi w h).filter fun p=>!decide (O p)):=by
 have mem:∀ p,p ∈ ((zi w h).filter fun p=>!decide (O p)) ↔ Place w h p/\¬ O p:=fun p=>by
  rw [List.mem_filter,mem_places]
  simp
 have LO:∀ p,L p->¬ O p:=fun p hp ho=>((hO p).mp ho).inS.2 hp
 have hne:((zi w h).filter fun p=>!decide (O p))≠[]:=fun e=>by
  have:a ∈ ((zi w h).filter fun p=>!decide (O p)):=(mem a).mpr ⟨hL a ha,LO a ha⟩
  rw [e] at this;exact nomatch this
 -- within: from any field a row of fields leads left to L
 have toL:∀ (n:Nat) (p:Int),(p % w).toNat=n->Place w h p->¬ O p->¬ L p->∃ q,L q/\Reach (Adj w) (fun q=>Place w h q/\¬ O q) (·=q) p/\Reach (Adj w) (fun q=>Place w h q/\¬ O q) (·=p) q:=by
  intro n
  induction n with
  | zero=>
   intro p e hp ho hl
   refine absurd ((hO p).mpr (.start (.inl ?_) ⟨hp,hl⟩)) ho
   have:=Int.emod_nonneg p (show w≠0 by omega)
   omega
  | succ n ih=>
   intro p e hp ho hl
   have hm:0<p % w:=by omega
   obtain ⟨m1,m2⟩:=zdL w1 hm
   have pl:Place w h (p - 1):=by
    have hp0:p≠0:=fun e=>by rw [e,Int.zero_emod] at hm;omega
    exact ⟨by have:=hp.1;omega,by have:=hp.2;omega⟩
   have e':((p - 1) % w).toNat=n:=by omega
   have adj:Adj w p (p - 1):=.inr (.inl ⟨Int.sub_add_cancel p 1,m1.symm⟩)
   by_cases hl':L (p - 1)
   ·exact ⟨p - 1,hl',.step (.start rfl ⟨pl,LO _ hl'⟩) adj.symm ⟨hp,ho⟩,.step (.start rfl ⟨hp,ho⟩) adj ⟨pl,LO _ hl'⟩⟩
   ·have ho':¬ O (p - 1):=fun z=>ho ((hO p).mpr (.step ((hO _).mp z) adj.symm ⟨hp,hl⟩))
    obtain ⟨q,hq,r1,r2⟩:=ih (p - 1) e' pl ho' hl'
    refine ⟨q,hq,.step r1 adj.symm ⟨hp,ho⟩,r2.mono (fun z e _=>?_) fun z hz=>hz.inS⟩
    rw [e]
    exact .step (.start rfl ⟨hp,ho⟩) adj ⟨pl,ho'⟩
 -- L is within one reach of a
 have mono:∀ p,L p->Reach (Adj w) (fun q=>Place w h q/\¬ O q) (·=a) p:=fun p hp=>(conn p hp).mono (fun q e s=>.start e ⟨hL q s,LO q s⟩) fun q r=>⟨hL q r.inS,LO q r.inS⟩
 have fromA:∀ p,Place w h p->¬ O p->Reach (Adj w) (fun q=>Place w h q/\¬ O q) (·=a) p:=fun p hp ho=>by
  by_cases hl:L p
  ·exact mono p hl
  ·obtain ⟨q,hq,r1,_⟩:=toL _ p rfl hp ho hl
   exact r1.mono (fun z e _=>e ▸ mono q hq) fun z r=>r.inS
 have rev:∀ (S:Int->Prop) (b p:Int),Reach (Adj w) S (·=b) p->Reach (Adj w) S (·=p) b:=fun S b p r=>by
  induction r with
  | start e s=>subst e;exact .start rfl s
  | @step p q r adj s ih=>exact ih.mono (fun z e sz=>by subst e;exact .step (.start rfl s) adj.symm sz) fun z r=>r.inS
 have cn:∀ (S:Int->Prop) (b p:Int),Reach (Adj w) S (·=a) b->Reach (Adj w) S (·=a) p->Reach (Adj w) S (·=b) p:=fun S b p rb rp=>
  rp.mono (fun z e s=>by subst e;exact rev S _ _ rb) fun z r=>r.inS
 refine ⟨w1,w6,h1,h6,hne,(zdc w h).sublist List.filter_sublist,fun p hp=>((mem p).mp hp).1,fun p hp=>?_,fun p hp hn=>?_⟩
 ·cases hF:((zi w h).filter fun p=>!decide (O p)) with
  | nil=>exact absurd hF hne
  | cons b r=>
   have hb:b ∈ ((zi w h).filter fun p=>!decide (O p)):=by rw [hF];exact List.mem_cons_self
   rw [hF] at hp
   have hp':p ∈ ((zi w h).filter fun p=>!decide (O p)):=by rw [hF];exact hp
   have:=cn _ b p (fromA b ((mem b).mp hb).1 ((mem b).mp hb).2) (fromA p ((mem p).mp hp').1 ((mem p).mp hp').2)
   refine this.mono (fun q e s=>.start (by subst e;rfl) ?_) fun q r=>?_
   ·rw [← hF];exact (mem q).mpr s
   ·rw [← hF];exact (mem q).mpr r.inS
 ·have ho:O p:=Classical.byContradiction fun z=>hn ((mem p).mpr ⟨hp,z⟩)
  have all:∀ q,Reach (Adj w) (fun q=>Place w h q/\¬ L q) (Rim w h) q->Place w h q/\q ∉ ((zi w h).filter fun p=>!decide (O p)):=fun q r=>
   ⟨r.inS.1,fun z=>((mem q).mp z).2 ((hO q).mpr r)⟩
  exact ((hO p).mp ho).mono (fun q ri s=>.start ri (all q (.start ri s))) fun q r=>all q r
noncomputable abbrev Pt:=Int × Int
noncomputable def Nb(p q:Pt):Prop:=(q.1=p.1+1/\q.2=p.2)∨(q.1+1=p.1/\q.2=p.2)∨(q.1=p.1/\q.2=p.2+1)∨(q.1=p.1/\q.2+1=p.2)
noncomputable def Clo(a u:Int->Int->Int)(p:Pt):Prop:=a p.1 p.2+u (p.1+1) p.2=u p.1 p.2+a p.1 (p.2+1)
noncomputable def AcS(S:Pt->Prop)(x y:Int):Prop:=S (x,y)∨S (x,y - 1)
noncomputable def UpS(S:Pt->Prop)(x y:Int):Prop:=S (x,y)∨S (x - 1,y)
noncomputable def zcT(f:Int->Int->Int)(x y v:Int):Int->Int->Int:=fun i j=>if i=x/\j=y then v else f i j
theorem jI{f:Int->Int->Int}{x y v:Int}:zcT f x y v x y=v:=by simp [zcT]
theorem vN{f:Int->Int->Int}{x y v i j:Int}(h:¬ (i=x/\j=y)):zcT f x y v i j=f i j:=by simp [zcT,h]
noncomputable def Ord(G:Pt->Prop):List Pt->Prop
 | []=>True
 | p::r=>(∃ q,Nb p q/\(q ∈ r∨¬ G q))/\p ∉ r/\Ord G r
theorem extend(G:Pt->Prop):∀ (L:List Pt) (S:Pt->Prop) (a u:Int->Int->Int),(∀ p,S p->G p)->(∀ p ∈ L,G p/\¬ S p)->Ord G L->(∀ p,S p->Clo a u p)->
  ∃ a' u',(∀ x y,AcS S x y->a' x y=a x y)/\(∀ x y,UpS S x y->u' x y=u x y)/\∀ p,(S p∨p ∈ L)->Clo a' u' p
 | [],S,a,u,_,_,_,hc=>⟨a,u,fun _ _ _=>rfl,fun _ _ _=>rfl,fun p h=>h.elim (hc p) fun z=>nomatch z⟩
 | p::L,S,a,u,hS,hL,hO,hc=>by
  obtain ⟨⟨q,nb,hq⟩,hp,hO⟩:=hO
  obtain ⟨x,y⟩:=p
  obtain ⟨i,j⟩:=q
  have qS:¬ S (i,j):=fun z=>hq.elim (fun m=>(hL _ (List.mem_cons_of_mem _ m)).2 z) fun g=>g (hS _ z)
  have pS:¬ S (x,y):=(hL _ List.mem_cons_self).2
  -- the exit's side takes what is lacking
  have key:∃ a1 u1,(∀ X Y,AcS S X Y->a1 X Y=a X Y)/\(∀ X Y,UpS S X Y->u1 X Y=u X Y)/\Clo a1 u1 (x,y):=by
   have ne:∀ X Y,S (X,Y)->¬ (X=x/\Y=y)/\¬ (X=i/\Y=j):=fun X Y z=>⟨fun e=>pS (by rw [← e.1,← e.2];exact z),fun e=>qS (by rw [← e.1,← e.2];exact z)⟩
   unfold Nb at nb
   dsimp only at nb
   rcases nb with ⟨e1,e2⟩ | ⟨e1,e2⟩ | ⟨e1,e2⟩ | ⟨e1,e2⟩
   ·refine ⟨a,zcT u (x+1) y (u x y+a x (y+1) - a x y),fun _ _ _=>rfl,fun X Y h=>vN fun e=>?_,?_⟩
    ·unfold UpS at h
     rcases h with h | h
     ·exact (ne _ _ h).2 (by omega)
     ·exact (ne _ _ h).1 (by omega)
    ·unfold Clo;dsimp only
     rw [jI,vN (by omega)];omega
   ·refine ⟨a,zcT u x y (a x y+u (x+1) y - a x (y+1)),fun _ _ _=>rfl,fun X Y h=>vN fun e=>?_,?_⟩
    ·unfold UpS at h
     rcases h with h | h
     ·exact (ne _ _ h).1 (by omega)
     ·exact (ne _ _ h).2 (by omega)
    ·unfold Clo;dsimp only
     rw [jI,vN (by omega)];omega
   ·refine ⟨zcT a x (y+1) (a x y+u (x+1) y - u x y),u,fun X Y h=>vN fun e=>?_,fun _ _ _=>rfl,?_⟩
    ·unfold AcS at h
     rcases h with h | h
     ·exact (ne _ _ h).2 (by omega)
     ·exact (ne _ _ h).1 (by omega)
    ·unfold Clo;dsimp only
     rw [jI,vN (by omega)];omega
   ·refine ⟨zcT a x y (u x y+a x (y+1) - u (x+1) y),u,fun X Y h=>vN fun e=>?_,fun _ _ _=>rfl,?_⟩
    ·unfold AcS at h
     rcases h with h | h
     ·exact (ne _ _ h).1 (by omega)
     ·exact (ne _ _ h).2 (by omega)
    ·unfold Clo;dsimp only
     rw [jI,vN (by omega)];omega
  obtain ⟨a1,u1,k1,k2,k3⟩:=key
  have clo1:∀ r,S r->Clo a1 u1 r:=fun r hr=>by
   obtain ⟨X,Y⟩:=r
   have h1:=hc _ hr
   unfold Clo at h1 ⊢
   dsimp only at h1 ⊢
   rw [k1 X Y (.inl hr),k1 X (Y+1) (.inr (by rw [show Y+1 - 1=Y by omega];exact hr)),k2 X Y (.inl hr),k2 (X+1) Y (.inr (by rw [show X+1 - 1=X by omega];exact hr))]
   exact h1
  obtain ⟨a2,u2,g1,g2,g3⟩:=extend G L (fun r=>S r∨r=(x,y)) a1 u1 (fun r h=>h.elim (hS r) fun e=>by rw [e];exact (hL _ List.mem_cons_self).1)
   (fun r hr=>⟨(hL r (List.mem_cons_of_mem _ hr)).1,fun z=>z.elim (hL r (List.mem_cons_of_mem _ hr)).2 fun e=>hp (e ▸ hr)⟩) hO (fun r h=>h.elim (clo1 r) fun e=>by rw [e];exact k3)
  refine ⟨a2,u2,fun X Y h=>?_,fun X Y h=>?_,fun r h=>?_⟩
  ·rw [g1 X Y (h.elim (fun z=>.inl (.inl z)) fun z=>.inr (.inl z)),k1 X Y h]
  ·rw [g2 X Y (h.elim (fun z=>.inl (.inl z)) fun z=>.inr (.inl z)),k2 X Y h]
  ·refine g3 r ?_
   rcases h with h | h
   ·exact .inl (.inl h)
   ·rcases List.mem_cons.mp h with h | h
    ·exact .inl (.inr h)
    ·exact .inr h
noncomputable def zbX(f:Int->Int):Nat->Int
 | 0=>0
 | n+1=>zbX f n+f n
theorem zlC{w h:Nat}{a u:Int->Int->Int}(hc:∀ (x y:Nat),x<w->y<h->Clo a u ((x:Int),(y:Int))):
  ∃ φ:Int->Int->Int,φ 0 0=0/\(∀ x y:Nat,x<w->y≤h->φ (x+1) y=φ x y+a x y)/\(∀ x y:Nat,x≤w->y<h->φ x (y+1)=φ x y+u x y):=by
 refine ⟨fun x y=>zbX (fun i=>a i 0) x.toNat+zbX (fun j=>u x j) y.toNat,rfl,fun x y hx hy=>?_,fun x y hx hy=>?_⟩
 ·dsimp only
  have e1:((x:Int)+1).toNat=x+1:=by omega
  rw [e1,Int.toNat_natCast,Int.toNat_natCast]
  have:∀ n:Nat,n≤h->zbX (fun j=>u ((x:Int)+1) j) n+a x 0=zbX (fun j=>u x j) n+a x n:=by
   intro n
   induction n with
   | zero=>intro _;simp [zbX]
   | succ n ih=>
    intro hn
    have c:=hc x n hx (by omega)
    unfold Clo at c
    dsimp only at c
    have:=ih (by omega)
    simp only [zbX]
    have e:((n+1:Nat):Int)=(n:Int)+1:=by omega
    rw [e]
    omega
  have:=this y hy
  simp only [zbX]
  omega
 ·dsimp only
  have e1:((y:Int)+1).toNat=y+1:=by omega
  rw [e1]
  simp only [Int.toNat_natCast,zbX]
  omega
noncomputable def OrdR(R:Int->Int->Prop)(A:Int->Prop):List Int->Prop
 | []=>True
 | p::r=>(A p∨∃ q ∈ r,R q p)/\p ∉ r/\OrdR R A r
theorem OrdR.nodup{R:Int->Int->Prop}{A:Int->Prop}:∀ {L:List Int},OrdR R A L->L.Nodup
 | [],_=>List.nodup_nil
 | _::_,h=>List.nodup_cons.mpr ⟨h.2.1,OrdR.nodup h.2.2⟩
theorem zdg{R:Int->Int->Prop}{A:Int->Prop}{S:Int->Prop}(L:List Int){p:Int}(h:Reach R S A p):p ∈ L∨∃ z,S z/\z ∉ L/\(A z∨∃ q ∈ L,R q z):=by
 induction h with
 | @start p a s=>
  by_cases hp:p ∈ L
  ·exact .inl hp
  ·exact .inr ⟨p,s,hp,.inl a⟩
 | @step p q h r s ih=>
  rcases ih with ih | ih
  ·by_cases hq:q ∈ L
   ·exact .inl hq
   ·exact .inr ⟨q,s,hq,.inr ⟨p,ih,r⟩⟩
  ·exact .inr ih
theorem zjN{R:Int->Int->Prop}{A:Int->Prop}(N:List Int)(h:∀ p ∈ N,Reach R (· ∈ N) A p):∀ (n:Nat) (L:List Int),N.length - L.length=n->(∀ p ∈ L,p ∈ N)->OrdR R A L->∃ L',(∀ p,p ∈ L' ↔ p ∈ N)/\OrdR R A L':=by
 intro n
 induction n with
 | zero=>
  intro L e hs ho
  refine ⟨L,fun p=>⟨hs p,fun hp=>?_⟩,ho⟩
  rcases zdg L (h p hp) with z | ⟨z,h1,h2,h3⟩
  ·exact z
  ·have:(z::L).length≤N.length:=zX _ _ (List.nodup_cons.mpr ⟨h2,ho.nodup⟩) fun q hq=>by
    rcases List.mem_cons.mp hq with e | hq
    ·rw [e];exact h1
    ·exact hs q hq
   simp only [List.length_cons] at this
   omega
 | succ n ih=>
  intro L e hs ho
  by_cases all:∀ p ∈ N,p ∈ L
  ·exact ⟨L,fun p=>⟨hs p,all p⟩,ho⟩
  ·obtain ⟨p,hp,hpL⟩:∃ p,p ∈ N/\p ∉ L:=Classical.byContradiction fun z=>all fun p hp=>Classical.byContradiction fun q=>z ⟨p,hp,q⟩
   rcases zdg L (h p hp) with z | ⟨z,h1,h2,h3⟩
   ·exact absurd z hpL
   ·refine ih (z::L) (by simp only [List.length_cons];omega) (fun q hq=>?_) ⟨h3,h2,ho⟩
    rcases List.mem_cons.mp hq with e | hq
    ·rw [e];exact h1
    ·exact hs q hq
noncomputable def pt(w p:Int):Pt:=(p % w,p / w)
theorem zhv{w p q:Int}(h:pt w p=pt w q):p=q:=by
 unfold pt at h
 injection h with h1 h2
 rw [← Int.emod_add_mul_ediv p w,← Int.emod_add_mul_ediv q w,h1,h2]
theorem zha{w:Int}(w1:1≤w)(p:Int):(p+w) / w=p / w+1/\(p+w) % w=p % w:=by
 have d:(p+w) / w=p / w+1:=(Int.add_ediv_of_dvd_right (Int.dvd_refl w)).trans (by rw [Int.ediv_self (by omega)])
 refine ⟨d,?_⟩
 have a:=Int.mul_ediv_add_emod p w
 have b:=Int.mul_ediv_add_emod (p+w) w
 rw [d,Int.mul_add,Int.mul_one] at b
 omega
theorem zhb{w p:Int}(e:p / w=(p+1) / w):(p+1) % w=p % w+1:=by
 have a:=Int.mul_ediv_add_emod p w
 have b:=Int.mul_ediv_add_emod (p+1) w
 rw [← e] at b
 omega
theorem zlT{w p q:Int}(w1:1≤w)(h:Adj w p q):Nb (pt w p) (pt w q):=by
 unfold Nb pt
 dsimp only
 rcases h with ⟨rfl,e⟩ | ⟨e1,e⟩ | rfl | e
 ·exact .inl ⟨zhb e,e.symm⟩
 ·have:=e1.symm
  obtain rfl:p=q+1:=by omega
  exact .inr (.inl ⟨(zhb e.symm).symm,e.symm⟩)
 ·obtain ⟨a,b⟩:=zha w1 p
  exact .inr (.inr (.inl ⟨b,a⟩))
 ·subst e
  obtain ⟨a,b⟩:=zha w1 q
  exact .inr (.inr (.inr ⟨b.symm,a.symm⟩))
theorem zka{w h x y:Int}(w1:1≤w)(x0:0≤x)(x1:x<w)(y0:0≤y)(y1:y<h):Place w h (y * w+x)/\(y * w+x) % w=x/\(y * w+x) / w=y:=by
 obtain ⟨a,b⟩:=(Int.ediv_emod_unique (a:=y * w+x) (b:=w) (q:=y) (r:=x) (by omega)).mpr ⟨by rw [Int.mul_comm];omega,x0,x1⟩
 have h1:0≤y * w:=Int.mul_nonneg y0 (by omega)
 have h2:(y+1) * w≤h * w:=Int.mul_le_mul_of_nonneg_right (by omega) (by omega)
 rw [Int.add_mul,Int.one_mul] at h2
 have h3:h * w=w * h:=Int.mul_comm _ _
 exact ⟨⟨by omega,by omega⟩,b,a⟩
theorem zfc{w h:Int}(w1:1≤w)(w6:w≤6)(h1:1≤h):∀ (L:List Int),(∀ p ∈ L,Place w h p)->OrdR (Adj w) (Rim w h) L->Ord (fun q=>0≤q.1/\q.1<w/\0≤q.2/\q.2<h) (L.map (pt w))
 | [],_,_=>trivial
 | p::r,hL,⟨hx,hn,ho⟩=>by
  refine ⟨?_,fun z=>?_,zfc w1 w6 h1 r (fun q hq=>hL q (List.mem_cons_of_mem _ hq)) ho⟩
  ·have hp:=hL p List.mem_cons_self
   rcases hx with hx | ⟨q,hq,ha⟩
   ·unfold Rim at hx
    rcases hx with e | e | e | e
    ·exact ⟨(p % w - 1,p / w),.inr (.inl ⟨by simp only [pt];omega,rfl⟩),.inr fun z=>by have:=z.1;simp only at this;omega⟩
    ·exact ⟨(p % w+1,p / w),.inl ⟨by simp only [pt],rfl⟩,.inr fun z=>by have:=z.2.1;simp only at this;omega⟩
    ·exact ⟨(p % w,p / w - 1),.inr (.inr (.inr ⟨rfl,by simp only [pt];omega⟩)),.inr fun z=>by have:=z.2.2.1;simp only at this;omega⟩
    ·exact ⟨(p % w,p / w+1),.inr (.inr (.inl ⟨rfl,by simp only [pt]⟩)),.inr fun z=>by have:=z.2.2.2;simp only at this;omega⟩
   ·refine ⟨pt w q,?_,.inl (List.mem_map.mpr ⟨q,hq,rfl⟩)⟩
    exact zlT w1 ha.symm
  ·obtain ⟨q,hq,e⟩:=List.mem_map.mp z
   exact hn (zhv e ▸ hq)
theorem zcB{w h:Int}{F:List Int}(I:IsFloor w h F){a u:Int->Int->Int}(hc:∀ p ∈ F,Clo a u (pt w p)):
  ∃ φ:Int->Int->Int,φ 0 0=0/\∀ p ∈ F,φ (p % w+1) (p / w)=φ (p % w) (p / w)+a (p % w) (p / w)/\φ (p % w+1) (p / w+1)=φ (p % w) (p / w+1)+a (p % w) (p / w+1)/\
   φ (p % w) (p / w+1)=φ (p % w) (p / w)+u (p % w) (p / w)/\φ (p % w+1) (p / w+1)=φ (p % w+1) (p / w)+u (p % w+1) (p / w):=by
 have w1:=I.w1
 have w6:=I.w6
 have h1:=I.h1
 -- the bare zi,from the outside inwards
 let N:=(zi w h).filter fun p=>!decide (p ∈ F)
 have memN:∀ p,p ∈ N ↔ Place w h p/\p ∉ F:=fun p=>by
  show p ∈ (zi w h).filter (fun p=>!decide (p ∈ F)) ↔ _
  rw [List.mem_filter,mem_places];simp
 obtain ⟨L,hL,ho⟩:=zjN N (fun p hp=>(I.noh p ((memN p).mp hp).1 ((memN p).mp hp).2).mono (fun q ri s=>.start ri ((memN q).mpr s)) fun q r=>(memN q).mpr r.inS) (N.length - 0) [] rfl (fun _ z=>nomatch z) trivial
 have hLp:∀ p ∈ L,Place w h p/\p ∉ F:=fun p hp=>(memN p).mp ((hL p).mp hp)
 have grid:∀ p,Place w h p->0≤p % w/\p % w<w/\0≤p / w/\p / w<h:=fun p hp=>by
  have hr:=zbt w1 hp
  exact ⟨Int.emod_nonneg _ (by omega),Int.emod_lt_of_pos _ (by omega),hr.1,hr.2⟩
 obtain ⟨a',u',ga,gu,gc⟩:=extend (fun q=>0≤q.1/\q.1<w/\0≤q.2/\q.2<h) (L.map (pt w)) (fun q=>∃ p ∈ F,q=pt w p) a u
  (fun q ⟨p,hp,e⟩=>by rw [e];exact grid p (I.inn p hp))
  (fun q hq=>by
   obtain ⟨p,hp,rfl⟩:=List.mem_map.mp hq
   exact ⟨grid p (hLp p hp).1,fun ⟨r,hr,e⟩=>(hLp p hp).2 (zhv e ▸ hr)⟩)
  (zfc w1 w6 h1 L (fun p hp=>(hLp p hp).1) ho) (fun q ⟨p,hp,e⟩=>by rw [e];exact hc p hp)
 have all:∀ (x y:Nat),x<w.toNat->y<h.toNat->Clo a' u' ((x:Int),(y:Int)):=fun x y hx hy=>by
  have hp:Place w h ((y:Int) * w+x)/\((y:Int) * w+x) % w=x/\((y:Int) * w+x) / w=y:=zka w1 (Int.natCast_nonneg _) (by omega) (Int.natCast_nonneg _) (by omega)
  have e:((x:Int),(y:Int))=pt w ((y:Int) * w+x):=by unfold pt;rw [hp.2.1,hp.2.2]
  refine gc _ ?_
  rw [e]
  by_cases hF:((y:Int) * w+x) ∈ F
  ·exact .inl ⟨_,hF,rfl⟩
  ·exact .inr (List.mem_map.mpr ⟨_,(hL _).mpr ((memN _).mpr ⟨hp.1,hF⟩),rfl⟩)
 obtain ⟨φ,z,f1,f2⟩:=zlC all
 refine ⟨φ,z,fun p hp=>?_⟩
 have hg:=grid p (I.inn p hp)
 have hS:∃ r ∈ F,((p % w,p / w):Pt)=pt w r:=⟨p,hp,rfl⟩
 obtain ⟨x,hx⟩:=Int.eq_ofNat_of_zero_le hg.1
 obtain ⟨y,hy⟩:=Int.eq_ofNat_of_zero_le hg.2.2.1
 have b1:=f1 x y (by omega) (by omega)
 have b2:=f1 x (y+1) (by omega) (by omega)
 have b3:=f2 x y (by omega) (by omega)
 have b4:=f2 (x+1) y (by omega) (by omega)
 have c1:=ga (p % w) (p / w) (.inl hS)
 have c2:=ga (p % w) (p / w+1) (.inr (by rw [show p / w+1 - 1=p / w by omega];exact hS))
 have c3:=gu (p % w) (p / w) (.inl hS)
 have c4:=gu (p % w+1) (p / w) (.inr (by rw [show p % w+1 - 1=p % w by omega];exact hS))
 rw [hx,hy] at c1 c2 c3 c4 ⊢
 have e1:((y+1:Nat):Int)=(y:Int)+1:=by omega
 have e2:((x+1:Nat):Int)=(x:Int)+1:=by omega
 rw [e1] at b2
 rw [e2] at b4
 rw [c1] at b1
 rw [c2] at b2
 rw [c3] at b3
 rw [c4] at b4
 exact ⟨b1,b2,b3,b4⟩
end CB
set_option maxHeartbeats 4000000
namespace CB
noncomputable def zt(d s:Int)(k:Nat):List Int:=(List.range k).map fun (i:Nat)=>s+i * d
theorem mem_chain{d s x:Int}{k:Nat}:x ∈ zt d s k ↔ ∃ i:Nat,i<k/\x=s+i * d:=by
 unfold zt
 rw [List.mem_map]
 exact ⟨fun ⟨i,h,e⟩=>⟨i,List.mem_range.mp h,e.symm⟩,fun ⟨i,h,e⟩=>⟨i,List.mem_range.mpr h,e.symm⟩⟩
theorem xz(d s:Int)(k:Nat):zt d s (k+1)=zt d s k++[s+k * d]:=by
 unfold zt
 rw [List.range_succ,List.map_append];rfl
theorem qW(d s:Int):zt d s 1=[s]:=by simp [zt]
theorem yb(d s:Int)(k:Nat):(zt d s k).length=k:=by simp [zt]
theorem qq(i:Nat)(d:Int):((i+1:Nat):Int) * d=i * d+d:=by rw [Int.natCast_succ,Int.add_mul,Int.one_mul]
theorem zfe{i j:Nat}{d:Int}(hd:0<d)(h:i<j):(i:Int) * d<j * d:=Int.mul_lt_mul_of_pos_right (by omega) hd
theorem zhT{i j:Nat}{d:Int}(hd:0<d)(h:(i:Int) * d=j * d):i=j:=by
 rcases Nat.lt_trichotomy i j with z | z | z
 ·have:=zfe hd z;omega
 ·exact z
 ·have:=zfe hd z;omega
theorem wl{d:Int}(hd:0<d)(s:Int)(k:Nat):(zt d s k).Nodup:=by
 unfold zt
 rw [List.nodup_iff_pairwise_ne,List.pairwise_map]
 exact List.Pairwise.imp (fun h e=>h (zhT hd (by omega))) (List.nodup_iff_pairwise_ne.mp List.nodup_range)
section
variable {F:List Int} {d:Int} {stop:Int->Bool} {pre:List Int} {ps qs:List (Int × Nat)} {f:Int}
noncomputable def yL(F:List Int)(d:Int)(stop:Int->Bool)(f:Int):Bool:=stop f || !decide (f - d ∈ F)
structure Runs0 (F:List Int) (d:Int) (stop:Int->Bool) (pre:List Int) (ps:List (Int × Nat)):Prop where
 heads:ps.map (·.1)=pre.filter (yL F d stop)
 pos:∀ x ∈ ps,1≤x.2
 inn:∀ x ∈ ps,∀ i:Nat,i<x.2->x.1+i * d ∈ pre/\(0<i->stop (x.1+i * d)=false)
 mx:∀ x ∈ ps,x.1+x.2 * d ∈ pre->stop (x.1+x.2 * d)=true
structure Runs (F:List Int) (d:Int) (stop:Int->Bool) (pre:List Int) (ps:List (Int × Nat)):Prop extends Runs0 F d stop pre ps where
 cov:∀ f ∈ pre,∃ x ∈ ps,∃ i:Nat,i<x.2/\f=x.1+i * d
theorem Runs0.uniq(a:Runs0 F d stop pre ps)(b:Runs0 F d stop pre qs):ps=qs:=by
 have hh:=a.heads.trans b.heads.symm
 have hl:ps.length=qs.length:=by have:=congrArg List.length hh;simpa using this
 refine List.ext_getElem hl fun i h1 h2=>?_
 have e1:ps[i].1=qs[i].1:=by
  have:=List.getElem_of_eq hh (by simpa using h1)
  simpa using this
 have m1:ps[i] ∈ ps:=List.getElem_mem h1
 have m2:qs[i] ∈ qs:=List.getElem_mem h2
 have lt:∀ {ps qs:List (Int × Nat)} {x y:Int × Nat},Runs0 F d stop pre ps->Runs0 F d stop pre qs->x ∈ ps->y ∈ qs->x.1=y.1->¬ x.2<y.2:=by
  intro ps qs x y a b hx hy e h
  obtain ⟨i1,i2⟩:=b.inn y hy x.2 h
  rw [← e] at i1 i2
  have:=a.mx x hx i1
  rw [i2 (a.pos x hx)] at this
  cases this
 have e2:ps[i].2=qs[i].2:=by
  have h3:=lt a b m1 m2 e1
  have h4:=lt b a m2 m1 e1.symm
  omega
 exact Prod.ext e1 e2
theorem Runs.start(r:Runs0 F d stop pre ps){x:Int × Nat}(hx:x ∈ ps):x.1 ∈ pre/\yL F d stop x.1=true:=by
 have:x.1 ∈ ps.map (·.1):=List.mem_map.mpr ⟨x,hx,rfl⟩
 rw [r.heads] at this
 exact List.mem_filter.mp this
theorem Runs.same(r:Runs0 F d stop pre ps)(sub:∀ p ∈ pre,p ∈ F){x y:Int × Nat}(hx:x ∈ ps)(hy:y ∈ ps){i j:Nat}(hi:i<x.2)(hj:j<y.2)(e:x.1+i * d=y.1+j * d):x.1=y.1:=by
 have key:∀ {x y:Int × Nat},x ∈ ps->y ∈ ps->∀ {i j:Nat},j<y.2->x.1+i * d=y.1+j * d->i<j->False:=by
  intro x y hx hy i j hj e h
  obtain ⟨m,rfl⟩:∃ m,j=i+(m+1):=⟨j - i - 1,by omega⟩
  have e1:x.1=y.1+((m+1:Nat):Int) * d:=by
   have:((i+(m+1):Nat):Int) * d=i * d+((m+1:Nat):Int) * d:=by rw [Int.natCast_add,Int.add_mul]
   omega
  have i1:=r.inn y hy (m+1) (by omega)
  have i2:=r.inn y hy m (by omega)
  have e2:x.1 - d=y.1+m * d:=by have:=qq m d;omega
  have s:=(Runs.start r hx).2
  unfold yL at s
  rw [e2,e1,i1.2 (by omega)] at s
  simp [sub _ i2.1] at s
 rcases Nat.lt_trichotomy i j with h | h | h
 ·exact (key hx hy hj e h).elim
 ·subst h;omega
 ·exact (key hy hx hi e.symm h).elim
theorem Runs.clash(r:Runs0 F d stop pre ps)(sub:∀ p ∈ pre,p ∈ F){x y:Int × Nat}(hx:x ∈ ps)(hy:y ∈ ps){q:Nat}(e:x.1=y.1+((q+1:Nat):Int) * d)(hq:q+1<y.2):False:=by
 have i1:=r.inn y hy (q+1) hq
 have i2:=r.inn y hy q (by omega)
 have e2:x.1 - d=y.1+q * d:=by have:=qq q d;omega
 have s:=(Runs.start r hx).2
 unfold yL at s
 rw [e2,e,i1.2 (by omega)] at s
 simp [sub _ i2.1] at s
theorem Runs.heads_nd(r:Runs0 F d stop pre ps)(nd:pre.Nodup):(ps.map (·.1)).Nodup:=by rw [r.heads];exact nd.filter _
theorem Runs.ix(r:Runs0 F d stop pre ps)(nd:pre.Nodup){i j:Nat}{x y:Int × Nat}(hi:ps[i]?=some x)(hj:ps[j]?=some y)(e:x.1=y.1):i=j:=by
 have h:=Runs.heads_nd r nd
 obtain ⟨l1,rfl⟩:=List.getElem?_eq_some_iff.mp hi
 obtain ⟨l2,rfl⟩:=List.getElem?_eq_some_iff.mp hj
 rcases Nat.lt_trichotomy i j with z | z | z
 ·have:=List.pairwise_iff_getElem.mp h i j (by simpa using l1) (by simpa using l2) z
  exact absurd (by simpa using e) this
 ·exact z
 ·have:=List.pairwise_iff_getElem.mp h j i (by simpa using l2) (by simpa using l1) z
  exact absurd (by simpa using e.symm) this
theorem Runs.one(r:Runs F d stop pre ps)(sub:∀ p ∈ pre,p ∈ F)(nd:pre.Nodup)(hf:f ∈ pre):∃ k,k<ps.length/\∀ j x,ps[j]?=some x->(f ∈ zt d x.1 x.2 ↔ j=k):=by
 obtain ⟨x,hx,i,hi,e⟩:=r.cov f hf
 obtain ⟨k,hk,rfl⟩:=List.getElem_of_mem hx
 refine ⟨k,hk,fun j y hj=>⟨fun h=>?_,fun h=>?_⟩⟩
 ·obtain ⟨i',hi',e'⟩:=mem_chain.mp h
  exact Runs.ix r.toRuns0 nd hj (List.getElem?_eq_getElem hk) (Runs.same r.toRuns0 sub (List.mem_of_getElem? hj) hx hi' hi (by omega))
 ·subst h
  rw [List.getElem?_eq_getElem hk] at hj
  cases hj
  exact mem_chain.mpr ⟨i,hi,e⟩
theorem Runs.nil:Runs F d stop [] []:=⟨⟨rfl,by simp,by simp,by simp⟩,by simp⟩
theorem Runs.new(r:Runs F d stop pre ps)(hd:0<d)(sub:∀ p ∈ pre,p ∈ F)(lt:∀ p ∈ pre,p<f)(hs:yL F d stop f=true):Runs F d stop (pre++[f]) (ps++[(f,1)]):=by
 refine ⟨⟨?_,?_,?_,?_⟩,?_⟩
 ·rw [List.map_append,List.filter_append,r.heads];simp [hs]
 ·intro x hx
  rcases List.mem_append.mp hx with hx | hx
  ·exact r.pos x hx
  ·rw [List.mem_singleton.mp hx];exact Nat.le_refl _
 ·intro x hx i hi
  rcases List.mem_append.mp hx with hx | hx
  ·have:=r.inn x hx i hi
   exact ⟨List.mem_append_left _ this.1,this.2⟩
  ·rw [List.mem_singleton.mp hx] at hi ⊢
   have:i=0:=by simp at hi;exact hi
   subst this
   simp
 ·intro x hx hm
  rcases List.mem_append.mp hx with hx | hx
  ·rcases List.mem_append.mp hm with hm | hm
   ·exact r.mx x hx hm
   ·have e:=List.mem_singleton.mp hm
    have p:=r.pos x hx
    obtain ⟨m,hm'⟩:∃ m,x.2=m+1:=⟨x.2 - 1,by omega⟩
    have i1:=r.inn x hx m (by omega)
    have e2:f - d=x.1+m * d:=by rw [← e,hm'];have:=qq m d;omega
    rw [e]
    unfold yL at hs
    rw [e2] at hs
    simpa [sub _ i1.1] using hs
  ·rw [List.mem_singleton.mp hx] at hm ⊢
   simp only [Int.natCast_one,Int.one_mul] at hm
   rcases List.mem_append.mp hm with hm | hm
   ·have:=lt _ hm;omega
   ·have:=List.mem_singleton.mp hm;omega
 ·intro g hg
  rcases List.mem_append.mp hg with hg | hg
  ·obtain ⟨x,hx,i,hi,e⟩:=r.cov g hg
   exact ⟨x,List.mem_append_left _ hx,i,hi,e⟩
  ·exact ⟨(f,1),by simp,0,by simp,by rw [List.mem_singleton.mp hg];simp⟩
theorem Runs.ext(r:Runs F d stop pre ps)(hd:0<d)(sub:∀ p ∈ pre,p ∈ F)(nd:pre.Nodup)(lt:∀ p ∈ pre,p<f)(hs:yL F d stop f=false){a:Nat}{s:Int}{k:Nat}(ha:ps[a]?=some (s,k))(e:f=s+k * d):Runs F d stop (pre++[f]) (ps.set a (s,k+1)):=by
 obtain ⟨al,ae⟩:=List.getElem?_eq_some_iff.mp ha
 have hx:(s,k) ∈ ps:=List.mem_of_getElem? ha
 have st:stop f=false:=by unfold yL at hs;rw [Bool.or_eq_false_iff] at hs;exact hs.1
 have cases':∀ x ∈ ps.set a (s,k+1),x=(s,k+1)∨∃ b,b≠a/\ps[b]?=some x:=by
  intro x hx
  obtain ⟨b,hb⟩:=List.mem_iff_getElem?.mp hx
  rw [List.getElem?_set] at hb
  by_cases hba:a=b
  ·rw [if_pos hba] at hb
   exact .inl (by split at hb<;>(cases hb;rfl))
  ·rw [if_neg hba] at hb
   exact .inr ⟨b,fun z=>hba z.symm,hb⟩
 refine ⟨⟨?_,?_,?_,?_⟩,?_⟩
 ·rw [List.filter_append,← r.heads,List.map_set]
  simp only [List.filter_cons,hs,Bool.false_eq_true,if_false,List.filter_nil,List.append_nil]
  refine List.ext_getElem (by simp) fun i h1 h2=>?_
  rw [List.getElem_set]
  split
  ·rename_i hia
   subst hia
   simp [ae]
  ·rfl
 ·intro x hx'
  rcases cases' x hx' with rfl | ⟨b,_,hb⟩
  ·exact Nat.succ_pos _
  ·exact r.pos x (List.mem_of_getElem? hb)
 ·intro x hx' i hi
  rcases cases' x hx' with rfl | ⟨b,_,hb⟩
  ·by_cases h:i<k
   ·have:=r.inn _ hx i h
    exact ⟨List.mem_append_left _ this.1,this.2⟩
   ·have hik:i=k:=by simp at hi;omega
    subst hik
    refine ⟨by rw [← e];simp,fun _=>by rw [← e];exact st⟩
  ·have:=r.inn x (List.mem_of_getElem? hb) i hi
   exact ⟨List.mem_append_left _ this.1,this.2⟩
 ·intro x hx' hm
  rcases cases' x hx' with rfl | ⟨b,hba,hb⟩
  ·rw [qq] at hm ⊢
   have h1:s+(k * d+d)=f+d:=by omega
   rw [h1] at hm ⊢
   rcases List.mem_append.mp hm with hm | hm
   ·have:=lt _ hm;omega
   ·have:=List.mem_singleton.mp hm;omega
  ·rcases List.mem_append.mp hm with hm | hm
   ·exact r.mx x (List.mem_of_getElem? hb) hm
   ·have e2:=List.mem_singleton.mp hm
    have hx2:=List.mem_of_getElem? hb
    have p:=r.pos x hx2
    obtain ⟨m,hm'⟩:∃ m,x.2=m+1:=⟨x.2 - 1,by omega⟩
    have pk:=r.pos _ hx
    obtain ⟨n,hn⟩:∃ n,k=n+1:=⟨k - 1,by simp at pk;omega⟩
    -- the last ones of both are f - d
    have e3:x.1+m * d=s+n * d:=by
     rw [hm'] at e2
     rw [hn] at e
     have:=qq m d
     have:=qq n d
     omega
    have same:∀ {i j:Nat} {x y:Int × Nat},ps[i]?=some x->ps[j]?=some y->x.1=y.1->i=j:=fun h1 h2 h3=>Runs.ix r.toRuns0 nd h1 h2 h3
    exfalso
    -- both heads begin,so they are one
    rcases Nat.lt_trichotomy m n with z | z | z
    ·obtain ⟨q,rfl⟩:∃ q,n=m+(q+1):=⟨n - m - 1,by omega⟩
     have e4:x.1=s+((q+1:Nat):Int) * d:=by
      have:((m+(q+1):Nat):Int) * d=m * d+((q+1:Nat):Int) * d:=by rw [Int.natCast_add,Int.add_mul]
      omega
     exact Runs.clash r.toRuns0 sub hx2 hx e4 (by rw [hn];omega)
    ·subst z
     exact hba (same hb ha (by simp;omega))
    ·obtain ⟨q,rfl⟩:∃ q,m=n+(q+1):=⟨m - n - 1,by omega⟩
     have e4:s=x.1+((q+1:Nat):Int) * d:=by
      have:((n+(q+1):Nat):Int) * d=n * d+((q+1:Nat):Int) * d:=by rw [Int.natCast_add,Int.add_mul]
      omega
     exact Runs.clash r.toRuns0 sub hx hx2 e4 (by rw [hm'];omega)
 ·intro g hg
  rcases List.mem_append.mp hg with hg | hg
  ·obtain ⟨x,hx',i,hi,e'⟩:=r.cov g hg
   obtain ⟨b,hb,rfl⟩:=List.getElem_of_mem hx'
   by_cases hba:a=b
   ·subst hba
    rw [ae] at hi e'
    exact ⟨(s,k+1),List.mem_iff_getElem?.mpr ⟨a,by rw [List.getElem?_set,if_pos rfl,if_pos al]⟩,i,by simp at hi ⊢;omega,e'⟩
   ·exact ⟨ps[b],List.mem_iff_getElem?.mpr ⟨b,by rw [List.getElem?_set,if_neg hba];exact List.getElem?_eq_getElem hb⟩,i,hi,e'⟩
  ·exact ⟨(s,k+1),List.mem_iff_getElem?.mpr ⟨a,by rw [List.getElem?_set,if_pos rfl,if_pos al]⟩,k,by simp,by rw [List.mem_singleton.mp hg];exact e⟩
end
end CB
namespace F
open PySem PySem.Spec PyProof.Rows L2
inductive PV where
 | non | bl (b : Bool) | int (i : Int) | str (x : Str) | ty (n : String)
 | tup (xs : List PV) | lst (xs : List PV)
 | fls (xs : List PV)
 | dct (ks : List Key) (vs : List PV)
 | any
 | pen (a : Addr) (ns : List Int)
 | adr (a : Addr)
noncomputable abbrev En:=List (Option PV)
noncomputable abbrev St:=L2.St
noncomputable abbrev FE:=En->Option PV
noncomputable abbrev FT:=En->Option Bool
noncomputable abbrev FA:=En->Option (List PV)
mutual
noncomputable def zw:PV->Bool
 | .lst _=>false
 | .dct _ _=>false
 | .pen _ _=>false
 | .adr _=>false
 | .tup xs=>isDatas xs
 | .fls xs=>isDatas xs
 | _=>true
noncomputable def isDatas:List PV->Bool
 | []=>true
 | x::r=>zw x && isDatas r
end
theorem wD:∀ (xs ys:List PV),isDatas (xs++ys)=(isDatas xs && isDatas ys)
 | [],ys=>by simp [isDatas]
 | x::r,ys=>by simp [isDatas,wD r ys,Bool.and_assoc]
theorem vQ:∀ (xs:List PV),isDatas xs=true ↔ ∀ x ∈ xs,zw x=true
 | []=>by simp [isDatas]
 | x::r=>by simp [isDatas,vQ r]
theorem wC{α:Type}(f:α->PV)(h:∀ a,zw (f a)=true)(xs:List α):isDatas (xs.map f)=true:=by
 rw [vQ]
 intro x hx
 obtain ⟨a,_,rfl⟩:=List.mem_map.mp hx
 exact h a
theorem kP(xs:List Int):isDatas (xs.map PV.int)=true:=wC _ (fun _=>by simp [zw]) xs
noncomputable def Fz(K:PySem.W.Frag)(H:Hp)(a:Addr)(xs:List V):Prop:=
 (∃ o,H a=some (.frz o (.lst xs)))∨∃ (o:Obj) (its:Array Value) (n:Nat),K.lookup a=some o/\o.cls=.type "list"/\o.dict=none/\o.data=.seq its n/\its.size≤sizeLine/\Vals xs its.toList
theorem Fz.seq{K:PySem.W.Frag}{H:Hp}{a:Addr}{xs:List V}(h:Fz K H a xs):SqL K H a xs:=h.elim (fun z=>.inl (.inr z)) .inr
theorem Fz.same{K:PySem.W.Frag}{H H':Hp}{a:Addr}{xs:List V}(e:Same H H')(h:Fz K H a xs):Fz K H' a xs:=h.elim (fun ⟨o,z⟩=>.inl ⟨o,e _ _ z⟩) .inr
mutual
noncomputable def Rp(K:PySem.W.Frag)(H:Hp):PV->V->List Addr->Prop
 | .non,v,A=>v=.non/\A=[]
 | .bl b,v,A=>v=.bl b/\A=[]
 | .int i,v,A=>v=.int i/\A=[]
 | .str x,v,A=>v=.str x/\A=[]
 | .ty n,v,A=>v=.ty n/\A=[]
 | .any,_,A=>A=[]
 | .pen a ns,v,A=>v=.ref a/\A=[a]/\H a=some (.lst (ns.map V.int))
 | .adr a,v,A=>v=.ref a/\A=[]
 | .tup ps,v,A=>∃ a xs,v=.ref a/\SqT K H a xs/\Rps K H ps xs A
 | .lst ps,v,A=>∃ a xs B,v=.ref a/\H a=some (.lst xs)/\A=a::B/\Rps K H ps xs B
 | .fls ps,v,A=>∃ a xs,v=.ref a/\Fz K H a xs/\Rps K H ps xs A
 | .dct ks ps,v,A=>∃ a xs B,v=.ref a/\H a=some (.dK (ks.zip xs))/\ks.length=ps.length/\A=a::B/\Rps K H ps xs B
noncomputable def Rps(K:PySem.W.Frag)(H:Hp):List PV->List V->List Addr->Prop
 | [],vs,A=>vs=[]/\A=[]
 | p::ps,vs,A=>∃ v r A1 A2,vs=v::r/\A=A1++A2/\Rp K H p v A1/\Rps K H ps r A2
end
section
variable {K:PySem.W.Frag} {H H':Hp}
theorem Rp.int_iff{i:Int}{v:V}{A:List Addr}:Rp K H (.int i) v A ↔ v=.int i/\A=[]:=by unfold Rp;exact Iff.rfl
mutual
theorem Rp.same(e:Same H H'):∀ (p:PV) {v:V} {A:List Addr},Rp K H p v A->Rp K H' p v A
 | .non,_,_,h=>by unfold Rp at h ⊢;exact h
 | .bl _,_,_,h=>by unfold Rp at h ⊢;exact h
 | .int _,_,_,h=>by unfold Rp at h ⊢;exact h
 | .str _,_,_,h=>by unfold Rp at h ⊢;exact h
 | .ty _,_,_,h=>by unfold Rp at h ⊢;exact h
 | .any,_,_,h=>by unfold Rp at h ⊢;exact h
 | .adr _,_,_,h=>by unfold Rp at h ⊢;exact h
 | .pen _ _,_,_,h=>by unfold Rp at h ⊢;exact ⟨h.1,h.2.1,e _ _ h.2.2⟩
 | .tup ps,_,_,h=>by
  unfold Rp at h ⊢
  obtain ⟨a,xs,h1,h2,h3⟩:=h
  exact ⟨a,xs,h1,e.tup h2,Rps.same e ps h3⟩
 | .lst ps,_,_,h=>by
  unfold Rp at h ⊢
  obtain ⟨a,xs,B,h1,h2,h3,h4⟩:=h
  exact ⟨a,xs,B,h1,e _ _ h2,h3,Rps.same e ps h4⟩
 | .fls ps,_,_,h=>by
  unfold Rp at h ⊢
  obtain ⟨a,xs,h1,h2,h3⟩:=h
  exact ⟨a,xs,h1,h2.same e,Rps.same e ps h3⟩
 | .dct ks ps,_,_,h=>by
  unfold Rp at h ⊢
  obtain ⟨a,xs,B,h1,h2,h3,h4,h5⟩:=h
  exact ⟨a,xs,B,h1,e _ _ h2,h3,h4,Rps.same e ps h5⟩
theorem Rps.same(e:Same H H'):∀ (ps:List PV) {vs:List V} {A:List Addr},Rps K H ps vs A->Rps K H' ps vs A
 | [],_,_,h=>by unfold Rps at h ⊢;exact h
 | p::ps,_,_,h=>by
  unfold Rps at h ⊢
  obtain ⟨v,r,A1,A2,h1,h2,h3,h4⟩:=h
  exact ⟨v,r,A1,A2,h1,h2,Rp.same e p h3,Rps.same e ps h4⟩
end
noncomputable def MutH(H:Hp)(a:Addr):Prop:=(∃ xs,H a=some (.lst xs))∨∃ kvs,H a=some (.dK kvs)
theorem MutH.tup{a b:Addr}{xs:List V}{o:HO}(m:MutH H a)(h:SqT K H b xs):SqT K (upd H a o) b xs:=by
 rcases h with (h | ⟨u,h⟩) | h
 ·have:b≠a:=by rintro rfl;rcases m with ⟨_,m⟩ | ⟨_,m⟩<;>(rw [h] at m;cases m)
  exact .inl (.inl (by rw [zk this];exact h))
 ·have:b≠a:=by rintro rfl;rcases m with ⟨_,m⟩ | ⟨_,m⟩<;>(rw [h] at m;cases m)
  exact .inl (.inr ⟨u,by rw [zk this];exact h⟩)
 ·exact .inr h
theorem MutH.fz{a b:Addr}{xs:List V}{o:HO}(m:MutH H a)(h:Fz K H b xs):Fz K (upd H a o) b xs:=by
 rcases h with ⟨u,h⟩ | h
 ·have:b≠a:=by rintro rfl;rcases m with ⟨_,m⟩ | ⟨_,m⟩<;>(rw [h] at m;cases m)
  exact .inl ⟨u,by rw [zk this];exact h⟩
 ·exact .inr h
mutual
theorem Rp.upd{a:Addr}{o:HO}(m:MutH H a):∀ (p:PV) {v:V} {A:List Addr},a ∉ A->Rp K H p v A->Rp K (L2.upd H a o) p v A
 | .non,_,_,_,h=>by unfold Rp at h ⊢;exact h
 | .bl _,_,_,_,h=>by unfold Rp at h ⊢;exact h
 | .int _,_,_,_,h=>by unfold Rp at h ⊢;exact h
 | .str _,_,_,_,h=>by unfold Rp at h ⊢;exact h
 | .ty _,_,_,_,h=>by unfold Rp at h ⊢;exact h
 | .any,_,_,_,h=>by unfold Rp at h ⊢;exact h
 | .adr _,_,_,_,h=>by unfold Rp at h ⊢;exact h
 | .pen b _,_,_,n,h=>by
  unfold Rp at h ⊢
  refine ⟨h.1,h.2.1,?_⟩
  rw [zk (fun z=>n (by rw [h.2.1,z];exact List.mem_cons_self))]
  exact h.2.2
 | .tup ps,_,_,n,h=>by
  unfold Rp at h ⊢
  obtain ⟨b,xs,h1,h2,h3⟩:=h
  exact ⟨b,xs,h1,m.tup h2,Rps.upd m ps n h3⟩
 | .lst ps,_,_,n,h=>by
  unfold Rp at h ⊢
  obtain ⟨b,xs,B,h1,h2,rfl,h4⟩:=h
  have nb:b≠a:=fun z=>n (z ▸ List.mem_cons_self)
  exact ⟨b,xs,B,h1,by rw [zk nb];exact h2,rfl,Rps.upd m ps (fun z=>n (List.mem_cons_of_mem _ z)) h4⟩
 | .fls ps,_,_,n,h=>by
  unfold Rp at h ⊢
  obtain ⟨b,xs,h1,h2,h3⟩:=h
  exact ⟨b,xs,h1,m.fz h2,Rps.upd m ps n h3⟩
 | .dct ks ps,_,_,n,h=>by
  unfold Rp at h ⊢
  obtain ⟨b,xs,B,h1,h2,h3,rfl,h5⟩:=h
  have nb:b≠a:=fun z=>n (z ▸ List.mem_cons_self)
  exact ⟨b,xs,B,h1,by rw [zk nb];exact h2,h3,rfl,Rps.upd m ps (fun z=>n (List.mem_cons_of_mem _ z)) h5⟩
theorem Rps.upd{a:Addr}{o:HO}(m:MutH H a):∀ (ps:List PV) {vs:List V} {A:List Addr},a ∉ A->Rps K H ps vs A->Rps K (L2.upd H a o) ps vs A
 | [],_,_,_,h=>by unfold Rps at h ⊢;exact h
 | p::ps,_,_,n,h=>by
  unfold Rps at h ⊢
  obtain ⟨v,r,A1,A2,h1,rfl,h3,h4⟩:=h
  exact ⟨v,r,A1,A2,h1,rfl,Rp.upd m p (fun z=>n (List.mem_append_left _ z)) h3,Rps.upd m ps (fun z=>n (List.mem_append_right _ z)) h4⟩
end
mutual
theorem Rp.mut:∀ (p:PV) {v:V} {A:List Addr},Rp K H p v A->∀ a ∈ A,MutH H a
 | .non,_,_,h=>by unfold Rp at h;rw [h.2];simp
 | .bl _,_,_,h=>by unfold Rp at h;rw [h.2];simp
 | .int _,_,_,h=>by unfold Rp at h;rw [h.2];simp
 | .str _,_,_,h=>by unfold Rp at h;rw [h.2];simp
 | .ty _,_,_,h=>by unfold Rp at h;rw [h.2];simp
 | .any,_,_,h=>by unfold Rp at h;rw [h];simp
 | .adr _,_,_,h=>by unfold Rp at h;rw [h.2];simp
 | .pen _ _,_,_,h=>by
  unfold Rp at h
  rw [h.2.1]
  intro b hb
  rw [List.mem_singleton.mp hb]
  exact .inl ⟨_,h.2.2⟩
 | .tup ps,_,_,h=>by
  unfold Rp at h
  obtain ⟨b,xs,h1,h2,h3⟩:=h
  exact Rps.mut ps h3
 | .lst ps,_,_,h=>by
  unfold Rp at h
  obtain ⟨b,xs,B,h1,h2,rfl,h4⟩:=h
  intro a ha
  rcases List.mem_cons.mp ha with rfl | ha
  ·exact .inl ⟨xs,h2⟩
  ·exact Rps.mut ps h4 a ha
 | .fls ps,_,_,h=>by
  unfold Rp at h
  obtain ⟨b,xs,h1,h2,h3⟩:=h
  exact Rps.mut ps h3
 | .dct ks ps,_,_,h=>by
  unfold Rp at h
  obtain ⟨b,xs,B,h1,h2,h3,rfl,h5⟩:=h
  intro a ha
  rcases List.mem_cons.mp ha with rfl | ha
  ·exact .inr ⟨_,h2⟩
  ·exact Rps.mut ps h5 a ha
theorem Rps.mut:∀ (ps:List PV) {vs:List V} {A:List Addr},Rps K H ps vs A->∀ a ∈ A,MutH H a
 | [],_,_,h=>by unfold Rps at h;rw [h.2];simp
 | p::ps,_,_,h=>by
  unfold Rps at h
  obtain ⟨v,r,A1,A2,h1,rfl,h3,h4⟩:=h
  intro a ha
  rcases List.mem_append.mp ha with ha | ha
  ·exact Rp.mut p h3 a ha
  ·exact Rps.mut ps h4 a ha
end
theorem MutH.same{a:Addr}(h:MutH H a)(s:Same H H'):MutH H' a:=h.elim (fun ⟨x,z⟩=>.inl ⟨x,s _ _ z⟩) fun ⟨x,z⟩=>.inr ⟨x,s _ _ z⟩
theorem MutH.some{a:Addr}(h:MutH H a):∃ o,H a=some o:=by
 rcases h with ⟨_,h⟩ | ⟨_,h⟩<;>exact ⟨_,h⟩
theorem Rp.alloc{p:PV}{v:V}{A:List Addr}(h:Rp K H p v A){a:Addr}(ha:a ∈ A):∃ o,H a=some o:=(Rp.mut p h a ha).some
mutual
theorem Rp.data:∀ (p:PV) {v:V} {A:List Addr},zw p=true->Rp K H p v A->A=[]
 | .non,_,_,_,h=>by unfold Rp at h;exact h.2
 | .bl _,_,_,_,h=>by unfold Rp at h;exact h.2
 | .int _,_,_,_,h=>by unfold Rp at h;exact h.2
 | .str _,_,_,_,h=>by unfold Rp at h;exact h.2
 | .ty _,_,_,_,h=>by unfold Rp at h;exact h.2
 | .any,_,_,_,h=>by unfold Rp at h;exact h
 | .pen _ _,_,_,d,_=>by simp [zw] at d
 | .adr _,_,_,d,_=>by simp [zw] at d
 | .tup ps,_,_,d,h=>by
  unfold Rp at h
  unfold zw at d
  obtain ⟨b,xs,h1,h2,h3⟩:=h
  exact Rps.data ps d h3
 | .lst ps,_,_,d,h=>by simp [zw] at d
 | .fls ps,_,_,d,h=>by
  unfold Rp at h
  unfold zw at d
  obtain ⟨b,xs,h1,h2,h3⟩:=h
  exact Rps.data ps d h3
 | .dct ks ps,_,_,d,h=>by simp [zw] at d
theorem Rps.data:∀ (ps:List PV) {vs:List V} {A:List Addr},isDatas ps=true->Rps K H ps vs A->A=[]
 | [],_,_,_,h=>by unfold Rps at h;exact h.2
 | p::ps,_,_,d,h=>by
  unfold Rps at h
  unfold isDatas at d
  rw [Bool.and_eq_true] at d
  obtain ⟨v,r,A1,A2,h1,h2,h3,h4⟩:=h
  rw [h2,Rp.data p d.1 h3,Rps.data ps d.2 h4];rfl
end
theorem Rps.length:∀ {ps:List PV} {vs:List V} {A:List Addr},Rps K H ps vs A->ps.length=vs.length
 | [],_,_,h=>by unfold Rps at h;rw [h.1];rfl
 | p::ps,_,_,h=>by
  unfold Rps at h
  obtain ⟨v,r,A1,A2,h1,h2,h3,h4⟩:=h
  rw [h1,List.length_cons,List.length_cons,Rps.length h4]
theorem Rps.get:∀ {ps:List PV} {vs:List V} {A:List Addr} {i:Nat} {p:PV},Rps K H ps vs A->ps[i]?=some p->∃ v C,vs[i]?=some v/\Rp K H p v C/\C.Sublist A
 | [],_,_,_,_,_,e=>by simp at e
 | q::ps,_,_,0,p,h,e=>by
  unfold Rps at h
  obtain ⟨v,r,A1,A2,h1,h2,h3,h4⟩:=h
  simp at e
  subst e
  exact ⟨v,A1,by rw [h1];rfl,h3,by rw [h2];exact List.sublist_append_left _ _⟩
 | q::ps,_,_,i+1,p,h,e=>by
  unfold Rps at h
  obtain ⟨v,r,A1,A2,h1,h2,h3,h4⟩:=h
  obtain ⟨w,C,g1,g2,g3⟩:=Rps.get (i:=i) h4 (by simpa using e)
  exact ⟨w,C,by rw [h1];simpa using g1,g2,by rw [h2];exact g3.trans (List.sublist_append_right _ _)⟩
theorem Rps.append:∀ {ps qs:List PV} {vs ws:List V} {A B:List Addr},Rps K H ps vs A->Rps K H qs ws B->Rps K H (ps++qs) (vs++ws) (A++B)
 | [],_,_,_,_,_,h,h'=>by unfold Rps at h;rw [h.1,h.2];exact h'
 | p::ps,qs,_,ws,_,B,h,h'=>by
  unfold Rps at h
  obtain ⟨v,r,A1,A2,h1,h2,h3,h4⟩:=h
  show Rps K H (p::(ps++qs)) _ _
  unfold Rps
  exact ⟨v,r++ws,A1,A2++B,by rw [h1];rfl,by rw [h2,List.append_assoc],h3,Rps.append h4 h'⟩
theorem Rps.nil:Rps K H [] [] []:=by unfold Rps;exact ⟨rfl,rfl⟩
theorem Rps.cons{p:PV}{ps:List PV}{v:V}{vs:List V}{A B:List Addr}(h:Rp K H p v A)(h':Rps K H ps vs B):Rps K H (p::ps) (v::vs) (A++B):=by
 unfold Rps;exact ⟨v,vs,A,B,rfl,rfl,h,h'⟩
theorem Rps.one{p:PV}{v:V}{A:List Addr}(h:Rp K H p v A):Rps K H [p] [v] A:=by
 have:=Rps.cons h (Rps.nil (K:=K) (H:=H))
 rwa [List.append_nil] at this
theorem Rps.inv{p:PV}{ps:List PV}{vs:List V}{A:List Addr}(h:Rps K H (p::ps) vs A):∃ v r A1 A2,vs=v::r/\A=A1++A2/\Rp K H p v A1/\Rps K H ps r A2:=by
 unfold Rps at h;exact h
theorem Rps.inv0{vs:List V}{A:List Addr}(h:Rps K H [] vs A):vs=[]/\A=[]:=by unfold Rps at h;exact h
theorem Rps.split:∀ {ps qs:List PV} {vs:List V} {A:List Addr},Rps K H (ps++qs) vs A->∃ v1 v2 A1 A2,vs=v1++v2/\A=A1++A2/\Rps K H ps v1 A1/\Rps K H qs v2 A2
 | [],qs,vs,A,h=>⟨[],vs,[],A,rfl,rfl,.nil,h⟩
 | p::ps,qs,vs,A,h=>by
  obtain ⟨v,r,A1,A2,h1,h2,h3,h4⟩:=Rps.inv (show Rps K H (p::(ps++qs)) vs A from h)
  obtain ⟨v1,v2,B1,B2,g1,g2,g3,g4⟩:=Rps.split h4
  exact ⟨v::v1,v2,A1++B1,B2,by rw [h1,g1];rfl,by rw [h2,g2,List.append_assoc],.cons h3 g3,g4⟩
theorem Rp.mkI(i:Int):Rp K H (.int i) (.int i) []:=by unfold Rp;exact ⟨rfl,rfl⟩
theorem Rp.mkB(b:Bool):Rp K H (.bl b) (.bl b) []:=by unfold Rp;exact ⟨rfl,rfl⟩
theorem Rp.mkS(x:Str):Rp K H (.str x) (.str x) []:=by unfold Rp;exact ⟨rfl,rfl⟩
theorem Rp.mkN:Rp K H .non .non []:=by unfold Rp;exact ⟨rfl,rfl⟩
theorem Rp.mkT{a:Addr}{ps:List PV}{xs:List V}{A:List Addr}(h:SqT K H a xs)(r:Rps K H ps xs A):Rp K H (.tup ps) (.ref a) A:=by unfold Rp;exact ⟨a,xs,rfl,h,r⟩
theorem Rp.mkL{a:Addr}{ps:List PV}{xs:List V}{A:List Addr}(h:H a=some (.lst xs))(r:Rps K H ps xs A):Rp K H (.lst ps) (.ref a) (a::A):=by unfold Rp;exact ⟨a,xs,A,rfl,h,rfl,r⟩
theorem Rp.mkD{a:Addr}{ks:List Key}{ps:List PV}{xs:List V}{A:List Addr}(h:H a=some (.dK (ks.zip xs)))(l:ks.length=ps.length)(r:Rps K H ps xs A):Rp K H (.dct ks ps) (.ref a) (a::A):=by unfold Rp;exact ⟨a,xs,A,rfl,h,l,rfl,r⟩
theorem Rp.I{i:Int}{v:V}{A:List Addr}(h:Rp K H (.int i) v A):v=.int i/\A=[]:=by unfold Rp at h;exact h
theorem Rp.B{i:Bool}{v:V}{A:List Addr}(h:Rp K H (.bl i) v A):v=.bl i/\A=[]:=by unfold Rp at h;exact h
theorem Rp.S{i:Str}{v:V}{A:List Addr}(h:Rp K H (.str i) v A):v=.str i/\A=[]:=by unfold Rp at h;exact h
theorem Rp.N{v:V}{A:List Addr}(h:Rp K H .non v A):v=.non/\A=[]:=by unfold Rp at h;exact h
theorem Rp.Ty{n:String}{v:V}{A:List Addr}(h:Rp K H (.ty n) v A):v=.ty n/\A=[]:=by unfold Rp at h;exact h
theorem Rp.T{ps:List PV}{v:V}{A:List Addr}(h:Rp K H (.tup ps) v A):∃ a xs,v=.ref a/\SqT K H a xs/\Rps K H ps xs A:=by unfold Rp at h;exact h
theorem Rp.L{ps:List PV}{v:V}{A:List Addr}(h:Rp K H (.lst ps) v A):∃ a xs B,v=.ref a/\H a=some (.lst xs)/\A=a::B/\Rps K H ps xs B:=by unfold Rp at h;exact h
theorem Rp.Ad{a:Addr}{v:V}{A:List Addr}(h:Rp K H (.adr a) v A):v=.ref a/\A=[]:=by unfold Rp at h;exact h
theorem Rp.P{a:Addr}{ns:List Int}{v:V}{A:List Addr}(h:Rp K H (.pen a ns) v A):v=.ref a/\A=[a]/\H a=some (.lst (ns.map V.int)):=by unfold Rp at h;exact h
theorem Rp.Fl{ps:List PV}{v:V}{A:List Addr}(h:Rp K H (.fls ps) v A):∃ a xs,v=.ref a/\Fz K H a xs/\Rps K H ps xs A:=by unfold Rp at h;exact h
theorem Rp.D{ks:List Key}{ps:List PV}{v:V}{A:List Addr}(h:Rp K H (.dct ks ps) v A):∃ a xs B,v=.ref a/\H a=some (.dK (ks.zip xs))/\ks.length=ps.length/\A=a::B/\Rps K H ps xs B:=by unfold Rp at h;exact h
end
structure VI (K:PySem.W.Frag) (κ:Nat->Option Nat) (G:Hp) (own:Addr->Option Nat) (env:En) (σ:St) (H:Hp):Prop where
 len:env.length=σ.length
 slot:∀ i p,env[i]?=some (some p)->∃ v A,σ[i]?=some (some v)/\Rp K H p v A/\(κ i=none->∀ a ∈ A,own a=none)/\∀ l,κ i=some l->A.Nodup/\∀ a ∈ A,own a=some l
 own:∀ a l,own a=some l->G a=none/\MutH H a
 same:Same G H
theorem VI.grow{K:PySem.W.Frag}{κ:Nat->Option Nat}{G:Hp}{own:Addr->Option Nat}{env:En}{σ:St}{H H':Hp}(I:VI K κ G own env σ H)(s:Same H H'):VI K κ G own env σ H':=
 ⟨I.len,fun i p e=>let ⟨v,A,h1,h2,h3⟩:=I.slot i p e;⟨v,A,h1,Rp.same s p h2,h3⟩,fun a l e=>let ⟨h1,h2⟩:=I.own a l e;⟨h1,h2.same s⟩,I.same.trans s⟩
noncomputable def Ext(own:Addr->Option Nat)(H:Hp)(own':Addr->Option Nat)(H':Hp):Prop:=∀ b o,own b=none->H b=some o->own' b=none/\H' b=some o
theorem Ext.refl(own:Addr->Option Nat)(H:Hp):Ext own H own H:=fun _ _ h e=>⟨h,e⟩
theorem Ext.trans{o1 o2 o3:Addr->Option Nat}{H1 H2 H3:Hp}(a:Ext o1 H1 o2 H2)(b:Ext o2 H2 o3 H3):Ext o1 H1 o3 H3:=fun x o h e=>let ⟨h',e'⟩:=a x o h e;b x o h' e'
theorem Ext.grow{own:Addr->Option Nat}{H H':Hp}(s:Same H H'):Ext own H own H':=fun b o h e=>⟨h,s b o e⟩
inductive Cat where
 | mv (L:List Nat) | sh | bo
noncomputable def Cat.ok:Cat->Hp->(Addr->Option Nat)->List Addr->Prop
 | .mv L,H,own,A=>A.Nodup/\∀ a ∈ A,H a=none∨∃ l ∈ L,own a=some l
 | .sh,_,own,A=>∀ a ∈ A,own a=none
 | .bo,_,_,_=>True
theorem Cat.nil(c:Cat)(H:Hp)(own:Addr->Option Nat):c.ok H own []:=by
 cases c with
 | mv L=>exact ⟨.nil,by simp⟩
 | sh=>show ∀ a ∈ [],own a=none;simp
 | bo=>trivial
noncomputable def tV(K:PySem.W.Frag)(κ:Nat->Option Nat)(G:Hp)(c:Cat)(f:FE):TE:=fun σ H Q=>∃ own env p,VI K κ G own env σ H/\f env=some p/\∀ v H' A,Same H H'->Rp K H' p v A->c.ok H own A->Q v H'
noncomputable def tVT(K:PySem.W.Frag)(κ:Nat->Option Nat)(G:Hp)(f:FT):TT:=fun σ H Q=>∃ own env b,VI K κ G own env σ H/\f env=some b/\∀ H',Same H H'->Q b H'
noncomputable def tVA(K:PySem.W.Frag)(κ:Nat->Option Nat)(G:Hp)(c:Cat)(f:FA):TA:=fun σ H Q=>∃ own env ps,VI K κ G own env σ H/\f env=some ps/\∀ vs H' A,Same H H'->Rps K H' ps vs A->c.ok H own A->Q vs H'
theorem tV.in{K:PySem.W.Frag}{κ:Nat->Option Nat}{G:Hp}{c:Cat}{f:FE}{σ:St}{H:Hp}{Q:VK}{own:Addr->Option Nat}{env:En}{p:PV}(I:VI K κ G own env σ H)(hf:f env=some p)(k:∀ v H' A,Same H H'->Rp K H' p v A->c.ok H own A->Q v H'):tV K κ G c f σ H Q:=⟨own,env,p,I,hf,k⟩
theorem tV.elim{K:PySem.W.Frag}{κ:Nat->Option Nat}{G:Hp}{c:Cat}{f:FE}{σ:St}{H:Hp}{Q:VK}{C:Prop}(h:tV K κ G c f σ H Q)(k:∀ own env (p:PV),VI K κ G own env σ H->f env=some p->(∀ v H' A,Same H H'->Rp K H' p v A->c.ok H own A->Q v H')->C):C:=
 let ⟨own,env,p,I,hf,q⟩:=h
 k own env p I hf q
theorem tVT.in{K:PySem.W.Frag}{κ:Nat->Option Nat}{G:Hp}{f:FT}{σ:St}{H:Hp}{Q:Bool->Hp->Prop}{own:Addr->Option Nat}{env:En}{p:Bool}(I:VI K κ G own env σ H)(hf:f env=some p)(k:∀ H',Same H H'->Q p H'):tVT K κ G f σ H Q:=⟨own,env,p,I,hf,k⟩
theorem tVT.elim{K:PySem.W.Frag}{κ:Nat->Option Nat}{G:Hp}{f:FT}{σ:St}{H:Hp}{Q:Bool->Hp->Prop}{C:Prop}(h:tVT K κ G f σ H Q)(k:∀ own env (p:Bool),VI K κ G own env σ H->f env=some p->(∀ H',Same H H'->Q p H')->C):C:=
 let ⟨own,env,p,I,hf,q⟩:=h
 k own env p I hf q
theorem tVA.in{K:PySem.W.Frag}{κ:Nat->Option Nat}{G:Hp}{c:Cat}{f:FA}{σ:St}{H:Hp}{Q:List V->Hp->Prop}{own:Addr->Option Nat}{env:En}{p:List PV}(I:VI K κ G own env σ H)(hf:f env=some p)(k:∀ vs H' A,Same H H'->Rps K H' p vs A->c.ok H own A->Q vs H'):tVA K κ G c f σ H Q:=⟨own,env,p,I,hf,k⟩
theorem tVA.elim{K:PySem.W.Frag}{κ:Nat->Option Nat}{G:Hp}{c:Cat}{f:FA}{σ:St}{H:Hp}{Q:List V->Hp->Prop}{C:Prop}(h:tVA K κ G c f σ H Q)(k:∀ own env (p:List PV),VI K κ G own env σ H->f env=some p->(∀ vs H' A,Same H H'->Rps K H' p vs A->c.ok H own A->Q vs H')->C):C:=
 let ⟨own,env,p,I,hf,q⟩:=h
 k own env p I hf q
noncomputable def VE(X:Cx)(κ:Nat->Option Nat)(G:Hp)(c:Cat)(e:Expr)(f:FE):Prop:=PE X e (tV X.K κ G c f)
noncomputable def VT(X:Cx)(κ:Nat->Option Nat)(G:Hp)(e:Expr)(f:FT):Prop:=PT X e (tVT X.K κ G f)
noncomputable def VW(X:Cx)(κ:Nat->Option Nat)(G:Hp)(e:Expr)(f:FT):Prop:=PW X e (tVT X.K κ G f)
noncomputable def VA(X:Cx)(κ:Nat->Option Nat)(G:Hp)(c:Cat)(es:List Expr)(f:FA):Prop:=PA X es (tVA X.K κ G c f)/\∀ env ps,f env=some ps->ps.length=es.length
end F
namespace L2
theorem PE.imp{X:Cx}{e:PySem.Expr}{t t':TE}(h:PE X e t)(i:∀ σ H Q,t' σ H Q->t σ H Q):PE X e t':=fun pins s σ H Q I hw=>h pins s σ H Q I (i _ _ _ hw)
theorem PT.imp{X:Cx}{e:PySem.Expr}{t t':TT}(h:PT X e t)(i:∀ σ H Q,t' σ H Q->t σ H Q):PT X e t':=fun pins s σ H Q I hw=>h pins s σ H Q I (i _ _ _ hw)
theorem PW.imp{X:Cx}{e:PySem.Expr}{t t':TT}(h:PW X e t)(i:∀ σ H Q,t' σ H Q->t σ H Q):PW X e t':=fun wh pins s σ H Q I hw=>h wh pins s σ H Q I (i _ _ _ hw)
theorem PA.imp{X:Cx}{e:List PySem.Expr}{t t':TA}(h:PA X e t)(i:∀ σ H Q,t' σ H Q->t σ H Q):PA X e t':=fun pos pins s σ H Q I hw=>h pos pins s σ H Q I (i _ _ _ hw)
theorem PS.imp{X:Cx}{e:PySem.Stmt}{t t':TS}(h:PS X e t)(i:∀ D σ H,t' D σ H->t D σ H):PS X e t':=fun pins s σ H D I hw=>h pins s σ H D I (i _ _ _ hw)
theorem PSs.imp{X:Cx}{e:List PySem.Stmt}{t t':TS}(h:PSs X e t)(i:∀ D σ H,t' D σ H->t D σ H):PSs X e t':=fun pins s σ H D I hw=>h pins s σ H D I (i _ _ _ hw)
end L2
namespace F
open PySem PySem.Spec PyProof.Rows L2
noncomputable def wS:PV->Option Bool
 | .bl b=>some b
 | _=>none
noncomputable def zA(i:Nat):FE:=fun env=>(env[i]?).join
noncomputable def fC(p:PV):FE:=fun _=>some p
noncomputable def fOp(g:PV->PV->Option PV)(fa fb:FE):FE:=fun env=>(fa env).bind fun x=>(fb env).bind fun y=>g x y
noncomputable def fUn(g:PV->Option PV)(fa:FE):FE:=fun env=>(fa env).bind g
noncomputable def zx(f:FE):FE:=fun env=>(f env).bind fun p=>if zw p=true then some p else none
noncomputable def fT(f:FE):FT:=fun env=>(f env).bind wS
noncomputable def zbi(t u:FT):FT:=fun env=>(t env).bind fun b=>if b=true then u env else some false
noncomputable def fOr(t u:FT):FT:=fun env=>(t env).bind fun b=>if b=true then some true else u env
noncomputable def ziA(t:FT):FT:=fun env=>(t env).map fun b=>!b
noncomputable def fIf(t:FT)(a b:FE):FE:=fun env=>(t env).bind fun c=>if c=true then a env else b env
noncomputable def zI:FA:=fun _=>some []
noncomputable def zC(f:FE)(r:FA):FA:=fun env=>(f env).bind fun p=>(r env).map fun ps=>p::ps
noncomputable def yp(f:FA):FE:=fun env=>(f env).map .tup
noncomputable def wF(f:FA):FE:=fun env=>(f env).map .lst
noncomputable def zJ(Φ:List PV->Option PV)(f:FA):FE:=fun env=>(f env).bind Φ
section
variable {X:Cx} {κ:Nat->Option Nat} {G:Hp} {c c1 c2:Cat} {a b e:Expr} {es:List Expr} {fa fb f:FE} {t u:FT} {fs:FA} {pos:Pos}
theorem kT{K:PySem.W.Frag}{own:Addr->Option Nat}{env:En}{σ:St}{H:Hp}{A:List Addr}(I:VI K κ G own env σ H)(h:∀ a ∈ A,H a=none):∀ a ∈ A,own a=none:=fun a ha=>by
 cases e:own a with
 | none=>rfl
 | some l=>obtain ⟨_,m⟩:=I.own a l e;obtain ⟨o,h'⟩:=m.some;rw [h a ha] at h';cases h'
theorem VE.sh(h:VE X κ G (.mv []) e f):VE X κ G .sh e f:=PE.imp h fun σ H Q ⟨own,env,p,I,hf,k⟩=>by
 exact (.in I hf fun v H' A s r hc=>k v H' A s r (kT I fun a ha=>(hc.2 a ha).elim id fun ⟨_,hl,_⟩=>nomatch hl))
theorem VE.data(h:VE X κ G c e f)(L:Cat):VE X κ G L e (zx f):=PE.imp h fun σ H Q ⟨own,env,p,I,hf,k⟩=>by
 unfold zx at hf
 cases hq:f env with
 | none=>rw [hq] at hf;cases hf
 | some q=>
  rw [hq] at hf
  dsimp only [Option.bind_some] at hf
  split at hf
  ·rename_i hd
   cases hf
   refine (.in I hq fun v H' A s r hc=>k v H' A s r ?_)
   rw [Rp.data p hd r]
   exact Cat.nil _ _ _
  ·cases hf
theorem zB (i : Nat) {x : Str} (hk : κ i = none) (h : PE X (.Name x pos) (uJ i)) : VE X κ G .sh (.Name x pos) (zA i) := h.imp fun σ H Q hq_ => by
  refine hq_.elim fun own env p I hf k => ?_
  have e : env[i]? = some (some p) := by
    unfold zA at hf
    cases q : env[i]? with
    | none => rw [q] at hf; cases hf
    | some z => rw [q] at hf; have : z = some p := by simpa using hf
                rw [this]
  obtain ⟨v, A, h1, h2, h3, _⟩ := I.slot i p e
  exact ⟨v, h1, k v H A (Same.refl _) h2 (h3 hk)⟩
theorem xS (i : Nat) {x : Str} (h : PE X (.Name x pos) (uJ i)) : VE X κ G .bo (.Name x pos) (zA i) := h.imp fun σ H Q hq_ => by
  refine hq_.elim fun own env p I hf k => ?_
  have e : env[i]? = some (some p) := by
    unfold zA at hf
    cases q : env[i]? with
    | none => rw [q] at hf; cases hf
    | some z => rw [q] at hf; have : z = some p := by simpa using hf
                rw [this]
  obtain ⟨v, A, h1, h2, h3, _⟩ := I.slot i p e
  exact ⟨v, h1, k v H A (Same.refl _) h2 trivial⟩
theorem jU (i : Nat) {l : Nat} {x : Str} (hk : κ i = some l) (h : PE X (.Name x pos) (uJ i)) : VE X κ G (.mv [l]) (.Name x pos) (zA i) := h.imp fun σ H Q hq_ => by
  refine hq_.elim fun own env p I hf k => ?_
  have e : env[i]? = some (some p) := by
    unfold zA at hf
    cases q : env[i]? with
    | none => rw [q] at hf; cases hf
    | some z => rw [q] at hf; have : z = some p := by simpa using hf
                rw [this]
  obtain ⟨v, A, h1, h2, _, h3⟩ := I.slot i p e
  exact ⟨v, h1, k v H A (Same.refl _) h2 ⟨(h3 l hk).1, fun a ha => .inr ⟨l, List.mem_singleton.mpr rfl, (h3 l hk).2 a ha⟩⟩⟩
theorem zjl{p:PV}{v:V}(hp:∀ K H,Rp K H p v [])(h:PE X e (tC v)):VE X κ G c e (fC p):=h.imp fun σ H Q hq_=>by
 refine hq_.elim fun own env q I hf k=>?_
 cases hf
 exact k v H [] (Same.refl _) (hp _ _) (Cat.nil _ _ _)
theorem zG{i j}:VE X κ G (.mv []) (.Constant (.int i) j pos) (fC (.int i)):=zjl (fun _ _=>.mkI i) zhG
theorem qf{i j}:VE X κ G (.mv []) (.Constant (.bool i) j pos) (fC (.bl i)):=zjl (fun _ _=>.mkB i) zmB
theorem ke{j}:VE X κ G (.mv []) (.Constant .none j pos) (fC .non):=zjl (fun _ _=>.mkN) zlk
theorem wy{i j}:VE X κ G (.mv []) (.Constant (.str i) j pos) (fC (.str i)):=zjl (fun _ _=>.mkS i) zli
noncomputable def OpV(K:PySem.W.Frag)(r:R2)(g:PV->PV->Option PV):Prop:=∀ (H:Hp) (p q:PV) (x y:V) (A B:List Addr) (z:PV) (Q:VK),Rp K H p x A->Rp K H q y B->g p q=some z->
 (∀ v H' C,Same H H'->Rp K H' z v C->C.Nodup->(∀ a ∈ C,H a=none)->Q v H')->r x y H Q
theorem zdZ{K:PySem.W.Frag}{r:R2}{g:PV->PV->Option PV}(hv:OpV K r g)(σ:St)(H:Hp)(Q:VK)(h:tV K κ G (.mv []) (fOp g fa fb) σ H Q):tOp r (tV K κ G c1 fa) (tV K κ G c2 fb) σ H Q:=by
 obtain ⟨own,env,z,I,e,k⟩:=h
 unfold fOp at e
 replace e:=Option.bind_eq_some_iff.mp e;obtain ⟨p,hp,e⟩:=e
 replace e:=Option.bind_eq_some_iff.mp e;obtain ⟨q,hq,e⟩:=e
 refine (.in I hp fun x H1 A s1 r1 _=>(.in (I.grow s1) hq fun y H2 B s2 r2 _=>?_))
 exact hv H2 p q x y A B z Q (Rp.same s2 p r1) r2 e fun v H' C s3 r3 nd fr=>k v H' C (s1.trans (s2.trans s3)) r3 ⟨nd,fun a ha=>.inl ((s1.trans s2).free (fr a ha))⟩
theorem zQ{op:Operator}{r:R2}{g:PV->PV->Option PV}(ho:OpR X (binaryOp op) r)(hv:OpV X.K r g)(ha:VE X κ G c1 a fa)(hb:VE X κ G c2 b fb):VE X κ G (.mv []) (.BinOp a op b pos) (fOp g fa fb):=
 (zmz ho ha hb).imp (zdZ hv)
theorem qe{op:CmpOp}{r:R2}{g:PV->PV->Option PV}(ho:OpR X (compareOp op) r)(hv:OpV X.K r g)(ha:VE X κ G c1 a fa)(hb:VE X κ G c2 b fb)(hm:behindInMarks op b=false):VE X κ G (.mv []) (.Compare a [op] [b] pos) (fOp g fa fb):=
 (zjK ho ha hb hm).imp (zdZ hv)
theorem zgU{te:TE}(h:∀ σ H Q,tV X.K κ G (.mv []) f σ H Q->te σ H Q)(σ:St)(H:Hp)(Q:Bool->Hp->Prop)(hq:tVT X.K κ G (fT f) σ H Q):zkw te σ H Q:=by
 obtain ⟨own,env,b,I,e,k⟩:=hq
 unfold fT at e
 replace e:=Option.bind_eq_some_iff.mp e;obtain ⟨p,hp,e⟩:=e
 cases p<;>first | cases e | skip
 refine h _ _ _ (.in I hp fun v H' A s r _=>?_)
 exact ⟨_,r.B.1,k H' s⟩
theorem ze{op:CmpOp}{r:R2}{g:PV->PV->Option PV}(ho:OpR X (compareOp op) r)(hv:OpV X.K r g)(ha:VE X κ G c1 a fa)(hb:VE X κ G c2 b fb)(hm:behindInMarks op b=false):VT X κ G (.Compare a [op] [b] pos) (fT (fOp g fa fb)):=
 (zjz ho ha hb hm).imp (zgU (zdZ hv))
noncomputable def zlG(g g':PV->PV->Option PV)(fa fb fc:FE):FE:=fun env=>(fa env).bind fun x=>(fb env).bind fun y=>(g x y).bind fun z=>(wS z).bind fun k=>if k=true then (fc env).bind fun w=>g' y w else some (.bl false)
noncomputable def UnV(K:PySem.W.Frag)(r:V->Hp->VK->Prop)(g:PV->Option PV):Prop:=∀ (H:Hp) (p:PV) (x:V) (A:List Addr) (z:PV) (Q:VK),Rp K H p x A->g p=some z->(∀ v H' C,Same H H'->Rp K H' z v C->C.Nodup->(∀ a ∈ C,H a=none)->Q v H')->r x H Q
theorem qc{op:UnaryOp}{r:V->Hp->VK->Prop}{g:PV->Option PV}(ho:UnR X (unaryOp op) r)(hv:UnV X.K r g)(ha:VE X κ G c a fa):VE X κ G (.mv []) (.UnaryOp op a pos) (fUn g fa):=(zmx ho ha).imp fun σ H Q hq_=>by
 refine hq_.elim fun own env z I e k=>?_
 unfold fUn at e
 replace e:=Option.bind_eq_some_iff.mp e;obtain ⟨p,hp,e⟩:=e
 exact (.in I hp fun x H1 A s1 r1 _=>hv H1 p x A z Q r1 e fun v H' C s2 r2 nd fr=>k v H' C (s1.trans s2) r2 ⟨nd,fun a ha=>.inl (s1.free (fr a ha))⟩)
theorem zkI(h:VT X κ G a t):VT X κ G (.UnaryOp .Not a pos) (ziA t):=(zkZ h).imp fun σ H Q hq_=>by
 refine hq_.elim fun own env b I e k=>?_
 unfold ziA at e
 cases hp:t env with
 | none=>rw [hp] at e;cases e
 | some p=>rw [hp] at e;cases e;exact ⟨own,env,p,I,hp,k⟩
theorem qN(h:VT X κ G a t):VW X κ G (.BoolOp .And [a] pos) t:=zjv h
theorem zdQ(h:VT X κ G a t):VW X κ G (.BoolOp .Or [a] pos) t:=zkW h
theorem zbR{wV:List Expr}(h:VT X κ G a t)(h2:VW X κ G (.BoolOp .And (b::wV) pos) u):VW X κ G (.BoolOp .And (a::b::wV) pos) (zbi t u):=(zkX h h2).imp fun σ H Q hq_=>by
 refine hq_.elim fun own env z I e k=>?_
 unfold zbi at e
 replace e:=Option.bind_eq_some_iff.mp e;obtain ⟨p,hp,e⟩:=e
 refine (.in I hp fun H1 s1=>?_)
 cases p with
 | true=>exact ite_tt (.in (I.grow s1) (by simpa using e) fun H' s2=>k H' (s1.trans s2))
 | false=>cases e;exact ite_ff (k H1 s1)
theorem zgK{wV:List Expr}(h:VT X κ G a t)(h2:VW X κ G (.BoolOp .Or (b::wV) pos) u):VW X κ G (.BoolOp .Or (a::b::wV) pos) (fOr t u):=(zmv h h2).imp fun σ H Q hq_=>by
 refine hq_.elim fun own env z I e k=>?_
 unfold fOr at e
 replace e:=Option.bind_eq_some_iff.mp e;obtain ⟨p,hp,e⟩:=e
 refine (.in I hp fun H1 s1=>?_)
 cases p with
 | false=>exact ite_ff (.in (I.grow s1) (by simpa using e) fun H' s2=>k H' (s1.trans s2))
 | true=>cases e;exact ite_tt (k H1 s1)
theorem VW.vt(h:VW X κ G e t):VT X κ G e t:=PW.pt h
theorem zkK{op}(h:VE X κ G c a fa):VE X κ G c (.BoolOp op [a] pos) fa:=zlj h
noncomputable def zmV(fa fb:FE):FE:=fun env=>(fa env).bind fun x=>(wS x).bind fun k=>if k=true then fb env else some (.bl false)
noncomputable def zgm(fa fb:FE):FE:=fun env=>(fa env).bind fun x=>(wS x).bind fun k=>if k=true then some (.bl true) else fb env
noncomputable def zmU(fa:FE):FE:=fun env=>(fa env).bind fun x=>(wS x).map fun k=>.bl (!k)
theorem zmb{wV:List Expr}(h:VE X κ G c1 a fa)(h2:VE X κ G (.mv []) (.BoolOp .Or (b::wV) pos) fb):VE X κ G (.mv []) (.BoolOp .Or (a::b::wV) pos) (zgm fa fb):=(zmy h h2).imp fun σ H Q hq_=>by
 refine hq_.elim fun own env z I e k=>?_
 unfold zgm at e
 replace e:=Option.bind_eq_some_iff.mp e;obtain ⟨p,hp,e⟩:=e
 cases p<;>first | cases e | skip
 rename_i kb
 rw [show wS (.bl kb)=some kb from rfl,Option.bind_some] at e
 refine (.in I hp fun x H1 A s1 r1 _=>⟨kb,r1.B.1,?_⟩)
 cases kb with
 | false=>exact ite_ff (.in (I.grow s1) (by simpa using e) fun v H' A s2 r2 h=>k v H' A (s1.trans s2) r2 ⟨h.1,fun a ha=>(h.2 a ha).elim (fun z=>.inl (s1.free z)) .inr⟩)
 | true=>cases e;exact ite_tt (k _ H1 [] s1 (.mkB true) (Cat.nil _ _ _))
theorem Cat.back{L:List Nat}{H H1:Hp}{own:Addr->Option Nat}{A:List Addr}(c:Cat)(s:Same H H1)(h:c.ok H1 own A):c.ok H own A:=by
 cases c with
 | mv L=>exact ⟨h.1,fun a ha=>(h.2 a ha).elim (fun z=>.inl (s.free z)) .inr⟩
 | sh=>exact h
 | bo=>trivial
theorem zkt{cc:Expr}(hc:VT X κ G cc t)(ha:VE X κ G c a fa)(hb:VE X κ G c b fb):VE X κ G c (.IfExp cc a b pos) (fIf t fa fb):=(zhH hc ha hb).imp fun σ H Q hq_=>by
 refine hq_.elim fun own env z I e k=>?_
 unfold fIf at e
 replace e:=Option.bind_eq_some_iff.mp e;obtain ⟨p,hp,e⟩:=e
 refine (.in I hp fun H1 s1=>?_)
 cases p with
 | true=>exact ite_tt (.in (I.grow s1) (by simpa using e) fun v H' A s2 r2 h=>k v H' A (s1.trans s2) r2 (Cat.back (L:=[]) c s1 h))
 | false=>exact ite_ff (.in (I.grow s1) (by simpa using e) fun v H' A s2 r2 h=>k v H' A (s1.trans s2) r2 (Cat.back (L:=[]) c s1 h))
theorem zF:VA X κ G c [] zI:=⟨pa_nil.imp fun σ H Q hq_=>by
 refine hq_.elim fun own env ps I e k=>?_
 cases e
 exact k [] H [] (Same.refl _) .nil (Cat.nil _ _ _),fun env ps e=>by cases e;rfl⟩
theorem ub{env:En}{ps:List PV}(e:zC f fs env=some ps):∃ p r,f env=some p/\fs env=some r/\ps=p::r:=by
 unfold zC at e
 replace e:=Option.bind_eq_some_iff.mp e;obtain ⟨p,hp,e⟩:=e
 cases hr:fs env with
 | none=>rw [hr] at e;cases e
 | some r=>rw [hr] at e;cases e;exact ⟨p,r,hp,rfl,rfl⟩
theorem k4(hr:∀ env ps,fs env=some ps->ps.length=es.length):∀ env ps,zC f fs env=some ps->ps.length=(e::es).length:=fun env ps hf=>by
 obtain ⟨p,r,_,h2,rfl⟩:=ub hf
 rw [List.length_cons,List.length_cons,hr env r h2]
theorem zE(h:VE X κ G c1 e f)(hr:VA X κ G .bo es fs)(hs:starEach (e::es) X.env=(false,eval e X.env)::starEach es X.env:=by rfl):VA X κ G .bo (e::es) (zC f fs):=⟨(yA h hr.1 hs).imp fun σ H Q hq_=>by
 refine hq_.elim fun own env ps I hf k=>?_
 obtain ⟨p,r,h1,h2,rfl⟩:=ub hf
 exact (.in I h1 fun v H1 A s1 r1 _=>(.in (I.grow s1) h2 fun vs H2 B s2 r2 _=>k _ H2 (A++B) (s1.trans s2) (.cons (Rp.same s2 p r1) r2) trivial)),k4 hr.2⟩
theorem yE(h:VE X κ G .sh e f)(hr:VA X κ G .sh es fs)(hs:starEach (e::es) X.env=(false,eval e X.env)::starEach es X.env:=by rfl):VA X κ G .sh (e::es) (zC f fs):=⟨(yA h hr.1 hs).imp fun σ H Q hq_=>by
 refine hq_.elim fun own env ps I hf k=>?_
 obtain ⟨p,r,h1,h2,rfl⟩:=ub hf
 exact (.in I h1 fun v H1 A s1 r1 c1=>(.in (I.grow s1) h2 fun vs H2 B s2 r2 c2=>k _ H2 (A++B) (s1.trans s2) (.cons (Rp.same s2 p r1) r2) fun a ha=>(List.mem_append.mp ha).elim (c1 a) (c2 a))),k4 hr.2⟩
theorem zr{L1 L2:List Nat}(h:VE X κ G (.mv L1) e f)(hr:VA X κ G (.mv L2) es fs)(hL:∀ l ∈ L1,l ∉ L2:=by decide)(hs:starEach (e::es) X.env=(false,eval e X.env)::starEach es X.env:=by rfl):VA X κ G (.mv (L1++L2)) (e::es) (zC f fs):=⟨(yA h hr.1 hs).imp fun σ H Q hq_=>by
 refine hq_.elim fun own env ps I hf k=>?_
 obtain ⟨p,r,h1,h2,rfl⟩:=ub hf
 refine (.in I h1 fun v H1 A s1 r1 c1=>(.in (I.grow s1) h2 fun vs H2 B s2 r2 c2=>k _ H2 (A++B) (s1.trans s2) (.cons (Rp.same s2 p r1) r2) ⟨?_,fun a ha=>?_⟩))
 ·refine List.nodup_append.mpr ⟨c1.1,c2.1,fun a ha b hb=>?_⟩
  rintro rfl
  obtain ⟨o,ho⟩:=r1.alloc ha
  rcases c2.2 a hb with z | ⟨l,hl,z⟩
  ·rw [ho] at z;cases z
  ·rcases c1.2 a ha with z' | ⟨l',hl',z'⟩
   ·obtain ⟨_,m⟩:=I.own a l z
    obtain ⟨o',h'⟩:=m.some
    rw [z'] at h';cases h'
   ·rw [z] at z';cases z';exact hL _ hl' hl
 ·rcases List.mem_append.mp ha with ha | ha
  ·exact (c1.2 a ha).elim .inl fun ⟨l,hl,z⟩=>.inr ⟨l,List.mem_append_left _ hl,z⟩
  ·exact (c2.2 a ha).elim (fun z=>.inl (s1.free z)) fun ⟨l,hl,z⟩=>.inr ⟨l,List.mem_append_right _ hl,z⟩,k4 hr.2⟩
theorem Cat.push{L:List Nat}{K:PySem.W.Frag}{own:Addr->Option Nat}{env:En}{σ:St}{H H1:Hp}{A:List Addr}{p:Addr}{vs:List V}{ps:List PV}(c:Cat)(I:VI K κ G own env σ H)(s:Same H H1)(r:Rps K H1 ps vs A)(hp:H1 p=none)(h:c.ok H own A):c.ok H own (p::A):=by
 cases c with
 | mv L=>
  refine ⟨List.nodup_cons.mpr ⟨fun z=>?_,h.1⟩,fun a ha=>?_⟩
  ·obtain ⟨o,ho⟩:=(Rps.mut ps r p z).some
   rw [hp] at ho;cases ho
  ·rcases List.mem_cons.mp ha with rfl | ha
   ·exact .inl (s.free hp)
   ·exact h.2 a ha
 | sh=>
  intro a ha
  rcases List.mem_cons.mp ha with rfl | ha
  ·exact kT (A:=[a]) I (fun b hb=>by rw [List.mem_singleton.mp hb];exact s.free hp) a (List.mem_singleton.mpr rfl)
  ·exact h a ha
 | bo=>trivial
theorem zq{x1}(h:VA X κ G c es fs)(hn:es.length≤100000:=by first | decide | simp):VE X κ G c (.Tuple es x1 pos) (yp fs):=(zlh h.1).imp fun σ H Q hq_=>by
 refine hq_.elim fun own env z I e k=>?_
 unfold yp at e
 cases hp:fs env with
 | none=>rw [hp] at e;cases e
 | some ps=>
  rw [hp] at e
  cases e
  have hl:=h.2 env ps hp
  refine (.in I hp fun vs H1 A s1 r1 c1=>⟨by rw [← r1.length,hl,sizeLine_eq];omega,fun p hn=>?_⟩)
  exact k _ _ A (ya s1 (s1.free hn)) (.mkT (SqT.of zd) (Rps.same (ya (Same.refl _) hn) ps r1)) c1
theorem ym(h:VA X κ G c es fs)(hn:es.length≤100000:=by first | decide | simp):VE X κ G c (.List es pos) (wF fs):=(zll h.1).imp fun σ H Q hq_=>by
 refine hq_.elim fun own env z I e k=>?_
 unfold wF at e
 cases hp:fs env with
 | none=>rw [hp] at e;cases e
 | some ps=>
  rw [hp] at e
  cases e
  have hl:=h.2 env ps hp
  refine (.in I hp fun vs H1 A s1 r1 c1=>⟨by rw [← r1.length,hl,sizeLine_eq];omega,fun p hn=>?_⟩)
  exact k _ _ (p::A) (ya s1 (s1.free hn)) (.mkL zd (Rps.same (ya (Same.refl _) hn) ps r1)) (Cat.push (L:=[]) c I s1 r1 hn c1)
end
inductive Out where
 | nx (e:En) | rt (p:PV) (e:En) | bk (e:En) | ct (e:En)
noncomputable abbrev FS:=En->Option Out
noncomputable def ko(O:List Nat):Nat->Option Nat:=fun i=>if i ∈ O then some i else none
theorem vE{O:List Nat}{i:Nat}(h:i ∈ O):ko O i=some i:=if_pos h
theorem zau{O:List Nat}{i:Nat}(h:i ∉ O):ko O i=none:=if_neg h
theorem qT{O:List Nat}{i l:Nat}(h:ko O i=some l):l=i:=by
 unfold ko at h
 split at h
 ·cases h;rfl
 ·cases h
noncomputable def OutK(K:PySem.W.Frag)(κ:Nat->Option Nat)(G:Hp)(own:Addr->Option Nat)(H:Hp)(D:Ends):Out->Prop
 | .nx e=>∀ own' σ' H',VI K κ G own' e σ' H'->Ext own H own' H'->D.nx σ' H'
 | .bk e=>∀ own' σ' H',VI K κ G own' e σ' H'->Ext own H own' H'->D.bk σ' H'
 | .ct e=>∀ own' σ' H',VI K κ G own' e σ' H'->Ext own H own' H'->D.ct σ' H'
 | .rt p e=>∀ v H' A own' σ',VI K κ G own' e σ' H'->Rp K H' p v A->A.Nodup->(∀ a ∈ A,G a=none/\own' a≠some 0)->D.rt v H'
theorem OutK.ext{K:PySem.W.Frag}{κ:Nat->Option Nat}{G:Hp}{own own':Addr->Option Nat}{H H':Hp}{D:Ends}{o:Out}(h:OutK K κ G own H D o)(x:Ext own H own' H'):OutK K κ G own' H' D o:=by
 cases o with
 | nx e=>exact fun o2 σ2 H2 I2 x2=>h o2 σ2 H2 I2 (x.trans x2)
 | bk e=>exact fun o2 σ2 H2 I2 x2=>h o2 σ2 H2 I2 (x.trans x2)
 | ct e=>exact fun o2 σ2 H2 I2 x2=>h o2 σ2 H2 I2 (x.trans x2)
 | rt p e=>exact h
noncomputable def tVS(K:PySem.W.Frag)(κ:Nat->Option Nat)(G:Hp)(g:FS):TS:=fun D σ H=>∃ own env o,VI K κ G own env σ H/\g env=some o/\OutK K κ G own H D o
theorem tVS.elim{K:PySem.W.Frag}{κ:Nat->Option Nat}{G:Hp}{g:FS}{D:Ends}{σ:St}{H:Hp}{C:Prop}(h:tVS K κ G g D σ H)(k:∀ own env o,VI K κ G own env σ H->g env=some o->OutK K κ G own H D o->C):C:=
 let ⟨own,env,o,I,hf,q⟩:=h
 k own env o I hf q
noncomputable def VS(X:Cx)(κ:Nat->Option Nat)(G:Hp)(st:Stmt)(g:FS):Prop:=PS X st (tVS X.K κ G g)
noncomputable def VSs(X:Cx)(κ:Nat->Option Nat)(G:Hp)(st:List Stmt)(g:FS):Prop:=PSs X st (tVS X.K κ G g)
noncomputable def fNx:FS:=fun env=>some (.nx env)
noncomputable def fBk:FS:=fun env=>some (.bk env)
noncomputable def fCt:FS:=fun env=>some (.ct env)
noncomputable def zW(g h:FS):FS:=fun env=>(g env).bind fun o=>match o with | .nx e=>h e | o=>some o
noncomputable def yq(f:FE):FS:=fun env=>(f env).map fun p=>.rt p env
noncomputable def wG(t:FT)(g h:FS):FS:=fun env=>(t env).bind fun b=>if b=true then g env else h env
noncomputable def zp(i:Nat)(f:FE):FS:=fun env=>(f env).map fun p=>.nx (env.set i (some p))
noncomputable def zgo(bnd:PV->En->Option En)(f:FE):FS:=fun env=>(f env).bind fun p=>(bnd p env).map .nx
noncomputable def xw(bnd:PV->En->Option En)(body:FS):List PV->En->Option Out
 | [],env=>some (.nx env)
 | p::ps,env=>(bnd p env).bind fun e1=>(body e1).bind fun o=>match o with | .nx e=>xw bnd body ps e | .ct e=>xw bnd body ps e | .bk e=>some (.nx e) | .rt p e=>some (.rt p e)
noncomputable def yt(src:FA)(bnd:PV->En->Option En)(body:FS):FS:=fun env=>(src env).bind fun ps=>xw bnd body ps env
noncomputable def fWh(t:FT)(body:FS):Nat->En->Option Out
 | 0,_=>none
 | n+1,env=>(t env).bind fun b=>if b=true then (body env).bind fun o=>match o with | .nx e=>fWh t body n e | .ct e=>fWh t body n e | .bk e=>some (.nx e) | .rt p e=>some (.rt p e) else some (.nx env)
section
variable {X:Cx} {κ:Nat->Option Nat} {G:Hp} {c c1 c2:Cat} {a b e:Expr} {es:List Expr} {fa fb f:FE} {t u:FT} {fs:FA} {pos:Pos} {g h:FS} {st:Stmt} {wV:List Stmt}
theorem yW:VSs X κ G [] fNx:=pss_nil.imp fun D σ H hq_=>by
 refine hq_.elim fun own env o I hf k=>?_
 cases hf
 exact k own σ H I (Ext.refl _ _)
theorem zD(h1:VS X κ G st g)(h2:VSs X κ G wV h):VSs X κ G (st::wV) (zW g h):=(zdb h1 h2).imp fun D σ H hq_=>by
 refine hq_.elim fun own env o I hf k=>?_
 unfold zW at hf
 replace hf:=Option.bind_eq_some_iff.mp hf;obtain ⟨o1,hg,hf⟩:=hf
 refine ⟨own,env,o1,I,hg,?_⟩
 cases o1 with
 | nx e1=>exact fun own' σ' H' I' x=>⟨own',e1,o,I',hf,k.ext x⟩
 | bk e1=>cases hf;exact k
 | ct e1=>cases hf;exact k
 | rt p e1=>cases hf;exact k
theorem zK(h1:VS X κ G st g):VSs X κ G [st] g:=(zdb h1 pss_nil).imp fun D σ H h=>h
theorem zj{L:List Nat}(he:VE X κ G (.mv L) e f)(h0:0 ∉ L:=by decide):VS X κ G (.Return (some e) pos) (yq f):=(zej he).imp fun D σ H hq_=>by
 refine hq_.elim fun own env o I hf k=>?_
 unfold yq at hf
 cases hp:f env with
 | none=>rw [hp] at hf;cases hf
 | some p=>
  rw [hp] at hf;cases hf
  refine (.in I hp fun v H' A s r hc=>k v H' A own σ (I.grow s) r hc.1 fun a ha=>?_)
  rcases hc.2 a ha with z | ⟨l,hl,z⟩
  ·refine ⟨I.same.free z,fun y=>?_⟩
   obtain ⟨o,ho⟩:=(I.own a 0 y).2.some
   rw [z] at ho;cases ho
  ·exact ⟨(I.own a l z).1,fun y=>h0 (by rw [z] at y;cases y;exact hl)⟩
noncomputable def zmT:FS:=fun env=>some (.rt .non env)
theorem y2{cc:Expr}{bs1 bs2:List Stmt}(hc:VT X κ G cc t)(h1:VSs X κ G bs1 g)(h2:VSs X κ G bs2 h):VS X κ G (.If cc bs1 bs2 pos) (wG t g h):=(zmw hc h1 h2).imp fun D σ H hq_=>by
 refine hq_.elim fun own env o I hf k=>?_
 unfold wG at hf
 replace hf:=Option.bind_eq_some_iff.mp hf;obtain ⟨p,hp,hf⟩:=hf
 refine (.in I hp fun H1 s1=>?_)
 cases p with
 | true=>exact ite_tt ⟨own,env,o,I.grow s1,by simpa using hf,k.ext (Ext.grow s1)⟩
 | false=>exact ite_ff ⟨own,env,o,I.grow s1,by simpa using hf,k.ext (Ext.grow s1)⟩
theorem VI.set_sh{K:PySem.W.Frag}{own:Addr->Option Nat}{env:En}{σ:St}{H:Hp}{i:Nat}{p:PV}{v:V}{A:List Addr}(I:VI K κ G own env σ H)(hk:κ i=none)(r:Rp K H p v A)(hA:∀ a ∈ A,own a=none):VI K κ G own (env.set i (some p)) (σ.set i (some v)) H:=by
 refine ⟨by simp [I.len],fun j q e=>?_,I.own,I.same⟩
 rw [List.getElem?_set] at e ⊢
 by_cases hij:i=j
 ·subst hij
  rw [if_pos rfl] at e ⊢
  by_cases hl:i<env.length
  ·rw [if_pos hl] at e
   rw [if_pos (by rw [← I.len];exact hl)]
   cases e
   exact ⟨v,A,rfl,r,fun _=>hA,fun l z=>by rw [hk] at z;cases z⟩
  ·rw [if_neg hl] at e;cases e
 ·rw [if_neg hij] at e ⊢
  exact I.slot j q e
noncomputable def acq(own:Addr->Option Nat)(i:Nat)(A:List Addr):Addr->Option Nat:=fun a=>if a ∈ A then some i else if own a=some i then none else own a
theorem VI.take{O:List Nat}{K:PySem.W.Frag}{own:Addr->Option Nat}{env:En}{σ:St}{H0 H2:Hp}{i:Nat}{p:PV}{v:V}{A:List Addr}(hi:i ∈ O)(I:VI K (ko O) G own env σ H0)
  (keep:∀ j q w B,j≠i->env[j]?=some (some q)->Rp K H0 q w B->(∀ b ∈ B,own b≠some i)->Rp K H2 q w B)
  (hx:∀ b o,own b≠some i->H0 b=some o->H2 b=some o)
  (r:Rp K H2 p v A)(nd:A.Nodup)(hA:∀ a ∈ A,own a=some i∨H0 a=none):
  VI K (ko O) G (acq own i A) (env.set i (some p)) (σ.set i (some v)) H2/\Ext own H0 (acq own i A) H2:=by
 have notin:∀ b o,own b≠some i->H0 b=some o->b ∉ A:=fun b o h1 h2 hb=>by
  rcases hA b hb with z | z
  ·exact h1 z
  ·rw [h2] at z;cases z
 have stay:∀ b o,own b≠some i->H0 b=some o->acq own i A b=own b:=fun b o h1 h2=>by
  unfold acq;rw [if_neg (notin b o h1 h2),if_neg h1]
 refine ⟨⟨by simp [I.len],fun j q e=>?_,fun b l e=>?_,fun b o e=>?_⟩,fun b o h1 h2=>?_⟩
 ·rw [List.getElem?_set] at e ⊢
  by_cases hij:i=j
  ·subst hij
   rw [if_pos rfl] at e ⊢
   by_cases hl:i<env.length
   ·rw [if_pos hl] at e
    rw [if_pos (by rw [← I.len];exact hl)]
    cases e
    refine ⟨v,A,rfl,r,fun z=>(by rw [vE hi] at z;cases z),fun l z=>?_⟩
    rw [vE hi] at z;cases z
    exact ⟨nd,fun a ha=>by unfold acq;rw [if_pos ha]⟩
   ·rw [if_neg hl] at e;cases e
  ·rw [if_neg hij] at e ⊢
   obtain ⟨w,B,h1,h2,h3,h4⟩:=I.slot j q e
   have no:∀ b ∈ B,own b≠some i:=fun b hb z=>by
    cases hk:ko O j with
    | none=>rw [h3 hk b hb] at z;cases z
    | some l=>
     have:=(h4 l hk).2 b hb
     rw [z] at this
     have e1:=qT hk
     cases this
     exact hij e1
   refine ⟨w,B,h1,keep j q w B (fun z=>hij z.symm) e h2 no,fun hk b hb=>?_,fun l hk=>⟨(h4 l hk).1,fun b hb=>?_⟩⟩
   ·obtain ⟨o,ho⟩:=h2.alloc hb
    rw [stay b o (no b hb) ho];exact h3 hk b hb
   ·obtain ⟨o,ho⟩:=h2.alloc hb
    rw [stay b o (no b hb) ho];exact (h4 l hk).2 b hb
 ·unfold acq at e
  split at e
  ·rename_i hb
   refine ⟨?_,Rp.mut p r b hb⟩
   rcases hA b hb with z | z
   ·exact (I.own b i z).1
   ·exact I.same.free z
  ·split at e
   ·cases e
   ·rename_i hb hn
    obtain ⟨h1,h2⟩:=I.own b l e
    refine ⟨h1,?_⟩
    rcases h2 with ⟨xs,h2⟩ | ⟨xs,h2⟩
    ·exact .inl ⟨xs,hx b _ hn h2⟩
    ·exact .inr ⟨xs,hx b _ hn h2⟩
 ·have h0:=I.same b o e
  refine hx b o (fun z=>?_) h0
  rw [(I.own b i z).1] at e;cases e
 ·have hn:own b≠some i:=by rw [h1];exact fun z=>nomatch z
  exact ⟨by rw [stay b o hn h2];exact h1,hx b o hn h2⟩
theorem zN{i:Nat}(hk:κ i=none)(h:PS X st (qj (tV X.K κ G .sh f) (jb i))):VS X κ G st (zp i f):=h.imp fun D σ H hq_=>by
 refine hq_.elim fun own env o I hf k=>?_
 unfold zp at hf
 cases hp:f env with
 | none=>rw [hp] at hf;cases hf
 | some p=>
  rw [hp] at hf;cases hf
  exact (.in I hp fun v H' A s r hc=>k own _ H' ((I.grow s).set_sh hk r hc) (Ext.grow s))
theorem z0{O:List Nat}{i:Nat}(hi:i ∈ O)(h:PS X st (qj (tV X.K (ko O) G (.mv []) f) (jb i))):VS X (ko O) G st (zp i f):=h.imp fun D σ H hq_=>by
 refine hq_.elim fun own env o I hf k=>?_
 unfold zp at hf
 cases hp:f env with
 | none=>rw [hp] at hf;cases hf
 | some p=>
  rw [hp] at hf;cases hf
  refine (.in I hp fun v H' A s r hc=>?_)
  obtain ⟨h1,h2⟩:=I.take hi (fun j q w B _ _ z _=>Rp.same s q z) (fun b o _ z=>s b o z) r hc.1 fun a ha=>.inr ((hc.2 a ha).elim id fun ⟨_,hl,_⟩=>nomatch hl)
  exact k _ _ H' h1 h2
noncomputable def tVG(K:PySem.W.Frag)(κ:Nat->Option Nat)(G:Hp)(Bs:List Nat)(bnd:PV->En->Option En):TG:=fun v σ H Q=>∃ own env p A e,VI K κ G own env σ H/\Rp K H p v A/\(∀ a ∈ A,own a=none)/\bnd p env=some e/\∀ σ',VI K κ G own e σ' H->(∀ i,i ∉ Bs->σ'[i]?=σ[i]?)->σ'.length=σ.length->Q σ' H
noncomputable def VG(X:Cx)(κ:Nat->Option Nat)(G:Hp)(Bs:List Nat)(tg:Expr)(bnd:PV->En->Option En):Prop:=PG X tg (tVG X.K κ G Bs bnd)
noncomputable def znE(K:PySem.W.Frag)(κ:Nat->Option Nat)(G:Hp)(Bs:List Nat)(bnd:List PV->En->Option En):TGs:=fun vs σ H Q=>∃ own env ps A e,VI K κ G own env σ H/\Rps K H ps vs A/\(∀ a ∈ A,own a=none)/\bnd ps env=some e/\∀ σ',VI K κ G own e σ' H->(∀ i,i ∉ Bs->σ'[i]?=σ[i]?)->σ'.length=σ.length->Q σ' H
noncomputable def VGs(X:Cx)(κ:Nat->Option Nat)(G:Hp)(Bs:List Nat)(tg:List Expr)(bnd:List PV->En->Option En):Prop:=PGs X tg (znE X.K κ G Bs bnd)
noncomputable def zL(i:Nat):PV->En->Option En:=fun p env=>some (env.set i (some p))
noncomputable def xN:List PV->En->Option En:=fun ps env=>match ps with | []=>some env | _=>none
noncomputable def zZ(b1:PV->En->Option En)(b2:List PV->En->Option En):List PV->En->Option En:=fun ps env=>match ps with | p::r=>(b1 p env).bind fun e=>b2 r e | []=>none
noncomputable def xM(n:Nat)(b:List PV->En->Option En):PV->En->Option En:=fun p env=>match p with
 | .tup ps=>if ps.length=n then b ps env else none
 | .lst ps=>if ps.length=n then b ps env else none
 | _=>none
end
end F
namespace L2
theorem PG.imp{X:Cx}{e:PySem.Expr}{t t':TG}(h:PG X e t)(i:∀ v σ H Q,t' v σ H Q->t v σ H Q):PG X e t':=fun pins s σ H v u Q I r hw=>h pins s σ H v u Q I r (i _ _ _ _ hw)
theorem PGs.imp{X:Cx}{e:List PySem.Expr}{t t':TGs}(h:PGs X e t)(i:∀ v σ H Q,t' v σ H Q->t v σ H Q):PGs X e t':=fun pins s σ H v u Q I r hw=>h pins s σ H v u Q I r (i _ _ _ _ hw)
theorem PG.or{X:Cx}{e:PySem.Expr}{t t':TG}(h:PG X e t)(h':PG X e t'):PG X e (fun v σ H Q=>t v σ H Q∨t' v σ H Q):=fun pins s σ H v u Q I r hw=>hw.elim (h pins s σ H v u Q I r) (h' pins s σ H v u Q I r)
theorem PI.imp{X:Cx}{tg e:PySem.Expr}{t t':TI}(h:PI X tg e t)(i:∀ σ H R,t' σ H R->t σ H R):PI X tg e t':=fun pins s σ H R I hw=>h pins s σ H R I (i _ _ _ hw)
end L2
namespace F
open PySem PySem.Spec PyProof.Rows L2
section
variable {X:Cx} {κ:Nat->Option Nat} {G:Hp} {c c1 c2:Cat} {a b e:Expr} {es:List Expr} {fa fb f:FE} {t u:FT} {fs:FA} {pos:Pos} {g h:FS} {st:Stmt} {wV:List Stmt} {bnd:PV->En->Option En} {bnds:List PV->En->Option En}
theorem zO(i:Nat){tg:Expr}(hk:κ i=none)(h:PG X tg (jb i)):VG X κ G [i] tg (zL i):=h.imp fun v σ H Q hq_=>by
 obtain ⟨own,env,p,A,e,I,r,hA,hb,k⟩:=hq_
 cases hb
 refine k _ (I.set_sh hk r hA) (fun j hj=>?_) (by simp)
 rw [List.getElem?_set,if_neg (fun z=>hj (by simp [z]))]
theorem yz:VGs X κ G [] [] xN:=pgs_nil.imp fun vs σ H Q hq_=>by
 obtain ⟨own,env,ps,A,e,I,r,hA,hb,k⟩:=hq_
 unfold xN at hb
 cases ps with
 | nil=>cases hb;exact ⟨r.inv0.1,k σ I (fun _ _=>rfl) rfl⟩
 | cons p ps=>cases hb
theorem za{Bs1 Bs2:List Nat}(h1:VG X κ G Bs1 e bnd)(h2:VGs X κ G Bs2 es bnds)(hs:(assignEach (e::es) X.env).map (·.2)=assign e X.env::(assignEach es X.env).map (·.2):=by rfl):VGs X κ G (Bs1++Bs2) (e::es) (zZ bnd bnds):=(zhC h1 h2 hs).imp fun vs σ H Q hq_=>by
 obtain ⟨own,env,ps,A,e,I,r,hA,hb,k⟩:=hq_
 unfold zZ at hb
 cases ps with
 | nil=>cases hb
 | cons p ps=>
  dsimp only at hb
  obtain ⟨v,r',A1,A2,h1,h2,h3,h4⟩:=r.inv
  replace hb:=Option.bind_eq_some_iff.mp hb;obtain ⟨e1,hp,hb⟩:=hb
  subst h2
  refine ⟨v,r',h1,own,env,p,A1,e1,I,h3,fun a ha=>hA a (List.mem_append_left _ ha),hp,fun σ1 I1 q1 l1=>?_⟩
  exact ⟨own,e1,ps,A2,e,I1,h4,fun a ha=>hA a (List.mem_append_right _ ha),hb,fun σ2 I2 q2 l2=>k σ2 I2 (fun i hi=>(q2 i fun z=>hi (List.mem_append_right _ z)).trans (q1 i fun z=>hi (List.mem_append_left _ z))) (l2.trans l1)⟩
theorem xu{Bs:List Nat}{k:Nat}(n:Nat)(hc:X.calm=true)(h:VGs X κ G Bs es bnds)(hn:(assignEach es X.env).length=n:=by rfl)(hst:(assignEach es X.env).findIdx? (·.1)=none:=by rfl):VG X κ G Bs (.Tuple es k pos) (xM n bnds):=
 ((zle hc h hn hst).or (zlf hc h hn hst)).imp fun v σ H Q hq_=>by
 obtain ⟨own,env,p,A,e,I,r,hA,hb,k⟩:=hq_
 unfold xM at hb
 cases p with
 | tup ps=>
  dsimp only at hb
  split at hb
  ·rename_i hl
   obtain ⟨a,xs,h1,h2,h3⟩:=r.T
   exact .inl ⟨a,xs,h1,h2,by rw [← h3.length];exact hl,own,env,ps,A,e,I,h3,hA,hb,k⟩
  ·cases hb
 | lst ps=>
  dsimp only at hb
  split at hb
  ·rename_i hl
   obtain ⟨a,xs,B,h1,h2,h3,h4⟩:=r.L
   subst h3
   exact .inr ⟨a,xs,h1,SqL.of h2,by rw [← h4.length];exact hl,own,env,ps,B,e,I,h4,fun a ha=>hA a (List.mem_cons_of_mem _ ha),hb,k⟩
  ·cases hb
 | _=>cases hb
theorem zdS{Bs:List Nat}{tg:Expr}(he:VE X κ G .sh e f)(hg:VG X κ G Bs tg bnd)(hs:swapsWithSole [tg] e pos.line X.env=pure false:=by rfl)(hw:swappedStores [tg] e X.env=pure none:=by rfl)
  (h1:(assignEach [tg] X.env).map (·.2)=[assign tg X.env]:=by rfl):VS X κ G (.Assign [tg] e pos) (zgo bnd f):=(km he hg hs hw h1).imp fun D σ H hq_=>by
 refine hq_.elim fun own env o I hf k=>?_
 unfold zgo at hf
 replace hf:=Option.bind_eq_some_iff.mp hf;obtain ⟨p,hp,hf⟩:=hf
 cases hb:bnd p env with
 | none=>rw [hb] at hf;cases hf
 | some e1=>
  rw [hb] at hf;cases hf
  exact (.in I hp fun v H' A s r hc=>⟨own,env,p,A,e1,I.grow s,r,hc,hb,fun σ' I' _ _=>k own σ' H' I' (Ext.grow s)⟩)
noncomputable def Stay(own:Addr->Option Nat)(H1 H2:Hp):Prop:=∀ b o,own b=none->H1 b=some o->H2 b=some o
theorem Stay.ext{own own':Addr->Option Nat}{H1 H2:Hp}(s:Ext own H1 own' H2):Stay own H1 H2:=fun b o h e=>(s b o h e).2
theorem Stay.tup{K:PySem.W.Frag}{own:Addr->Option Nat}{H1 H2:Hp}{a:Addr}{xs:List V}(s:Stay own H1 H2)(hm:∀ a l,own a=some l->MutH H1 a)(h:SqT K H1 a xs):SqT K H2 a xs:=by
 have no:∀ o,H1 a=some o->(∀ z,o≠.lst z)->(∀ z,o≠.dK z)->own a=none:=fun o e n1 n2=>by
  cases q:own a with
  | none=>rfl
  | some l=>
   rcases hm a l q with ⟨z,m⟩ | ⟨z,m⟩
   ·rw [e] at m;exact absurd (Option.some.inj m) (n1 z)
   ·rw [e] at m;exact absurd (Option.some.inj m) (n2 z)
 rcases h with (h | ⟨u,h⟩) | h
 ·exact .inl (.inl (s _ _ (no _ h (fun _ z=>nomatch z) fun _ z=>nomatch z) h))
 ·exact .inl (.inr ⟨u,s _ _ (no _ h (fun _ z=>nomatch z) fun _ z=>nomatch z) h⟩)
 ·exact .inr h
theorem Stay.fz{K:PySem.W.Frag}{own:Addr->Option Nat}{H1 H2:Hp}{a:Addr}{xs:List V}(s:Stay own H1 H2)(hm:∀ a l,own a=some l->MutH H1 a)(h:Fz K H1 a xs):Fz K H2 a xs:=by
 rcases h with ⟨u,h⟩ | h
 ·refine .inl ⟨u,s _ _ ?_ h⟩
  cases q:own a with
  | none=>rfl
  | some l=>rcases hm a l q with ⟨z,m⟩ | ⟨z,m⟩<;>(rw [h] at m;cases m)
 ·exact .inr h
mutual
theorem Rp.stay{K:PySem.W.Frag}{own:Addr->Option Nat}{H1 H2:Hp}(s:Stay own H1 H2)(hm:∀ a l,own a=some l->MutH H1 a):∀ (p:PV) {v:V} {A:List Addr},(∀ a ∈ A,own a=none)->Rp K H1 p v A->Rp K H2 p v A
 | .non,_,_,_,h=>by unfold Rp at h ⊢;exact h
 | .bl _,_,_,_,h=>by unfold Rp at h ⊢;exact h
 | .int _,_,_,_,h=>by unfold Rp at h ⊢;exact h
 | .str _,_,_,_,h=>by unfold Rp at h ⊢;exact h
 | .ty _,_,_,_,h=>by unfold Rp at h ⊢;exact h
 | .any,_,_,_,h=>by unfold Rp at h ⊢;exact h
 | .adr _,_,_,_,h=>by unfold Rp at h ⊢;exact h
 | .pen a _,_,_,hA,h=>by
  unfold Rp at h ⊢
  exact ⟨h.1,h.2.1,s _ _ (hA a (by rw [h.2.1];exact List.mem_cons_self)) h.2.2⟩
 | .tup ps,_,_,hA,h=>by
  unfold Rp at h ⊢
  obtain ⟨a,xs,h1,h2,h3⟩:=h
  exact ⟨a,xs,h1,s.tup hm h2,Rps.stay s hm ps hA h3⟩
 | .lst ps,_,_,hA,h=>by
  unfold Rp at h ⊢
  obtain ⟨a,xs,B,h1,h2,rfl,h4⟩:=h
  exact ⟨a,xs,B,h1,s _ _ (hA a List.mem_cons_self) h2,rfl,Rps.stay s hm ps (fun b hb=>hA b (List.mem_cons_of_mem _ hb)) h4⟩
 | .fls ps,_,_,hA,h=>by
  unfold Rp at h ⊢
  obtain ⟨a,xs,h1,h2,h3⟩:=h
  exact ⟨a,xs,h1,s.fz hm h2,Rps.stay s hm ps hA h3⟩
 | .dct ks ps,_,_,hA,h=>by
  unfold Rp at h ⊢
  obtain ⟨a,xs,B,h1,h2,h3,rfl,h5⟩:=h
  exact ⟨a,xs,B,h1,s _ _ (hA a List.mem_cons_self) h2,h3,rfl,Rps.stay s hm ps (fun b hb=>hA b (List.mem_cons_of_mem _ hb)) h5⟩
theorem Rps.stay{K:PySem.W.Frag}{own:Addr->Option Nat}{H1 H2:Hp}(s:Stay own H1 H2)(hm:∀ a l,own a=some l->MutH H1 a):∀ (ps:List PV) {vs:List V} {A:List Addr},(∀ a ∈ A,own a=none)->Rps K H1 ps vs A->Rps K H2 ps vs A
 | [],_,_,_,h=>by unfold Rps at h ⊢;exact h
 | p::ps,_,_,hA,h=>by
  unfold Rps at h ⊢
  obtain ⟨v,r,A1,A2,h1,rfl,h3,h4⟩:=h
  exact ⟨v,r,A1,A2,h1,rfl,Rp.stay s hm p (fun a ha=>hA a (List.mem_append_left _ ha)) h3,Rps.stay s hm ps (fun a ha=>hA a (List.mem_append_right _ ha)) h4⟩
end
noncomputable def Walks(K:PySem.W.Frag)(own:Addr->Option Nat)(H1:Hp)(R:Hp->Prop)(J:It)(ps:List PV):Prop:=∀ i H2,R H2->
 (∀ p,ps[i]?=some p->J.go i H2/\∀ x H3,J.yld i H2 x H3->Same H2 H3/\∃ A,Rp K H3 p x A/\∀ a ∈ A,own a=none/\∃ o,H1 a=some o)/\(ps.length≤i->J.stop i H2)
noncomputable def tVI(K:PySem.W.Frag)(κ:Nat->Option Nat)(G:Hp)(lp:Bool)(f:FA):TI:=fun σ H R=>∃ own env ps,VI K κ G own env σ H/\f env=some ps/\∀ J H1,Same H H1->Walks K own H1 (fun H2=>if lp=true then Stay own H1 H2 else Same H1 H2) J ps->R J H1
theorem tVI.in{K:PySem.W.Frag}{κ:Nat->Option Nat}{G:Hp}{lp:Bool}{f:FA}{σ:St}{H:Hp}{R:It->Hp->Prop}{own:Addr->Option Nat}{env:En}{p:List PV}(I:VI K κ G own env σ H)(hf:f env=some p)(k:∀ J H1,Same H H1->Walks K own H1 (fun H2=>if lp=true then Stay own H1 H2 else Same H1 H2) J p->R J H1):tVI K κ G lp f σ H R:=⟨own,env,p,I,hf,k⟩
theorem tVI.elim{K:PySem.W.Frag}{κ:Nat->Option Nat}{G:Hp}{lp:Bool}{f:FA}{σ:St}{H:Hp}{R:It->Hp->Prop}{C:Prop}(h:tVI K κ G lp f σ H R)(k:∀ own env (p:List PV),VI K κ G own env σ H->f env=some p->(∀ J H1,Same H H1->Walks K own H1 (fun H2=>if lp=true then Stay own H1 H2 else Same H1 H2) J p->R J H1)->C):C:=
 let ⟨own,env,p,I,hf,q⟩:=h
 k own env p I hf q
noncomputable def VIt(X:Cx)(κ:Nat->Option Nat)(G:Hp)(lp:Bool)(tg iter:Expr)(f:FA):Prop:=PI X tg iter (tVI X.K κ G lp f)
noncomputable def wk:PV->Option (List PV)
 | .lst ps=>some ps
 | .fls ps=>some ps
 | .tup ps=>some ps
 | _=>none
noncomputable def zc(f:FE):FA:=fun env=>(f env).bind wk
noncomputable def zmS(f:FE):FA:=fun env=>(f env).bind fun p=>(wk p).bind fun ps=>if isDatas ps=true then some ps else none
theorem zkB{X:Cx}{tg iter:Expr}{t t':TI}(h:PI X tg iter t)(h':PI X tg iter t'):PI X tg iter (fun σ H R=>t σ H R∨t' σ H R):=fun pins s σ H R I hw=>hw.elim (h pins s σ H R I) (h' pins s σ H R I)
theorem zeQ{K:PySem.W.Frag}{own:Addr->Option Nat}{H1:Hp}{R:Hp->Prop}{a:Addr}{ps:List PV}{xs:List V}{A:List Addr}(h1':Rps K H1 ps xs A)(hA:∀ a ∈ A,own a=none)(hl:∀ H2,R H2->SqL K H2 a xs/\Rps K H2 ps xs A):Walks K own H1 R (Itl K a) ps:=by
 intro i H2 hR
 obtain ⟨hq,hr⟩:=hl H2 hR
 refine ⟨fun p hp=>?_,fun hi=>⟨xs,hq,by rw [← hr.length];exact hi⟩⟩
 obtain ⟨v,C,h1,h2,h3⟩:=hr.get hp
 refine ⟨⟨xs,v,hq,h1⟩,fun x H3 ⟨e,hy⟩=>?_⟩
 subst e
 have:=hy xs hq
 rw [h1] at this;cases this
 exact ⟨Same.refl _,C,h2,fun a ha=>⟨hA a (h3.subset ha),(Rps.mut _ h1' a (h3.subset ha)).some⟩⟩
theorem zja{K:PySem.W.Frag}{own:Addr->Option Nat}{H1:Hp}{R:Hp->Prop}{a:Addr}{ps:List PV}{xs:List V}{A:List Addr}(h1':Rps K H1 ps xs A)(hA:∀ a ∈ A,own a=none)(hl:∀ H2,R H2->SqT K H2 a xs/\Rps K H2 ps xs A):Walks K own H1 R (Itt K a) ps:=by
 intro i H2 hR
 obtain ⟨hq,hr⟩:=hl H2 hR
 refine ⟨fun p hp=>?_,fun hi=>⟨xs,hq,by rw [← hr.length];exact hi⟩⟩
 obtain ⟨v,C,h1,h2,h3⟩:=hr.get hp
 refine ⟨⟨xs,v,hq,h1⟩,fun x H3 ⟨e,hy⟩=>?_⟩
 subst e
 have:=hy xs hq
 rw [h1] at this;cases this
 exact ⟨Same.refl _,C,h2,fun a ha=>⟨hA a (h3.subset ha),(Rps.mut _ h1' a (h3.subset ha)).some⟩⟩
theorem zh{tg l:Expr}(lp:Bool)(hl:VE X κ G .sh l f):VIt X κ G lp tg l (zc f):=(zkB (zjE hl) (zld hl)).imp fun σ H R hq_=>by
 refine hq_.elim fun own env ps I hf k=>?_
 unfold zc at hf
 replace hf:=Option.bind_eq_some_iff.mp hf;obtain ⟨p,hp,hf⟩:=hf
 cases p<;>first | cases hf | skip
 ·refine .inr (.in I hp fun v H1 A s r hc=>?_)
  obtain ⟨a,xs,h1,h2,h3⟩:=r.T
  have hm:∀ a l,own a=some l->MutH H1 a:=fun a l e=>((I.grow s).own a l e).2
  refine ⟨a,h1,⟨xs,h2⟩,k _ H1 s (zja (xs:=xs) h3 hc fun H2 hR=>?_)⟩
  cases lp with
  | true=>exact ⟨Stay.tup hR hm h2,Rps.stay hR hm _ hc h3⟩
  | false=>exact ⟨Same.tup hR h2,Rps.same hR _ h3⟩
 ·refine .inl (.in I hp fun v H1 A s r hc=>?_)
  obtain ⟨a,xs,B,h1,h2,rfl,h3⟩:=r.L
  have hm:∀ a l,own a=some l->MutH H1 a:=fun a l e=>((I.grow s).own a l e).2
  refine ⟨a,h1,⟨xs,SqL.of h2⟩,k _ H1 s (zeQ (xs:=xs) h3 (fun b hb=>hc b (List.mem_cons_of_mem _ hb)) fun H2 hR=>?_)⟩
  cases lp with
  | true=>exact ⟨SqL.of (hR _ _ (hc a List.mem_cons_self) h2),Rps.stay hR hm _ (fun b hb=>hc b (List.mem_cons_of_mem _ hb)) h3⟩
  | false=>exact ⟨SqL.of (hR _ _ h2),Rps.same hR _ h3⟩
 ·refine .inl (.in I hp fun v H1 A s r hc=>?_)
  obtain ⟨a,xs,h1,h2,h3⟩:=r.Fl
  have hm:∀ a l,own a=some l->MutH H1 a:=fun a l e=>((I.grow s).own a l e).2
  refine ⟨a,h1,⟨xs,h2.seq⟩,k _ H1 s (zeQ (xs:=xs) h3 hc fun H2 hR=>?_)⟩
  cases lp with
  | true=>exact ⟨(Stay.fz hR hm h2).seq,Rps.stay hR hm _ hc h3⟩
  | false=>exact ⟨(h2.same hR).seq,Rps.same hR _ h3⟩
noncomputable def uA(lo:Int)(n:Nat):List PV:=(List.range n).map fun (i:Nat)=>PV.int (lo+i)
theorem ux(lo:Int)(n:Nat):(uA lo n).length=n:=by simp [uA]
theorem zjb{K:PySem.W.Frag}{own:Addr->Option Nat}{H1:Hp}{R:Hp->Prop}(lo:Int)(n:Nat):Walks K own H1 R (Itr lo n) (uA lo n):=by
 intro i H2 _
 refine ⟨fun p hp=>?_,fun hi=>by rw [ux] at hi;exact hi⟩
 unfold uA at hp
 rw [List.getElem?_map] at hp
 by_cases hi:i<n
 ·rw [List.getElem?_range hi] at hp
  cases hp
  refine ⟨hi,fun x H3 ⟨e,hx⟩=>?_⟩
  subst e
  exact ⟨Same.refl _,[],by rw [hx];exact .mkI _,by simp⟩
 ·rw [List.getElem?_eq_none (by simpa using hi)] at hp
  cases hp
noncomputable def vT(f:FA):FA:=fun env=>(f env).bind fun ps=>match ps with | [.int j]=>if -(2 ^ 62)≤j/\j<2 ^ 62 then some (uA 0 j.toNat) else none | _=>none
theorem zbV{tg:Expr}{p:Pos}(lp:Bool)(hg:Gl X "range")(hm:X.mg "range"=none)(ha:VA X κ G c [a] fs)(hs:starEach [a] X.env=[(false,eval a X.env)]:=by rfl):VIt X κ G lp tg (.Call (.Name "range" p) [a] [] pos) (vT fs):=(zfW hg hm ha.1 hs).imp fun σ H R hq_=>by
 refine hq_.elim fun own env ps I hf k=>?_
 unfold vT at hf
 replace hf:=Option.bind_eq_some_iff.mp hf;obtain ⟨qs,hp,hf⟩:=hf
 refine (.in I hp fun vs H1 A s r _=>?_)
 split at hf
 ·split at hf
  ·rename_i j hj
   cases hf
   obtain ⟨v,r',A1,A2,h1,h2,h3,h4⟩:=r.inv
   exact ⟨j,by rw [h1,h4.inv0.1,h3.I.1],hj.1,hj.2,k _ H1 s (zjb 0 j.toNat)⟩
  ·cases hf
 ·cases hf
theorem yf{Bs:List Nat}{tg iter:Expr}{body:List Stmt}(hp:PassesOwn (model X.prog X.w) X.A X.env X.xe)(hc:X.calm=true)(hi:VIt X κ G true tg iter fs)(hg:VG X κ G Bs tg bnd)(hb:VSs X κ G body g)
  (hs:∀ x,foldedSetIterable iter X.env x=pure x:=by intro _;rfl):VS X κ G (.For tg iter body [] pos) (yt fs bnd g):=(zla hp hc hi hg hb hs).imp fun D σ H hq_=>by
 refine hq_.elim fun own env o I hf k=>?_
 unfold yt at hf
 replace hf:=Option.bind_eq_some_iff.mp hf;obtain ⟨ps,hp,hf⟩:=hf
 refine (.in I hp fun J H1 s hw=>?_)
 have k1:=k.ext (Ext.grow s)
 refine ⟨fun i m σ2 H2=>∃ own2 e2,VI X.K κ G own2 e2 σ2 H2/\Ext own H1 own2 H2/\i≤ps.length/\m=ps.length - i/\xw bnd g (ps.drop i) e2=some o,⟨ps.length,own,env,I.grow s,Ext.refl _ _,Nat.zero_le _,by simp,by simpa using hf⟩,?_⟩
 rintro i m σ2 H2 ⟨own2,e2,I2,x2,hi,rfl,h2⟩
 have W:=hw i H2 (by simpa using Stay.ext x2)
 by_cases hlt:i<ps.length
 ·have hpi:ps[i]?=some ps[i]:=List.getElem?_eq_getElem hlt
  obtain ⟨go,yl⟩:=W.1 _ hpi
  rw [List.drop_eq_getElem_cons hlt] at h2
  unfold xw at h2
  replace h2:=Option.bind_eq_some_iff.mp h2;obtain ⟨e3,hb1,h2⟩:=h2
  replace h2:=Option.bind_eq_some_iff.mp h2;obtain ⟨o1,ho,h2⟩:=h2
  refine .inr ⟨go,fun σ' H'=>∃ own',∃ e',VI X.K κ G own' e' σ' H'/\Ext own H1 own' H'/\xw bnd g (ps.drop (i+1)) e'=some o,?_,?_⟩
  ·rintro σ' H' ⟨own',e',I',x',h'⟩
   exact ⟨ps.length - (i+1),by omega,own',e',I',x',hlt,rfl,h'⟩
  ·intro x H3 hy
   obtain ⟨s3,A,r3,hA⟩:=yl x H3 hy
   have hA2:∀ a ∈ A,own2 a=none:=fun a ha=>let ⟨h1,o,h2⟩:=hA a ha;(x2 a o h1 h2).1
   refine ⟨own2,e2,ps[i],A,e3,I2.grow s3,r3,hA2,hb1,fun σ3 I3 _ _=>⟨own2,e3,o1,I3,ho,?_⟩⟩
   have x3:Ext own H1 own2 H3:=x2.trans (Ext.grow s3)
   cases o1 with
   | nx e4=>exact fun own4 σ4 H4 I4 x4=>⟨own4,e4,I4,x3.trans x4,h2⟩
   | ct e4=>exact fun own4 σ4 H4 I4 x4=>⟨own4,e4,I4,x3.trans x4,h2⟩
   | bk e4=>cases h2;exact k1.ext x3
   | rt p e4=>cases h2;exact k1.ext x3
 ·have e:i=ps.length:=by omega
  subst e
  rw [List.drop_length] at h2
  cases h2
  exact .inl ⟨W.2 (Nat.le_refl _),k1 own2 σ2 H2 I2 x2⟩
theorem qa(n:Nat){cc:Expr}{body:List Stmt}(hp:PassesOwn (model X.prog X.w) X.A X.env X.xe)(hc:VT X κ G cc t)(hb:VSs X κ G body g):VS X κ G (.While cc body [] pos) (fWh t g n):=(zhw hp hc hb).imp fun D σ H hq_=>by
 refine hq_.elim fun own env o I hf k=>?_
 refine ⟨fun m σ2 H2=>∃ own2 e2,VI X.K κ G own2 e2 σ2 H2/\Ext own H own2 H2/\fWh t g m e2=some o,⟨n,own,env,I,Ext.refl _ _,hf⟩,?_⟩
 rintro m σ2 H2 ⟨own2,e2,I2,x2,h2⟩
 cases m with
 | zero=>cases h2
 | succ m=>
  unfold fWh at h2
  replace h2:=Option.bind_eq_some_iff.mp h2;obtain ⟨b,ht,h2⟩:=h2
  refine ⟨own2,e2,b,I2,ht,fun H3 s3=>?_⟩
  have x3:Ext own H own2 H3:=x2.trans (Ext.grow s3)
  cases b with
  | false=>
   simp only [Bool.false_eq_true,if_false] at h2
   cases h2
   exact ite_ff (k own2 σ2 H3 (I2.grow s3) x3)
  | true=>
   simp only [if_true] at h2
   replace h2:=Option.bind_eq_some_iff.mp h2;obtain ⟨o1,ho,h2⟩:=h2
   refine ite_tt ⟨fun σ' H'=>∃ own',∃ e',VI X.K κ G own' e' σ' H'/\Ext own H own' H'/\fWh t g m e'=some o,fun σ' H' ⟨own',e',I',x',h'⟩=>⟨m,Nat.lt_succ_self m,own',e',I',x',h'⟩,own2,e2,o1,I2.grow s3,ho,?_⟩
   cases o1 with
   | nx e4=>exact fun own4 σ4 H4 I4 x4=>⟨own4,e4,I4,x3.trans x4,h2⟩
   | ct e4=>exact fun own4 σ4 H4 I4 x4=>⟨own4,e4,I4,x3.trans x4,h2⟩
   | bk e4=>cases h2;exact k.ext x3
   | rt p e4=>cases h2;exact k.ext x3
noncomputable def cE(n:Nat)(js:List Nat)(env:En):En:=List.replicate n none++js.map fun j=>(env[j]?).join
noncomputable def cK(n:Nat)(js:List Nat)(κ:Nat->Option Nat):Nat->Option Nat:=fun i=>if i<n then none else match js[i - n]? with | some j=>κ j | none=>none
noncomputable def yk(bnd:PV->En->Option En)(t:FT)(f:FE):List PV->En->Option (List PV)
 | [],_=>some []
 | p::ps,env=>(bnd p env).bind fun e=>(t e).bind fun b=>if b=true then (f e).bind fun q=>(yk bnd t f ps env).map fun r=>q::r else yk bnd t f ps env
noncomputable def fLC(src:FA)(n:Nat)(js:List Nat)(bnd:PV->En->Option En)(t:FT)(f:FE):FE:=fun env=>(src env).bind fun ps=>if ps.length≤100000 then (yk bnd t f ps (cE n js env)).map .lst else none
theorem VI.block {K : PySem.W.Frag} {own : Addr → Option Nat} {env : En} {σ : St} {H : Hp} {ow : List Str} {js : List Nat} (I : VI K κ G own env σ H) : VI K (cK ow.length js κ) G own (cE ow.length js env) (cS ow js σ) H := by
  refine ⟨by simp [cE, cS], fun i p e => ?_, I.own, I.same⟩
  unfold cE at e
  unfold cS cK
  by_cases hi : i < ow.length
  · rw [List.getElem?_append_left (by simpa using hi), List.getElem?_replicate, if_pos hi] at e
    cases e
  · have hi' : ow.length ≤ i := Nat.le_of_not_lt hi
    rw [List.getElem?_append_right (by simpa using hi'), List.getElem?_map, List.length_replicate] at e
    rw [List.getElem?_append_right (by simpa using hi'), List.getElem?_map, List.length_map, if_neg hi]
    cases q : js[i - ow.length]? with
    | none => rw [q] at e; cases e
    | some j =>
      rw [q] at e
      have e' : (env[j]?).join = some p := Option.some.inj e
      have e2 : env[j]? = some (some p) := by
        cases z : env[j]? with
        | none => rw [z] at e'; cases e'
        | some w => rw [z] at e'; have : w = some p := by simpa using e'
                    rw [this]
      obtain ⟨v, A, h1, h2, h3⟩ := I.slot j p e2
      exact ⟨v, A, by simp [h1], h2, h3⟩
theorem VI.again{K:PySem.W.Frag}{own:Addr->Option Nat}{env:En}{σ σ':St}{H:Hp}{n:Nat}{js:List Nat}{Bs:List Nat}(I:VI K (cK n js κ) G own (cE n js env) σ H)(hB:∀ i ∈ Bs,i<n)(hs:∀ i,i ∉ Bs->σ'[i]?=σ[i]?)(hl:σ'.length=σ.length):VI K (cK n js κ) G own (cE n js env) σ' H:=by
 refine ⟨I.len.trans hl.symm,fun i p e=>?_,I.own,I.same⟩
 have hi:¬ i<n:=fun hi=>by
  unfold cE at e
  rw [List.getElem?_append_left (by simpa using hi),List.getElem?_replicate,if_pos hi] at e
  cases e
 obtain ⟨v,A,h1,h2⟩:=I.slot i p e
 exact ⟨v,A,(hs i fun z=>hi (hB i z)).trans h1,h2⟩
noncomputable def VTs(X:Cx)(κ:Nat->Option Nat)(G:Hp)(ifs:List Expr)(t:FT):Prop:=PTs X ifs (tVT X.K κ G t)
noncomputable def wo:FT:=fun _=>some true
theorem yi:VTs X κ G [] wo:=fun pins s σ H Q I ⟨own,env,b,I',e,k⟩=>by
 cases e
 exact zjy pins s σ H Q I (k H (Same.refl _))
theorem wL(h:VT X κ G e t):VTs X κ G [e] t:=zjx h
noncomputable def qB(own:Addr->Option Nat)(D:Addr):Addr->Option Nat:=fun a=>if a=D then some 1000000 else own a
theorem zaq{own:Addr->Option Nat}{D a:Addr}(h:qB own D a=none):a≠D/\own a=none:=by
 unfold qB at h
 split at h
 ·cases h
 ·rename_i n;exact ⟨n,h⟩
theorem zar{own:Addr->Option Nat}{D a:Addr}(h:a≠D):qB own D a=own a:=if_neg h
theorem VI.mark{K:PySem.W.Frag}{own:Addr->Option Nat}{env:En}{σ:St}{H1 H2:Hp}{D:Addr}{ys:List V}(I:VI K κ G own env σ H1)(hD:H1 D=none)(s:Same H1 H2)(hy:H2 D=some (.lst ys)):VI K κ G (qB own D) env σ H2:=by
 have J:=I.grow s
 refine ⟨I.len,fun i p e=>?_,fun a l e=>?_,J.same⟩
 ·obtain ⟨v,A,h1,h2,h3,h4⟩:=I.slot i p e
  have ne:∀ a ∈ A,a≠D:=fun a ha z=>by
   obtain ⟨o,ho⟩:=h2.alloc ha
   rw [z,hD] at ho;cases ho
  exact ⟨v,A,h1,Rp.same s p h2,fun hk a ha=>(zar (ne a ha)).trans (h3 hk a ha),fun l hk=>⟨(h4 l hk).1,fun a ha=>(zar (ne a ha)).trans ((h4 l hk).2 a ha)⟩⟩
 ·unfold qB at e
  split at e
  ·rename_i z
   rw [z]
   exact ⟨I.same.free hD,.inl ⟨ys,hy⟩⟩
  ·exact J.own a l e
section
variable {ow:List Str} {js Bs:List Nat} {tg elt iter:Expr} {ifs:List Expr} {scope:Scope}
theorem zcU{K:PySem.W.Frag}{cc:Cat}(hcc:cc=.mv []∨cc=.sh)(hB:∀ i ∈ Bs,i<ow.length)(σ:St)(H:Hp)(Q:VK)
  (hq:tV K κ G cc (fLC fs ow.length js bnd t f) σ H Q):
  zgX (tVI K κ G false fs) ow js (fun _ _ _ _=>tVG K (cK ow.length js κ) G Bs bnd) (fun _ _ _ _=>tVT K (cK ow.length js κ) G t) (fun _ _ _ _=>tV K (cK ow.length js κ) G cc f) σ H Q:=by
 refine Classical.byContradiction fun hno=>?_
 obtain ⟨own,env,z,I,e,k⟩:=hq
 unfold fLC at e
 replace e:=Option.bind_eq_some_iff.mp e;obtain ⟨ps,hp,e⟩:=e
 split at e
 case isFalse=>cases e
 rename_i hlen
 cases hr:yk bnd t f ps (cE ow.length js env) with
 | none=>rw [hr] at e;cases e
 | some rs=>
  rw [hr] at e;cases e
  refine hno (.in I hp fun J H1 s1 hw C s₀ H₀ fp D hD=>?_)
  clear hno
  have I1:VI K (cK ow.length js κ) G own (cE ow.length js env) (cS ow js σ) H1:=(I.grow s1).block
  have sD:Same H1 (upd H1 D (.lst [])):=ya (Same.refl _) hD
  refine ⟨fun i m σ1 H2=>∃ ys qs B r2,VI K (cK ow.length js κ) G own (cE ow.length js env) σ1 H1/\Same H1 H2/\H2 D=some (.lst ys)/\Rps K H2 qs ys B/\cc.ok H1 own B/\D ∉ B/\i≤ps.length/\ys.length≤i/\m=ps.length - i/\yk bnd t f (ps.drop i) (cE ow.length js env)=some r2/\rs=qs++r2,
   ⟨ps.length,[],[],[],rs,I1,sD,zd,.nil,Cat.nil _ _ _,by simp,Nat.zero_le _,Nat.le_refl _,by simp,by simpa using hr,rfl⟩,?_⟩
  intro i m σ1 H2 hI
  refine Classical.byContradiction fun hno=>?_
  obtain ⟨ys,qs,B,r2,I2,s2,hy,ry,cB,nB,hi,hyl,rfl,h2,hrs⟩:=hI
  have Wk:=hw i H2 (by simpa using s2)
  by_cases hlt:i<ps.length
  ·have hpi:ps[i]?=some ps[i]:=List.getElem?_eq_getElem hlt
   obtain ⟨go,yl⟩:=Wk.1 _ hpi
   refine hno (.inr ⟨go,fun x H3 hyl'=>?_⟩)
   clear hno
   refine Classical.byContradiction fun hno=>?_
   obtain ⟨s3,A,r3,hA⟩:=yl x H3 hyl'
   rw [List.drop_eq_getElem_cons hlt] at h2
   unfold yk at h2
   replace h2:=Option.bind_eq_some_iff.mp h2;obtain ⟨e3,hb1,h2⟩:=h2
   replace h2:=Option.bind_eq_some_iff.mp h2;obtain ⟨bb,ht,h2⟩:=h2
   have neA:∀ a ∈ A,a≠D:=fun a ha z=>by
    obtain ⟨_,o,ho⟩:=hA a ha
    rw [z,hD] at ho;cases ho
   refine hno ⟨qB own D,_,ps[i],A,e3,I2.mark hD (s2.trans s3) (s3 _ _ hy),r3,fun a ha=>(zar (neA a ha)).trans (hA a ha).1,hb1,fun σ3 I3 q3 l3=>?_⟩
   have I3':=I2.again hB q3 l3
   refine ⟨qB own D,e3,bb,I3,ht,fun H5 s5=>?_⟩
   have s25:Same H2 H5:=s3.trans s5
   have hy5:=s25 _ _ hy
   cases bb with
   | false=>
    simp only [Bool.false_eq_true,if_false] at h2
    refine ite_ff ⟨ps.length - (i+1),by omega,ys,qs,B,r2,I3',s2.trans s25,hy5,Rps.same s25 qs ry,cB,nB,hlt,by omega,rfl,h2,hrs⟩
   | true=>
    simp only [if_true] at h2
    replace h2:=Option.bind_eq_some_iff.mp h2;obtain ⟨q,hf,h2⟩:=h2
    cases hr2:yk bnd t f (ps.drop (i+1)) (cE ow.length js env) with
    | none=>rw [hr2] at h2;cases h2
    | some r4=>
     rw [hr2] at h2;cases h2
     refine ite_tt ⟨qB own D,e3,q,I3.grow s5,hf,fun y H6 C6 s6 r6 c6=>?_⟩
     have s26:Same H2 H6:=s25.trans s6
     have hy6:=s26 _ _ hy
     have nC:D ∉ C6:=fun z=>by
      rcases hcc with rfl | rfl
      ·rcases c6.2 D z with w | ⟨_,w,_⟩
       ·rw [hy5] at w;cases w
       ·cases w
      ·exact (zaq (c6 D z)).1 rfl
     refine ⟨ys,hy6,by rw [sizeLine_eq];omega,ps.length - (i+1),by omega,ys++[y],qs++[q],B++C6,r4,I3',ya (s2.trans s26) hD,zd,?_,?_,?_,hlt,by rw [List.length_append,List.length_singleton];omega,rfl,hr2,by rw [hrs,List.append_assoc];rfl⟩
     ·exact (Rps.upd (.inl ⟨ys,hy6⟩) qs nB (Rps.same s26 qs ry)).append (Rps.one (Rp.upd (.inl ⟨ys,hy6⟩) q nC r6))
     ·rcases hcc with rfl | rfl
      ·refine ⟨List.nodup_append.mpr ⟨cB.1,c6.1,fun x hx y' hy' hxy=>?_⟩,fun x hx=>?_⟩
       ·subst hxy
        rcases c6.2 x hy' with w | ⟨_,w,_⟩
        ·obtain ⟨o,ho⟩:=(Rps.mut qs (Rps.same s25 qs ry) x hx).some
         rw [ho] at w;cases w
        ·cases w
       ·rcases List.mem_append.mp hx with hx | hx
        ·exact cB.2 x hx
        ·exact (c6.2 x hx).elim (fun w=>.inl ((s2.trans s25).free w)) fun ⟨_,w,_⟩=>nomatch w
      ·intro x hx
       rcases List.mem_append.mp hx with hx | hx
       ·exact cB x hx
       ·exact (zaq (c6 x hx)).2
     ·exact fun z=>(List.mem_append.mp z).elim nB nC
  ·have ei:i=ps.length:=by omega
   subst ei
   rw [List.drop_length] at h2
   cases h2
   refine hno (.inl ⟨Wk.2 (Nat.le_refl _),?_⟩)
   rw [List.append_nil] at hrs
   subst hrs
   refine k (.ref D) H2 (D::B) (s1.trans s2) (.mkL hy ry) ?_
   have hDH:H D=none:=s1.free hD
   rcases hcc with rfl | rfl
   ·refine ⟨List.nodup_cons.mpr ⟨nB,cB.1⟩,fun a ha=>?_⟩
    rcases List.mem_cons.mp ha with rfl | ha
    ·exact .inl hDH
    ·exact (cB.2 a ha).elim (fun w=>.inl (s1.free w)) .inr
   ·intro a ha
    rcases List.mem_cons.mp ha with rfl | ha
    ·exact kT (A:=[a]) I (fun b hb=>by rw [List.mem_singleton.mp hb];exact hDH) a (List.mem_singleton.mpr rfl)
    ·exact cB a ha
variable {wi:TI}
theorem wB(cc:Cat)(hcc:cc=.mv []∨cc=.sh)(hB:∀ i ∈ Bs,i<ow.length)(hc:X.calm=true)(hi:VIt X κ G false tg iter fs)(hg:∀ C s₀ H₀ fp,VG (xK X ow js scope C s₀ H₀ fp) (cK ow.length js κ) G Bs tg bnd)
  (ht:∀ C s₀ H₀ fp,VTs (xK X ow js scope C s₀ H₀ fp) (cK ow.length js κ) G ifs t)(he:∀ C s₀ H₀ fp,VE (xK X ow js scope C s₀ H₀ fp) (cK ow.length js κ) G cc elt f)
  (ok:zbI js scope X.env.kindOf X.N=true:=by first | rfl | decide +kernel)(hs:∀ x,foldedSetIterable iter X.env x=pure x:=by intro _;rfl):
  VE X κ G cc (.ListComp elt [⟨tg,iter,ifs,0⟩] scope pos) (fLC fs ow.length js bnd t f):=
 (zmA (own:=ow) (js:=js) hc hi hg ht he ok hs).imp fun σ H Q h=>zcU hcc hB σ H Q h
theorem kK{i:Nat}{y:Str}{py spos:Pos}(cc:Cat)(hN:X.N.Nodup)(hi':X.N[i]?=some y)(hx:Loc X.env.scope y)(hcc:cc=.mv []∨cc=.sh)(hB:∀ i ∈ Bs,i<ow.length)(hc:X.calm=true)(hi:VIt X κ G false tg iter fs)(hg:∀ C s₀ H₀ fp,VG (xK X ow js scope C s₀ H₀ fp) (cK ow.length js κ) G Bs tg bnd)
  (ht:∀ C s₀ H₀ fp,VTs (xK X ow js scope C s₀ H₀ fp) (cK ow.length js κ) G ifs t)(he:∀ C s₀ H₀ fp,VE (xK X ow js scope C s₀ H₀ fp) (cK ow.length js κ) G cc elt f)
  (ok:zbI js scope X.env.kindOf X.N=true:=by first | rfl | decide +kernel)(hs:∀ x,foldedSetIterable iter X.env x=pure x:=by intro _;rfl)
  (hsw:swapsWith (.ListComp elt [⟨tg,iter,ifs,0⟩] scope pos) (some (.Name y py)) spos.line X.env=pure true:=by rfl)(hf:X.fn y=true∨X.env.scope.names.lookup y=some .local:=by first | exact .inl rfl | exact .inr rfl | assumption):
  PS X (.Assign [.Name y py] (.ListComp elt [⟨tg,iter,ifs,0⟩] scope pos) spos) (qj (tV X.K κ G cc (fLC fs ow.length js bnd t f)) (jb i)):=
 (zjA (own:=ow) (js:=js) hN hi' hx hc hi hg ht he ok hs hsw hf).imp fun D σ H h=>zcU hcc hB σ H _ h
end
theorem jm{tg:TG}(h:PS X st (qj (tV X.K κ G (.mv []) f) tg)):PS X st (qj (tV X.K κ G .sh f) tg):=h.imp fun D σ H hq_=>by
 refine hq_.elim fun own env p I hf k=>?_
 exact (.in I hf fun v H' A s r hc=>k v H' A s r (kT I fun a ha=>(hc.2 a ha).elim id fun ⟨_,hl,_⟩=>nomatch hl))
noncomputable def spV(K:PySem.W.Frag)(n:Nat)(Φ:List PV->Option PV):Sp:=fun vs H Q _=>∃ ps A z,Rps K H ps vs A/\ps.length=n/\Φ ps=some z/\∀ v H' C,Same H H'->Rp K H' z v C->C.Nodup->(∀ a ∈ C,H a=none)->Q v H'
theorem zP{x:Str}{k n:Nat}{ps:List Str}{Φ:List PV->Option PV}{p:Pos}(hF:Fn X.prog X.w X.K X.mg X.base x k ps (spV X.K n Φ))(hr:Room k X.A)(hg:Gl X x)(ha:VA X κ G c (e::es) fs)(hl:(e::es).length=n:=by rfl)
  (hdb:(x == ("__debug__":Str))=false:=by decide)(he:starEach (e::es) X.env=(false,eval e X.env)::starEach es X.env:=by rfl)(hpl:(backTo pos (starEach es X.env)).any (·.1)=false:=by rfl):
  VE X κ G (.mv []) (.Call (.Name x p) (e::es) [] pos) (zJ Φ fs):=(zkC hF hr hg ha.1 hdb he hpl).imp fun σ H Q hq_=>by
 refine hq_.elim fun own env z I hf k=>?_
 unfold zJ at hf
 replace hf:=Option.bind_eq_some_iff.mp hf;obtain ⟨qs,hp,hf⟩:=hf
 refine (.in I hp fun vs H1 A s1 r1 _=>⟨qs,A,z,by rw [List.append_nil];exact r1,(ha.2 env qs hp).trans hl,hf,fun v H' C s2 r2 nd fr=>k v H' C (s1.trans s2) r2 ⟨nd,fun a ha=>.inl (s1.free (fr a ha))⟩⟩)
noncomputable def fnV(m:Nat)(g:FS):List PV->Option PV:=fun ps=>(g (ps.map some++List.replicate (m - ps.length) none)).bind fun o=>match o with | .rt p _=>some p | .nx _=>some .non | _=>none
theorem VI.start{K:PySem.W.Frag}{H:Hp}{N:List Str}{ps:List PV}{vs:List V}{A:List Addr}(hk:∀ i,i<ps.length->κ i=none)(r:Rps K H ps vs A):VI K κ H (fun _=>none) (ps.map some++List.replicate (N.length - ps.length) none) (L2.start N vs) H:=by
 have hl:=r.length
 refine ⟨by simp [L2.start,hl],fun i p e=>?_,(fun _ _ z=>nomatch z),Same.refl _⟩
 by_cases hi:i<ps.length
 ·rw [List.getElem?_append_left (by simpa using hi),List.getElem?_map] at e
  cases q:ps[i]? with
  | none=>rw [q] at e;cases e
  | some p'=>
   rw [q] at e
   have:p'=p:=by simpa using e
   subst this
   obtain ⟨v,C,h1,h2,h3⟩:=r.get q
   refine ⟨v,C,?_,h2,fun _ _ _=>rfl,fun l z=>?_⟩
   ·unfold L2.start
    rw [List.getElem?_append_left (by rw [List.length_map,← hl];exact hi),List.getElem?_map,h1];rfl
   ·rw [hk i hi] at z;cases z
 ·rw [List.getElem?_append_right (by simpa using hi),List.getElem?_replicate] at e
  split at e<;>cases e
theorem xm{P:Program}{w:World}{K:PySem.W.Frag}{mg:Str->Option Value}{base:Heap}{x qual:Str}{st:Stmt}{f:Addr}{fd:FuncData}{N ps:List Str}{k n m:Nat}(O:List Nat)(hn:ps.length=n)(hm:N.length=m)(hO:∀ i ∈ O,n≤i)(hF:Fun K x qual st f fd)(S:FnScope N ps (zS st))
  (body:∀ (cdv:Value) (A:Around) (outer:List PySem.Env) (s:Shared) (H:Hp) (E:XK),Room k (A.deeper (envOfC qual (zS st) s.heap.objs.size f cdv))->VSs (zdH CX0 P w K mg base N qual (zS st) f cdv A outer s H E).nox (ko O) H (wf st) g):
  FnOk P w K mg base CX0 (k+1) f fd ps (spV K n (fnV m g)):=by
 subst hn hm
 refine hF.ok S (fun vs H Q E ⟨qs,A,z,r,hl,_⟩=>by rw [← r.length,hl]) fun cdv A outer s H vs Q E hr ⟨qs,B,z,r,hl,hΦ,k⟩=>⟨_,body cdv A outer s H E hr,?_⟩
 unfold fnV at hΦ
 replace hΦ:=Option.bind_eq_some_iff.mp hΦ;obtain ⟨o,ho,hΦ⟩:=hΦ
 refine ⟨fun _=>none,_,o,VI.start (N:=N) (fun i hi=>zau fun z=>absurd (hO i z) (by omega)) r,ho,?_⟩
 cases o with
 | rt p e=>cases hΦ;exact fun v H' C own' σ' I' r' nd fr=>k v H' C I'.same r' nd fun a ha=>(fr a ha).1
 | nx e=>cases hΦ;exact fun own' σ' H' I' _=>k .non H' [] I'.same .mkN .nil (by simp)
 | bk e=>cases hΦ
 | ct e=>cases hΦ
end
end F
namespace L2
open PySem PySem.Spec PyProof.Rows
noncomputable def zei(K:PySem.W.Frag):R2:=fun x y H Q=>∃ a b ys,x=.ref a/\y=.ref b/\SqT K H a []/\SqT K H b ys/\Q (.ref b) H
theorem ziP{prog:Program}{w:World}{A:Around}{E:Value->Shared->Prop}{s:Shared}{t b:Addr}{us:List Value}{Q:Value->Shared->Prop}(ht:IsTup s.heap t #[])(hb:IsTup s.heap b us.toArray)(k:Q (.ref b) s):wpAny (model prog w) A (binaryOp .Add (.ref t) (.ref b)) Q E s:=by
 obtain ⟨⟨c1,o1,a1,z1⟩,g1,hc1,n1,hd1⟩:=id ht
 obtain ⟨⟨c2,o2,a2,z2⟩,g2,hc2,n2,hd2⟩:=id hb
 simp only at hc1 hd1 hc2 hd2
 subst hc1 hd1 hc2 hd2
 exact concat_meets ⟨_,g1,rfl⟩ ⟨_,g2,rfl⟩ noFill_tuple_add seq_tuple_add PySem.F.slot_tuple_add PySem.F.entry_tuple_add (PySem.F.args_tuple_add_2 _ _) (tuple_addW0 t b #[] us.toArray n1 n2 o1 o2 z1 z2 rfl) ⟨g1,g2,k⟩
theorem op_catT0{X:Cx}:OpR X (binaryOp .Add) (zei X.K):=by
 intro pins s σ H x y v u Q I rx ry h
 obtain ⟨a,b,ys,rfl,rfl,ha,hb,q⟩:=h
 cases rx
 cases ry
 obtain ⟨its,r1,p1,_⟩:=I.tuple ha
 obtain ⟨its2,r2,p2,_⟩:=I.tuple hb
 have:=r1.nil_iff.mpr rfl
 subst this
 exact ziP p1 p2 ⟨.ref b,H,I,rfl,q⟩
end L2
namespace F
open PySem PySem.Spec PyProof.Rows L2
noncomputable def yX:PV->PV->Option PV
 | .int i,.int j=>some (.int (i+j))
 | .str x,.str y=>if x.length+y.length≤100000 then some (.str (x++y)) else none
 | .tup xs,.tup ys=>if (isDatas xs && isDatas ys && decide (xs.length+ys.length≤100000))=true then some (.tup (xs++ys)) else none
 | .lst xs,.lst ys=>if (isDatas xs && isDatas ys && decide (xs.length+ys.length≤100000))=true then some (.lst (xs++ys)) else none
 | _,_=>none
noncomputable def wT:PV->PV->Option PV
 | .int i,.int j=>some (.int (i - j))
 | _,_=>none
instance (a b:Int):Decidable (IntMulOk a b):=by unfold IntMulOk;infer_instance
noncomputable def wU:PV->PV->Option PV
 | .int i,.int j=>if IntMulOk i j then some (.int (i * j)) else none
 | .lst xs,.int k=>if (isDatas xs=true/\-(2 ^ 63)≤k/\k<2 ^ 63/\xs.length * k.toNat≤100000) then some (.lst (List.replicate k.toNat xs).flatten) else none
 | _,_=>none
noncomputable def y3:PV->PV->Option PV
 | .int i,.int j=>if 0<j/\j<1073741824 then some (.int (i / j)) else none
 | _,_=>none
noncomputable def yg:PV->PV->Option PV
 | .int i,.int j=>if 0<j then some (.int (i % j)) else none
 | _,_=>none
noncomputable def vLt:PV->PV->Option PV
 | .int i,.int j=>some (.bl (decide (i<j)))
 | _,_=>none
noncomputable def vLe:PV->PV->Option PV
 | .int i,.int j=>some (.bl (decide (i≤j)))
 | _,_=>none
noncomputable def vGt:PV->PV->Option PV
 | .int i,.int j=>some (.bl (decide (j<i)))
 | _,_=>none
noncomputable def vGe:PV->PV->Option PV
 | .int i,.int j=>some (.bl (decide (j≤i)))
 | _,_=>none
noncomputable def kC:PV->Option PV
 | .int i=>some (.int (-i))
 | _=>none
mutual
noncomputable def wE:PV->PyData
 | .non=>.none
 | .bl b=>.bool b
 | .int i=>.int i
 | .str x=>.str x
 | .ty _=>.none
 | .any=>.none
 | .pen _ _=>.none
 | .adr _=>.none
 | .tup xs=>.tuple (toPys xs)
 | .lst xs=>.list (toPys xs)
 | .fls xs=>.list (toPys xs)
 | .dct _ _=>.none
noncomputable def toPys:List PV->List PyData
 | []=>[]
 | x::r=>wE x::toPys r
end
mutual
noncomputable def uy:PV->Bool
 | .ty _=>false
 | .any=>false
 | .pen _ _=>false
 | .adr _=>false
 | .dct _ _=>false
 | .tup xs=>okPys xs
 | .lst xs=>okPys xs
 | .fls xs=>okPys xs
 | _=>true
noncomputable def okPys:List PV->Bool
 | []=>true
 | x::r=>uy x && okPys r
end
noncomputable def jy(p:PV):Bool:=uy p && (wE p).canLay0 && decide ((wE p).depth≤64)
noncomputable def eqP(p q:PV):Bool:=PyData.eqv (wE p) (wE q)
noncomputable def vEq(p q:PV):Option PV:=if (jy p && jy q)=true then some (.bl (eqP p q)) else none
noncomputable def vNe(p q:PV):Option PV:=if (jy p && jy q)=true then some (.bl (!eqP p q)) else none
section
variable {K:PySem.W.Frag} {H:Hp}
mutual
theorem Rp.rep:∀ (p:PV) {v:V} {A:List Addr},uy p=true->Rp K H p v A->Rep K H v (wE p)
 | .non,_,_,_,h=>by rw [h.N.1];unfold wE;exact .non
 | .bl b,_,_,_,h=>by rw [h.B.1];unfold wE;exact .bl b
 | .int i,_,_,_,h=>by rw [h.I.1];unfold wE;exact .int i
 | .str x,_,_,_,h=>by rw [h.S.1];unfold wE;exact .str x
 | .ty _,_,_,d,_=>by simp [uy] at d
 | .any,_,_,d,_=>by simp [uy] at d
 | .pen _ _,_,_,d,_=>by simp [uy] at d
 | .adr _,_,_,d,_=>by simp [uy] at d
 | .dct _ _,_,_,d,_=>by simp [uy] at d
 | .tup ps,_,_,d,h=>by
  unfold uy at d
  obtain ⟨a,xs,rfl,h2,h3⟩:=h.T
  unfold wE
  exact .tuple h2 (Rps.rep ps d h3)
 | .lst ps,_,_,d,h=>by
  unfold uy at d
  obtain ⟨a,xs,B,rfl,h2,rfl,h3⟩:=h.L
  unfold wE
  exact .list (SqL.of h2) (Rps.rep ps d h3)
 | .fls ps,_,_,d,h=>by
  unfold uy at d
  obtain ⟨a,xs,rfl,h2,h3⟩:=h.Fl
  unfold wE
  exact .list h2.seq (Rps.rep ps d h3)
theorem Rps.rep:∀ (ps:List PV) {vs:List V} {A:List Addr},okPys ps=true->Rps K H ps vs A->Reps K H vs (toPys ps)
 | [],_,_,_,h=>by rw [h.inv0.1];unfold toPys;exact .nil
 | p::ps,_,_,d,h=>by
  unfold okPys at d
  rw [Bool.and_eq_true] at d
  obtain ⟨v,r,A1,A2,rfl,h2,h3,h4⟩:=h.inv
  unfold toPys
  exact .cons (Rp.rep p d.1 h3) (Rps.rep ps d.2 h4)
end
end
noncomputable def vJ:PV->Bool
 | .non=>true
 | .bl _=>true
 | .int _=>true
 | .str _=>true
 | _=>false
noncomputable def eqS:PV->PV->Bool
 | .non,.non=>true
 | .bl a,.bl b=>a == b
 | .bl a,.int b=>(if a then 1 else 0) == b
 | .int a,.bl b=>a == (if b then 1 else 0)
 | .int a,.int b=>a == b
 | .str a,.str b=>a == b
 | _,_=>false
noncomputable def inP(p:PV)(xs:List PV):Bool:=xs.any fun y=>eqS y p
noncomputable def kS(ks:List Key)(k:Key):Bool:=ks.any fun x=>decide (x=k)
theorem zio(ks:List Key)(k:Key):kS ks k=true ↔ k ∈ ks:=by
 unfold kS
 rw [List.any_eq_true]
 constructor
 ·rintro ⟨x,hx,e⟩
  rw [← of_decide_eq_true e];exact hx
 ·intro h;exact ⟨k,h,by simp⟩
noncomputable def vIn(p:PV):PV->Option Bool
 | .lst xs=>if (vJ p && xs.all vJ)=true then some (inP p xs) else none
 | .fls xs=>if (vJ p && xs.all vJ)=true then some (inP p xs) else none
 | .tup xs=>if (vJ p && xs.all vJ)=true then some (inP p xs) else none
 | .dct ks _=>match p with | .non=>some false | .int i=>some (kS ks (.inl i)) | .str x=>some (kS ks (.inr x)) | _=>none
 | _=>none
noncomputable def vV(p q:PV):Option PV:=(vIn p q).map .bl
noncomputable def xv(p q:PV):Option PV:=(vIn p q).map fun b=>.bl (!b)
noncomputable def zkD:PV->Bool
 | .non=>true
 | _=>false
noncomputable def zgP(p:PV):PV->Option PV
 | .non=>match p with | .any=>none | p=>some (.bl (zkD p))
 | _=>none
noncomputable def zeS(p:PV):PV->Option PV
 | .non=>match p with | .any=>none | p=>some (.bl (!zkD p))
 | _=>none
section
variable {X:Cx} {K:PySem.W.Frag}
theorem OpV.int{r:R2}{g:PV->PV->Option PV}(h:∀ p q z,g p q=some z->∃ i j,p=.int i/\q=.int j/\∃ w,(∀ K H,Rp K H z w [])/\∀ H Q,Q w H->r (.int i) (.int j) H Q):OpV K r g:=by
 intro H p q x y A B z Q r1 r2 e k
 obtain ⟨i,j,rfl,rfl,w,hw,hr⟩:=h p q z e
 rw [r1.I.1,r2.I.1]
 exact hr H Q (k w H [] (Same.refl _) (hw _ _) .nil (by simp))
theorem xI:OpV K (rI0 fun i j=>.int (i - j)) wT:=OpV.int fun p q z e=>by
 unfold wT at e
 split at e
 case h_2=>cases e
 cases e
 exact ⟨_,_,rfl,rfl,_,fun _ _=>.mkI _,fun H Q h=>⟨_,_,rfl,rfl,h⟩⟩
theorem xc:OpV K (rI znp fun i j=>.int (i / j)) y3:=OpV.int fun p q z e=>by
 unfold y3 at e
 split at e
 case h_2=>cases e
 split at e
 ·rename_i hc;cases e
  exact ⟨_,_,rfl,rfl,_,fun _ _=>.mkI _,fun H Q h=>⟨_,_,rfl,rfl,hc,h⟩⟩
 ·cases e
theorem yU:OpV K (rI (fun _ j=>0<j) fun i j=>.int (i % j)) yg:=OpV.int fun p q z e=>by
 unfold yg at e
 split at e
 case h_2=>cases e
 split at e
 ·rename_i hc;cases e
  exact ⟨_,_,rfl,rfl,_,fun _ _=>.mkI _,fun H Q h=>⟨_,_,rfl,rfl,hc,h⟩⟩
 ·cases e
theorem zhK:OpV K (rI0 fun i j=>.bl (decide (i<j))) vLt:=OpV.int fun p q z e=>by
 unfold vLt at e
 split at e
 case h_2=>cases e
 cases e
 exact ⟨_,_,rfl,rfl,_,fun _ _=>.mkB _,fun H Q h=>⟨_,_,rfl,rfl,h⟩⟩
theorem jX:OpV K (rI0 fun i j=>.bl (decide (j<i))) vGt:=OpV.int fun p q z e=>by
 unfold vGt at e
 split at e
 case h_2=>cases e
 cases e
 exact ⟨_,_,rfl,rfl,_,fun _ _=>.mkB _,fun H Q h=>⟨_,_,rfl,rfl,h⟩⟩
theorem jg:UnV K (rU fun i=>.int (-i)) kC:=by
 intro H p x A z Q r e k
 cases p<;>first | cases e | skip
 exact ⟨_,r.I.1,k _ H [] (Same.refl _) (.mkI _) .nil (by simp)⟩
theorem qQ{H:Hp}{ps:List PV}{xs:List V}{z:PV}{Q:VK}(hd:isDatas ps=true){A:List Addr}(r:Rps K H ps xs A)(k:∀ v H' C,Same H H'->Rp K H' (.lst ps) v C->C.Nodup->(∀ a ∈ C,H a=none)->Q v H'):∀ p,H p=none->Q (.ref p) (upd H p (.lst xs)):=fun p hp=>by
 have e:=Rps.data ps hd r
 subst e
 have s:Same H (upd H p (.lst xs)):=ya (Same.refl _) hp
 exact k _ _ [p] s (.mkL zd (Rps.same s ps r)) (by simp) (by simpa using hp)
theorem qP{H:Hp}{ps:List PV}{xs:List V}{z:PV}{Q:VK}(hd:isDatas ps=true){A:List Addr}(r:Rps K H ps xs A)(k:∀ v H' C,Same H H'->Rp K H' (.tup ps) v C->C.Nodup->(∀ a ∈ C,H a=none)->Q v H'):∀ p,H p=none->Q (.ref p) (upd H p (.tup xs)):=fun p hp=>by
 have e:=Rps.data ps hd r
 subst e
 have s:Same H (upd H p (.tup xs)):=ya (Same.refl _) hp
 exact k _ _ [] s (.mkT (SqT.of zd) (Rps.same s ps r)) (by simp) (by simp)
theorem zo:OpR X (binaryOp .Add) (fun x y H Q=>(rI0 fun i j=>.int (i+j)) x y H Q∨(zkV x y H Q∨(zhs X.K x y H Q∨(zei X.K x y H Q∨∃ i j,x=.str i/\y=.str j/\i.length+j.length≤sizeLine/\Q (.str (i++j)) H)))):=op_add.or (op_cat.or (op_catT.or (op_catT0.or zen)))
theorem zn:OpV K (fun x y H Q=>(rI0 fun i j=>.int (i+j)) x y H Q∨(zkV x y H Q∨(zhs K x y H Q∨(zei K x y H Q∨∃ i j,x=.str i/\y=.str j/\i.length+j.length≤sizeLine/\Q (.str (i++j)) H)))) yX:=by
 intro H p q x y A B z Q r1 r2 e k
 unfold yX at e
 split at e
 case h_5=>cases e
 ·cases e
  exact .inl ⟨_,_,r1.I.1,r2.I.1,k _ H [] (Same.refl _) (.mkI _) .nil (by simp)⟩
 ·split at e
  ·rename_i hc;cases e
   exact .inr (.inr (.inr (.inr ⟨_,_,r1.S.1,r2.S.1,by rw [sizeLine_eq];omega,k _ H [] (Same.refl _) (.mkS _) .nil (by simp)⟩)))
  ·cases e
 ·split at e
  ·rename_i hc;cases e
   simp only [Bool.and_eq_true,decide_eq_true_eq] at hc
   obtain ⟨⟨d1,d2⟩,hl⟩:=hc
   obtain ⟨a,xs,e1,h1,g1⟩:=r1.T
   obtain ⟨b,ys,e2,h2,g2⟩:=r2.T
   have l1:=g1.length
   have l2:=g2.length
   by_cases hx0:xs=[]
   ·subst hx0
    rename_i ps qs
    have:ps=[]:=by cases ps with | nil=>rfl | cons _ _=>simp at l1
    subst this
    rw [List.nil_append] at k
    have e:=Rps.data qs d2 g2
    subst e
    exact .inr (.inr (.inr (.inl ⟨a,b,ys,e1,e2,h1,h2,k _ H [] (Same.refl _) (.mkT h2 g2) .nil (by simp)⟩)))
   refine .inr (.inr (.inl ⟨a,b,xs,ys,e1,e2,h1,h2,hx0,by rw [sizeLine_eq];omega,fun z=>?_,fun _=>?_⟩))
   ·subst z
    rename_i ps qs
    have:qs=[]:=by cases qs with | nil=>rfl | cons _ _=>simp at l2
    subst this
    rw [List.append_nil] at k
    have e:=Rps.data ps d1 g1
    subst e
    exact k _ H [] (Same.refl _) (.mkT h1 g1) .nil (by simp)
   ·exact qP (by rw [wD,d1,d2];rfl) (g1.append g2) k (z:=.non)
  ·cases e
 ·split at e
  ·rename_i hc;cases e
   simp only [Bool.and_eq_true,decide_eq_true_eq] at hc
   obtain ⟨⟨d1,d2⟩,hl⟩:=hc
   obtain ⟨a,xs,B1,e1,h1,_,g1⟩:=r1.L
   obtain ⟨b,ys,B2,e2,h2,_,g2⟩:=r2.L
   have l1:=g1.length
   have l2:=g2.length
   exact .inr (.inl ⟨a,b,xs,ys,e1,e2,h1,h2,by rw [sizeLine_eq];omega,qQ (by rw [wD,d1,d2];rfl) (g1.append g2) k (z:=.non)⟩)
  ·cases e
theorem xk:OpR X (binaryOp .Mult) (fun x y H Q=>(rI IntMulOk fun i j=>.int (i * j)) x y H Q∨zkT x y H Q):=op_mulB.or zln
theorem Rps.rep_{H:Hp}{ps:List PV}{xs:List V}(r:Rps K H ps xs []):∀ k:Nat,Rps K H (List.replicate k ps).flatten (List.replicate k xs).flatten []
 | 0=>.nil
 | k+1=>by
  rw [List.replicate_succ,List.replicate_succ,List.flatten_cons,List.flatten_cons]
  exact r.append (Rps.rep_ r k)
theorem qD{ps:List PV}(h:isDatas ps=true):∀ k:Nat,isDatas (List.replicate k ps).flatten=true
 | 0=>rfl
 | k+1=>by rw [List.replicate_succ,List.flatten_cons,wD,h,qD h k];rfl
theorem xj:OpV K (fun x y H Q=>(rI IntMulOk fun i j=>.int (i * j)) x y H Q∨zkT x y H Q) wU:=by
 intro H p q x y A B z Q r1 r2 e k
 unfold wU at e
 split at e
 case h_3=>cases e
 ·split at e
  ·rename_i hc;cases e
   exact .inl ⟨_,_,r1.I.1,r2.I.1,hc,k _ H [] (Same.refl _) (.mkI _) .nil (by simp)⟩
  ·cases e
 ·split at e
  ·rename_i hc;cases e
   obtain ⟨d,h1,h2,h3⟩:=hc
   obtain ⟨a,xs,B1,e1,g0,_,g1⟩:=r1.L
   have e:=Rps.data _ d g1
   subst e
   have l1:=g1.length
   exact .inr ⟨a,_,xs,e1,r2.I.1,g0,h1,h2,by rw [sizeLine_eq,← l1];omega,qQ (qD d _) (Rps.rep_ g1 _) k (z:=.non)⟩
  ·cases e
theorem jY:OpV K (fun x y H Q=>∃ d e,Rep K H x d/\Rep K H y e/\d.canLay0=true/\e.canLay0=true/\d.depth≤64/\Q (.bl (PyData.eqv d e)) H) vEq:=by
 intro H p q x y A B z Q r1 r2 e k
 unfold vEq at e
 split at e
 ·rename_i hc;cases e
  unfold jy at hc
  simp only [Bool.and_eq_true,decide_eq_true_eq] at hc
  obtain ⟨⟨⟨a1,a2⟩,a3⟩,⟨b1,b2⟩,b3⟩:=hc
  exact ⟨_,_,Rp.rep p a1 r1,Rp.rep q b1 r2,a2,b2,a3,k _ H [] (Same.refl _) (.mkB _) .nil (by simp)⟩
 ·cases e
theorem zde:OpV K (fun x y H Q=>∃ d e,Rep K H x d/\Rep K H y e/\d.canLay0=true/\e.canLay0=true/\d.depth≤64/\Q (.bl (!PyData.eqv d e)) H) vNe:=by
 intro H p q x y A B z Q r1 r2 e k
 unfold vNe at e
 split at e
 ·rename_i hc;cases e
  unfold jy at hc
  simp only [Bool.and_eq_true,decide_eq_true_eq] at hc
  obtain ⟨⟨⟨a1,a2⟩,a3⟩,⟨b1,b2⟩,b3⟩:=hc
  exact ⟨_,_,Rp.rep p a1 r1,Rp.rep q b1 r2,a2,b2,a3,k _ H [] (Same.refl _) (.mkB _) .nil (by simp)⟩
 ·cases e
theorem qU{H:Hp}{p:PV}{v:V}{A:List Addr}(h:vJ p=true)(r:Rp K H p v A):uh v=true:=by
 cases p<;>first | (simp [vJ] at h;done) | skip
 ·rw [r.N.1];rfl
 ·rw [r.B.1];rfl
 ·rw [r.I.1];rfl
 ·rw [r.S.1];rfl
theorem zmW{H:Hp}{p q:PV}{v w:V}{A B:List Addr}(h:vJ p=true)(h':vJ q=true)(r:Rp K H p v A)(r':Rp K H q w B):eqV v w=eqS p q:=by
 cases p<;>cases q<;>first | (simp [vJ] at h;done) | (simp [vJ] at h';done) | skip
 all_goals first
  | rw [r.N.1,r'.N.1];rfl
  | rw [r.N.1,r'.B.1];rfl
  | rw [r.N.1,r'.I.1];rfl
  | rw [r.N.1,r'.S.1];rfl
  | rw [r.B.1,r'.N.1];rfl
  | rw [r.B.1,r'.B.1];rfl
  | rw [r.B.1,r'.I.1];rfl
  | rw [r.B.1,r'.S.1];rfl
  | rw [r.I.1,r'.N.1];rfl
  | rw [r.I.1,r'.B.1];rfl
  | rw [r.I.1,r'.I.1];rfl
  | rw [r.I.1,r'.S.1];rfl
  | rw [r.S.1,r'.N.1];rfl
  | rw [r.S.1,r'.B.1];rfl
  | rw [r.S.1,r'.I.1];rfl
  | rw [r.S.1,r'.S.1];rfl
theorem zfl{H:Hp}{p:PV}{v:V}{A:List Addr}(h:vJ p=true)(r:Rp K H p v A):∀ {ps:List PV} {xs:List V} {B:List Addr},ps.all vJ=true->Rps K H ps xs B->xs.all uh=true/\inV v xs=inP p ps
 | [],_,_,_,g=>by rw [g.inv0.1];exact ⟨rfl,rfl⟩
 | q::ps,_,_,hq,g=>by
  obtain ⟨w,r',A1,A2,rfl,_,h3,h4⟩:=g.inv
  rw [List.all_cons,Bool.and_eq_true] at hq
  obtain ⟨i1,i2⟩:=zfl h r hq.2 h4
  refine ⟨by rw [List.all_cons,qU hq.1 h3,i1];rfl,?_⟩
  unfold inV inP at i2 ⊢
  rw [List.any_cons,List.any_cons,zmW hq.1 h h3 r,i2]
theorem qM:∀ {ks:List Key} {xs:List V} (h:ks.length=xs.length) (k:Key),(wj (ks.zip xs) k).isSome=kS ks k
 | [],[],_,_=>rfl
 | [],_::_,h,_=>by simp at h
 | _::_,[],h,_=>by simp at h
 | k'::ks,x::xs,h,k=>by
  have ih:=qM (ks:=ks) (xs:=xs) (by simpa using h) k
  rw [← kB] at ih ⊢
  unfold kS at ih ⊢
  rw [List.zip_cons_cons,List.any_cons,List.any_cons,ih]
noncomputable def zju(K:PySem.W.Frag)(neg:Bool):R2:=fun x y H Q=>∃ b,(zkr K H y x b∨∃ a kvs,x=.non/\y=.ref a/\H a=some (.dK kvs)/\b=false)/\Q (.bl (if neg then !b else b)) H
theorem uC(hu:X.A.units+1<cLine):OpR X (compareOp .In) (zju X.K false):=by
 intro pins s σ H x y v u Q I rx ry h
 obtain ⟨b,h | ⟨a,kvs,rfl,rfl,h,rfl⟩,q⟩:=h
 ·exact zfY hu pins s σ H x y v u Q I rx ry ⟨b,h,q⟩
 ·exact zdf hu pins s σ H _ _ v u Q I rx ry ⟨a,rfl,.inr ⟨kvs,rfl,h,q⟩⟩
theorem vC(hu:X.A.units+1<cLine):OpR X (compareOp .NotIn) (zju X.K true):=by
 intro pins s σ H x y v u Q I rx ry h
 obtain ⟨b,h | ⟨a,kvs,rfl,rfl,h,rfl⟩,q⟩:=h
 ·exact zci hu pins s σ H x y v u Q I rx ry ⟨b,h,q⟩
 ·cases ry
  cases rx
  obtain ⟨z,hd,vs,rel,dd⟩:=zdA I.hok h
  exact wpAny_notIn_of (knd:=zcg X.prog X.w) (k:=none) rfl hd (zdp dd.mapOf) ⟨.bl true,H,I.tok _,rfl,q⟩
theorem zkE{H:Hp}{p q:PV}{x y:V}{A B:List Addr}{b:Bool}(r1:Rp K H p x A)(r2:Rp K H q y B)(e:vIn p q=some b):zkr K H y x b∨∃ a kvs,x=.non/\y=.ref a/\H a=some (.dK kvs)/\b=false:=by
 cases q<;>first | (cases e;done) | skip
 ·simp only [vIn] at e
  split at e
  ·rename_i hc;cases e
   rw [Bool.and_eq_true] at hc
   obtain ⟨a,xs,e1,g0,g1⟩:=r2.T
   obtain ⟨i1,i2⟩:=zfl hc.1 r1 hc.2 g1
   exact .inl (.inl ⟨a,xs,e1,.inr g0,qU hc.1 r1,i1,i2.symm⟩)
  ·cases e
 ·simp only [vIn] at e
  split at e
  ·rename_i hc;cases e
   rw [Bool.and_eq_true] at hc
   obtain ⟨a,xs,B1,e1,g0,_,g1⟩:=r2.L
   obtain ⟨i1,i2⟩:=zfl hc.1 r1 hc.2 g1
   exact .inl (.inl ⟨a,xs,e1,.inl (SqL.of g0),qU hc.1 r1,i1,i2.symm⟩)
  ·cases e
 ·simp only [vIn] at e
  split at e
  ·rename_i hc;cases e
   rw [Bool.and_eq_true] at hc
   obtain ⟨a,xs,e1,g0,g1⟩:=r2.Fl
   obtain ⟨i1,i2⟩:=zfl hc.1 r1 hc.2 g1
   exact .inl (.inl ⟨a,xs,e1,.inl g0.seq,qU hc.1 r1,i1,i2.symm⟩)
  ·cases e
 ·obtain ⟨a,xs,B1,e1,g0,gl,_,g1⟩:=r2.D
  have hl:=g1.length
  cases p<;>first | (cases e;done) | skip
  ·cases e
   exact .inr ⟨a,_,r1.N.1,e1,g0,rfl⟩
  ·cases e
   refine .inl (.inr ⟨a,_,e1,by rw [r1.I.1];exact DGet.k (k:=Sum.inl _) g0,?_⟩)
   rw [qM (by omega)]
  ·cases e
   refine .inl (.inr ⟨a,_,e1,by rw [r1.S.1];exact DGet.k (k:=Sum.inr _) g0,?_⟩)
   rw [qM (by omega)]
theorem uB:OpV K (zju K false) vV:=by
 intro H p q x y A B z Q r1 r2 e k
 unfold vV at e
 cases hb:vIn p q with
 | none=>rw [hb] at e;cases e
 | some b=>rw [hb] at e;cases e;exact ⟨b,zkE r1 r2 hb,k _ H [] (Same.refl _) (.mkB _) .nil (by simp)⟩
theorem vB:OpV K (zju K true) xv:=by
 intro H p q x y A B z Q r1 r2 e k
 unfold xv at e
 cases hb:vIn p q with
 | none=>rw [hb] at e;cases e
 | some b=>rw [hb] at e;cases e;exact ⟨b,zkE r1 r2 hb,k _ H [] (Same.refl _) (.mkB _) .nil (by simp)⟩
theorem zhL:OpV K (fun x y H Q=>y=.non/\Q (.bl (decide (x=.non))) H) zgP:=by
 intro H p q x y A B z Q r1 r2 e k
 cases q<;>first | (cases e;done) | skip
 refine ⟨r2.N.1,?_⟩
 cases p
 case non=>cases e;rw [r1.N.1];exact k _ H [] (Same.refl _) (.mkB _) .nil (by simp)
 case any=>cases e
 all_goals
  cases e
  have hx:¬ x=V.non:=by
   intro hx
   subst hx
   first
    | (have:=r1.B.1;cases this;done)
    | (have:=r1.I.1;cases this;done)
    | (have:=r1.S.1;cases this;done)
    | (have:=r1.Ty.1;cases this;done)
    | (obtain ⟨_,_,z,_⟩:=r1.T;cases z;done)
    | (obtain ⟨_,_,_,z,_⟩:=r1.L;cases z;done)
    | (obtain ⟨_,_,z,_⟩:=r1.Fl;cases z;done)
    | (obtain ⟨_,_,_,z,_⟩:=r1.D;cases z;done)
    | (have:=r1.P.1;cases this;done)
    | (have:=r1.Ad.1;cases this;done)
  rw [decide_eq_false hx]
  exact k _ H [] (Same.refl _) (.mkB _) .nil (by simp)
theorem zfb:OpV K (fun x y H Q=>y=.non/\Q (.bl (!decide (x=.non))) H) zeS:=by
 intro H p q x y A B z Q r1 r2 e k
 cases q<;>first | (cases e;done) | skip
 refine ⟨r2.N.1,?_⟩
 cases p
 case non=>cases e;rw [r1.N.1];exact k _ H [] (Same.refl _) (.mkB _) .nil (by simp)
 case any=>cases e
 all_goals
  cases e
  have hx:¬ x=V.non:=by
   intro hx
   subst hx
   first
    | (have:=r1.B.1;cases this;done)
    | (have:=r1.I.1;cases this;done)
    | (have:=r1.S.1;cases this;done)
    | (have:=r1.Ty.1;cases this;done)
    | (obtain ⟨_,_,z,_⟩:=r1.T;cases z;done)
    | (obtain ⟨_,_,_,z,_⟩:=r1.L;cases z;done)
    | (obtain ⟨_,_,z,_⟩:=r1.Fl;cases z;done)
    | (obtain ⟨_,_,_,z,_⟩:=r1.D;cases z;done)
    | (have:=r1.P.1;cases this;done)
    | (have:=r1.Ad.1;cases this;done)
  rw [decide_eq_false hx]
  exact k _ H [] (Same.refl _) (.mkB _) .nil (by simp)
end
end F
namespace L2
theorem PE.or{X:Cx}{e:PySem.Expr}{t t':TE}(h:PE X e t)(h':PE X e t'):PE X e (fun σ H Q=>t σ H Q∨t' σ H Q):=fun pins s σ H Q I hw=>hw.elim (h pins s σ H Q I) (h' pins s σ H Q I)
theorem PS.or{X:Cx}{e:PySem.Stmt}{t t':TS}(h:PS X e t)(h':PS X e t'):PS X e (fun D σ H=>t D σ H∨t' D σ H):=fun pins s σ H D I hw=>hw.elim (h pins s σ H D I) (h' pins s σ H D I)
end L2
namespace F
open PySem PySem.Spec PyProof.Rows L2
noncomputable def ue(ks:List Key)(vs:List PV)(k:Key):Option PV:=((ks.zip vs).find? fun kv=>decide (kv.1=k)).map (·.2)
noncomputable def vIx:PV->PV->Option PV
 | .lst xs,.int i=>atI xs i
 | .fls xs,.int i=>atI xs i
 | .tup xs,.int i=>atI xs i
 | .str z,.int i=>if z.length≤100000 then (atI z.cps.toList i).map fun c=>.str ⟨#[c]⟩ else none
 | .dct ks vs,.int i=>ue ks vs (.inl i)
 | .dct ks vs,.str x=>ue ks vs (.inr x)
 | _,_=>none
theorem Cat.sub{c:Cat}{H:Hp}{own:Addr->Option Nat}{A C:List Addr}(h:c.ok H own A)(s:C.Sublist A):c.ok H own C:=by
 cases c with
 | mv L=>exact ⟨h.1.sublist s,fun a ha=>h.2 a (s.subset ha)⟩
 | sh=>exact fun a ha=>h a (s.subset ha)
 | bo=>trivial
section
variable {K:PySem.W.Frag} {H:Hp}
theorem Rps.atI{ps:List PV}{xs:List V}{A:List Addr}{i:Int}{p:PV}(r:Rps K H ps xs A)(h:L2.atI ps i=some p):∃ v C,L2.atI xs i=some v/\Rp K H p v C/\C.Sublist A:=by
 unfold L2.atI at h ⊢
 rw [← r.length]
 cases e:ixN ps.length i with
 | none=>rw [e] at h;cases h
 | some j=>
  rw [e] at h
  exact r.get h
theorem j5:∀ {ks:List Key} {ps:List PV} {xs:List V} {A:List Addr} {k:Key} {p:PV},Rps K H ps xs A->ue ks ps k=some p->∃ v C,wj (ks.zip xs) k=some v/\Rp K H p v C/\C.Sublist A
 | [],_,_,_,_,_,_,h=>by simp [ue] at h
 | k'::ks,[],_,_,_,_,_,h=>by simp [ue] at h
 | k'::ks,q::ps,_,_,k,p,r,h=>by
  obtain ⟨w,r',A1,A2,rfl,rfl,h3,h4⟩:=r.inv
  unfold ue at h
  rw [List.zip_cons_cons,List.find?_cons] at h
  by_cases hk:k'=k
  ·subst hk
   simp at h
   subst h
   exact ⟨w,A1,by rw [List.zip_cons_cons];exact kA rfl,h3,List.sublist_append_left _ _⟩
  ·have:decide (k'=k)=false:=decide_eq_false hk
   rw [show decide ((k',q).1=k)=false from this] at h
   obtain ⟨v,C,g1,g2,g3⟩:=j5 (ks:=ks) h4 h
   refine ⟨v,C,?_,g2,g3.trans (List.sublist_append_right _ _)⟩
   rw [List.zip_cons_cons]
   unfold wj at g1 ⊢
   rw [List.find?_cons,show decide ((k',w).1=k)=false from this]
   exact g1
end
section
variable {X:Cx} {κ:Nat->Option Nat} {G:Hp} {c c1 c2:Cat} {a b e:Expr} {es:List Expr} {fa fb f:FE} {t u:FT} {fs:FA} {pos:Pos} {g h:FS} {st:Stmt} {wV:List Stmt}
theorem ziz{gg:PV->PV->Option PV}{env:En}{z:PV}(e:fOp gg fa fb env=some z):∃ p q,fa env=some p/\fb env=some q/\gg p q=some z:=by
 unfold fOp at e
 replace e:=Option.bind_eq_some_iff.mp e;obtain ⟨p,hp,e⟩:=e
 replace e:=Option.bind_eq_some_iff.mp e;obtain ⟨q,hq,e⟩:=e
 exact ⟨p,q,hp,hq,e⟩
theorem zT(hu:X.A.units+1<cLine)(ha:VE X κ G c a fa)(hb:VE X κ G c2 b fb)(hs:zfE b):VE X κ G c (.Subscript a b pos) (fOp vIx fa fb):=
 ((zhF zev ha hb hs).or (zjJ hu ha hb hs)).imp fun σ H Q hq_=>by
 refine hq_.elim fun own env z I e k=>?_
 obtain ⟨p,q,hp,hq,e⟩:=ziz e
 have go:∀ x H1 A,Same H H1->Rp X.K H1 p x A->c.ok H own A->∀ (R:V->Hp->Prop),(∀ y H2 B,Same H1 H2->Rp X.K H2 q y B->R y H2)->tV X.K κ G c2 fb σ H1 R:=fun x H1 A s1 r1 _ R hR=>(.in (I.grow s1) hq fun y H2 B s2 r2 _=>hR y H2 B s2 r2)
 unfold vIx at e
 split at e
 ·refine .inl (.in I hp fun x H1 A s1 r1 c1=>go x H1 A s1 r1 c1 _ fun y H2 B s2 r2=>.inl ?_)
  obtain ⟨ad,xs,B1,e1,h1,rfl,g1⟩:=(Rp.same s2 _ r1).L
  obtain ⟨v,C,h3,h4,h5⟩:=g1.atI e
  exact ⟨ad,xs,_,v,e1,r2.I.1,SqL.of h1,h3,k v H2 C (s1.trans s2) h4 (Cat.sub c1 (h5.trans (List.sublist_cons_self _ _)))⟩
 ·refine .inl (.in I hp fun x H1 A s1 r1 c1=>go x H1 A s1 r1 c1 _ fun y H2 B s2 r2=>.inl ?_)
  obtain ⟨ad,xs,e1,h1,g1⟩:=(Rp.same s2 _ r1).Fl
  obtain ⟨v,C,h3,h4,h5⟩:=g1.atI e
  exact ⟨ad,xs,_,v,e1,r2.I.1,h1.seq,h3,k v H2 C (s1.trans s2) h4 (Cat.sub c1 h5)⟩
 ·refine .inl (.in I hp fun x H1 A s1 r1 c1=>go x H1 A s1 r1 c1 _ fun y H2 B s2 r2=>.inr (.inl ?_))
  obtain ⟨ad,xs,e1,h1,g1⟩:=(Rp.same s2 _ r1).T
  obtain ⟨v,C,h3,h4,h5⟩:=g1.atI e
  exact ⟨ad,xs,_,v,e1,r2.I.1,h1,h3,k v H2 C (s1.trans s2) h4 (Cat.sub c1 h5)⟩
 ·rename_i zz ii
  split at e
  case isFalse=>cases e
  rename_i hl
  cases hc:atI zz.cps.toList ii with
  | none=>rw [hc] at e;cases e
  | some ch=>
   rw [hc] at e
   have ez:z=.str ⟨#[ch]⟩:=(Option.some.inj e).symm
   refine .inl (.in I hp fun x H1 A s1 r1 c1=>go x H1 A s1 r1 c1 _ fun y H2 B s2 r2=>.inr (.inr ?_))
   exact ⟨_,_,ch,r1.S.1,r2.I.1,by rw [sizeLine_eq];omega,hc,k _ H2 [] (s1.trans s2) (by rw [ez];exact .mkS _) (Cat.nil _ _ _)⟩
 ·refine .inr (.in I hp fun x H1 A s1 r1 c1=>go x H1 A s1 r1 c1 _ fun y H2 B s2 r2=>?_)
  obtain ⟨ad,xs,B1,e1,h1,hl,rfl,g1⟩:=(Rp.same s2 _ r1).D
  obtain ⟨v,C,h3,h4,h5⟩:=j5 g1 e
  exact ⟨ad,v,e1,by rw [r2.I.1,← h3];exact DGet.k (k:=Sum.inl _) h1,k v H2 C (s1.trans s2) h4 (Cat.sub c1 (h5.trans (List.sublist_cons_self _ _)))⟩
 ·refine .inr (.in I hp fun x H1 A s1 r1 c1=>go x H1 A s1 r1 c1 _ fun y H2 B s2 r2=>?_)
  obtain ⟨ad,xs,B1,e1,h1,hl,rfl,g1⟩:=(Rp.same s2 _ r1).D
  obtain ⟨v,C,h3,h4,h5⟩:=j5 g1 e
  exact ⟨ad,v,e1,by rw [r2.S.1,← h3];exact DGet.k (k:=Sum.inr _) h1,k v H2 C (s1.trans s2) h4 (Cat.sub c1 (h5.trans (List.sublist_cons_self _ _)))⟩
 ·cases e
noncomputable def qI(K:PySem.W.Frag)(r:List V->Hp->VK->Prop)(gg:List PV->Option PV):Prop:=∀ (H:Hp) (ps:List PV) (vs:List V) (A:List Addr) (z:PV) (Q:VK),Rps K H ps vs A->gg ps=some z->
 (∀ v H' C,Same H H'->Rp K H' z v C->C.Nodup->(∀ a ∈ C,H a=none)->Q v H')->r vs H Q
theorem zgY{K:PySem.W.Frag}{r:List V->Hp->VK->Prop}{gg:List PV->Option PV}(hv:qI K r gg)(σ:St)(H:Hp)(Q:VK)(h:tV K κ G (.mv []) (zJ gg fs) σ H Q):tCB r (tVA K κ G c fs) σ H Q:=by
 obtain ⟨own,env,z,I,hf,k⟩:=h
 unfold zJ at hf
 replace hf:=Option.bind_eq_some_iff.mp hf;obtain ⟨qs,hp,hf⟩:=hf
 exact (.in I hp fun vs H1 A s1 r1 _=>hv H1 qs vs A z Q r1 hf fun v H' C s2 r2 nd fr=>k v H' C (s1.trans s2) r2 ⟨nd,fun a ha=>.inl (s1.free (fr a ha))⟩)
theorem yO{x:Str}{p:Pos}{id:String}{r:List V->Hp->VK->Prop}{gg:List PV->Option PV}(hv:qI X.K r gg)(hc:CallR X (.builtin id) r)(hg:Gl X x)(hm:X.mg x=none)(hb:bootBuiltins x=some (.builtin id))(ha:VA X κ G c (e::es) fs)(hn:x≠"__name__":=by decide)(hdb:(x == ("__debug__":Str))=false:=by decide)
  (he:starEach (e::es) X.env=(false,eval e X.env)::starEach es X.env:=by rfl)(hpl:(backTo pos (starEach es X.env)).any (·.1)=false:=by rfl):VE X κ G (.mv []) (.Call (.Name x p) (e::es) [] pos) (zJ gg fs):=(zhI hc hg hm hb ha.1 hn hdb he hpl).imp (zgY hv)
theorem kf{x:Str}{p:Pos}{T:String}{r:List V->Hp->VK->Prop}{gg:List PV->Option PV}(hv:qI X.K r gg)(hc:CallR X (.type T) r)(hg:Gl X x)(hm:X.mg x=none)(hb:bootBuiltins x=some (.type T))(ha:VA X κ G c (e::es) fs)(hn:x≠"__name__":=by decide)(hdb:(x == ("__debug__":Str))=false:=by decide)
  (he:starEach (e::es) X.env=(false,eval e X.env)::starEach es X.env:=by rfl)(hpl:(backTo pos (starEach es X.env)).any (·.1)=false:=by rfl):VE X κ G (.mv []) (.Call (.Name x p) (e::es) [] pos) (zJ gg fs):=(zbu hc hg hm hb ha.1 hn hdb he hpl).imp (zgY hv)
noncomputable def wM:List PV->Option PV
 | [.lst xs]=>some (.int xs.length)
 | [.fls xs]=>some (.int xs.length)
 | [.tup xs]=>some (.int xs.length)
 | [.dct ks _]=>some (.int ks.length)
 | [.str z]=>if z.length≤100000 then some (.int z.length) else none
 | _=>none
theorem xy:CallR X (.builtin "len") (fun xs H Q=>(∃ p ys,xs=[.ref p]/\(SqL X.K H p ys∨SqT X.K H p ys)/\Q (.int ys.length) H)∨((∃ a kvs,xs=[V.ref a]/\H a=some (.dK kvs)/\Q (.int kvs.length) H)∨∃ z,xs=[.str z]/\z.length≤sizeLine/\Q (.int z.length) H)):=call_len_seq.or (call_lenD.or zcG)
theorem xl{K:PySem.W.Frag}{H:Hp}{p:PV}{vs:List V}{A:List Addr}(r:Rps K H [p] vs A):∃ v,vs=[v]/\Rp K H p v A:=by
 obtain ⟨v,r',A1,A2,h1,h2,h3,h4⟩:=r.inv
 obtain ⟨h5,h6⟩:=h4.inv0
 exact ⟨v,by rw [h1,h5],by rw [h2,h6,List.append_nil];exact h3⟩
theorem xx{K:PySem.W.Frag}:qI K (fun xs H Q=>(∃ p ys,xs=[.ref p]/\(SqL K H p ys∨SqT K H p ys)/\Q (.int ys.length) H)∨((∃ a kvs,xs=[V.ref a]/\H a=some (.dK kvs)/\Q (.int kvs.length) H)∨∃ z,xs=[.str z]/\z.length≤sizeLine/\Q (.int z.length) H)) wM:=by
 intro H ps vs A z Q r e k
 have fin:∀ n:Int,z=.int n->Q (.int n) H:=fun n e=>k _ H [] (Same.refl _) (by rw [e];exact .mkI n) .nil (by simp)
 unfold wM at e
 split at e
 ·rename_i xs
  obtain ⟨v,rfl,rr⟩:=xl r
  obtain ⟨a,ys,B,e1,h1,_,g⟩:=rr.L
  exact .inl ⟨a,ys,by rw [e1],.inl (SqL.of h1),fin _ (by rw [← g.length];exact (Option.some.inj e).symm)⟩
 ·rename_i xs
  obtain ⟨v,rfl,rr⟩:=xl r
  obtain ⟨a,ys,e1,h1,g⟩:=rr.Fl
  exact .inl ⟨a,ys,by rw [e1],.inl h1.seq,fin _ (by rw [← g.length];exact (Option.some.inj e).symm)⟩
 ·rename_i xs
  obtain ⟨v,rfl,rr⟩:=xl r
  obtain ⟨a,ys,e1,h1,g⟩:=rr.T
  exact .inl ⟨a,ys,by rw [e1],.inr h1,fin _ (by rw [← g.length];exact (Option.some.inj e).symm)⟩
 ·rename_i ks xs
  obtain ⟨v,rfl,rr⟩:=xl r
  obtain ⟨a,ys,B,e1,h1,hl,_,g⟩:=rr.D
  refine .inr (.inl ⟨a,_,by rw [e1],h1,fin _ ?_⟩)
  rw [List.length_zip,← g.length,← hl,Nat.min_self]
  exact (Option.some.inj e).symm
 ·rename_i y
  obtain ⟨v,rfl,rr⟩:=xl r
  split at e
  ·rename_i hl
   exact .inr (.inr ⟨y,by rw [rr.S.1],by rw [sizeLine_eq];omega,fin _ (Option.some.inj e).symm⟩)
  ·cases e
 ·cases e
noncomputable def zku:List PV->Option PV
 | [.lst xs]=>if isDatas xs=true then some (.lst xs) else none
 | [.fls xs]=>if isDatas xs=true then some (.lst xs) else none
 | [.tup xs]=>if isDatas xs=true then some (.lst xs) else none
 | [.dct ks _]=>some (.lst (ks.map fun k=>match k with | .inl i=>.int i | .inr x=>.str x))
 | _=>none
noncomputable def jf:List PV->Option PV
 | [.lst xs]=>if isDatas xs=true then some (.tup xs) else none
 | [.fls xs]=>if isDatas xs=true then some (.tup xs) else none
 | [.tup xs]=>if isDatas xs=true then some (.tup xs) else none
 | _=>none
theorem zdI{K:PySem.W.Frag}:qI K (fun xs H Q=>∃ p ys,xs=[.ref p]/\((SqL K H p ys/\∀ l,H l=none->Q (.ref l) (upd H l (.tup ys)))∨(SqT K H p ys/\Q (.ref p) H))) jf:=by
 intro H ps vs A z Q r e k
 unfold jf at e
 split at e
 ·rename_i xs
  obtain ⟨v,rfl,rr⟩:=xl r
  split at e
  ·rename_i hd;cases e
   obtain ⟨a,ys,B,e1,h1,_,g⟩:=rr.L
   exact ⟨a,ys,by rw [e1],.inl ⟨SqL.of h1,qP hd g k (z:=.non)⟩⟩
  ·cases e
 ·rename_i xs
  obtain ⟨v,rfl,rr⟩:=xl r
  split at e
  ·rename_i hd;cases e
   obtain ⟨a,ys,e1,h1,g⟩:=rr.Fl
   exact ⟨a,ys,by rw [e1],.inl ⟨h1.seq,qP hd g k (z:=.non)⟩⟩
  ·cases e
 ·rename_i xs
  obtain ⟨v,rfl,rr⟩:=xl r
  split at e
  ·rename_i hd;cases e
   obtain ⟨a,ys,e1,h1,g⟩:=rr.T
   have:=Rps.data xs hd g
   subst this
   exact ⟨a,ys,by rw [e1],.inr ⟨h1,k _ H [] (Same.refl _) (.mkT h1 g) .nil (by simp)⟩⟩
  ·cases e
 ·cases e
noncomputable def zfN:List PV->Option PV
 | [.int i]=>some (.int i)
 | [.bl b]=>some (.int (if b then 1 else 0))
 | _=>none
theorem zlN{K:PySem.W.Frag}:qI K (fun xs H Q=>(∃ i,xs=[.int i]/\Q (.int i) H)∨∃ k,xs=[.bl k]/\Q (.int (if k then 1 else 0)) H) zfN:=by
 intro H ps vs A z Q r e k
 unfold zfN at e
 split at e
 ·rename_i i
  obtain ⟨v,rfl,rr⟩:=xl r
  cases e
  exact .inl ⟨i,by rw [rr.I.1],k _ H [] (Same.refl _) (.mkI i) .nil (by simp)⟩
 ·rename_i b
  obtain ⟨v,rfl,rr⟩:=xl r
  cases e
  exact .inr ⟨b,by rw [rr.B.1],k _ H [] (Same.refl _) (.mkI _) .nil (by simp)⟩
 ·cases e
noncomputable def zbk(xs:List PV)(lo hi:Option Int):List PV:=(xs.drop (HT.sIx xs.length 0 lo)).take (HT.sIx xs.length xs.length hi - HT.sIx xs.length 0 lo)
noncomputable def vSl:PV->Option Int->Option Int->Option PV
 | .lst xs,lo,hi=>if isDatas xs=true then some (.lst (zbk xs lo hi)) else none
 | .fls xs,lo,hi=>if isDatas xs=true then some (.lst (zbk xs lo hi)) else none
 | .tup xs,lo,hi=>if isDatas xs=true then some (.tup (zbk xs lo hi)) else none
 | _,_,_=>none
noncomputable abbrev FO:=En->Option (Option Int)
noncomputable def ua:FO:=fun _=>some none
noncomputable def zaH(f:FE):FO:=fun env=>(f env).bind fun p=>match p with | .int i=>some (some i) | _=>none
noncomputable def tVO(K:PySem.W.Frag)(κ:Nat->Option Nat)(G:Hp)(f:FO):TO:=fun σ H Q=>∃ own env o,VI K κ G own env σ H/\f env=some o/\∀ H',Same H H'->Q o H'
theorem tVO.in{K:PySem.W.Frag}{κ:Nat->Option Nat}{G:Hp}{f:FO}{σ:St}{H:Hp}{Q:Option Int->Hp->Prop}{own:Addr->Option Nat}{env:En}{p:Option Int}(I:VI K κ G own env σ H)(hf:f env=some p)(k:∀ H',Same H H'->Q p H'):tVO K κ G f σ H Q:=⟨own,env,p,I,hf,k⟩
theorem tVO.elim{K:PySem.W.Frag}{κ:Nat->Option Nat}{G:Hp}{f:FO}{σ:St}{H:Hp}{Q:Option Int->Hp->Prop}{C:Prop}(h:tVO K κ G f σ H Q)(k:∀ own env (p:Option Int),VI K κ G own env σ H->f env=some p->(∀ H',Same H H'->Q p H')->C):C:=
 let ⟨own,env,p,I,hf,q⟩:=h
 k own env p I hf q
noncomputable def VO(X:Cx)(κ:Nat->Option Nat)(G:Hp)(e:Option Expr)(f:FO):Prop:=PO X e (tVO X.K κ G f)
theorem zbT:VO X κ G none ua:=fun pins s σ H Q I ⟨own,env,o,I',e,k⟩=>by
 cases e
 exact zjD pins s σ H Q I (k H (Same.refl _))
theorem zbS(h:VE X κ G c e f):VO X κ G (some e) (zaH f):=fun pins s σ H Q I ⟨own,env,o,I',hf,k⟩=>by
 refine zjC h pins s σ H Q I ?_
 unfold zaH at hf
 replace hf:=Option.bind_eq_some_iff.mp hf;obtain ⟨p,hp,hf⟩:=hf
 refine (.in I' hp fun v H' A s r _=>?_)
 cases p<;>first | (cases hf;done) | skip
 cases hf
 exact ⟨_,r.I.1,k H' s⟩
theorem Rps.take_{K:PySem.W.Frag}{H:Hp}:∀ {ps:List PV} {xs:List V} (n:Nat),Rps K H ps xs []->Rps K H (ps.take n) (xs.take n) []
 | _,_,0,_=>by simpa using Rps.nil
 | [],_,n+1,r=>by rw [r.inv0.1];simpa using Rps.nil
 | p::ps,_,n+1,r=>by
  obtain ⟨v,r',A1,A2,rfl,h2,h3,h4⟩:=r.inv
  obtain ⟨rfl,rfl⟩:=List.append_eq_nil_iff.mp h2.symm
  exact Rps.cons h3 (Rps.take_ n h4)
theorem Rps.drop_{K:PySem.W.Frag}{H:Hp}:∀ {ps:List PV} {xs:List V} (n:Nat),Rps K H ps xs []->Rps K H (ps.drop n) (xs.drop n) []
 | _,_,0,r=>r
 | [],_,n+1,r=>by rw [r.inv0.1];simpa using Rps.nil
 | p::ps,_,n+1,r=>by
  obtain ⟨v,r',A1,A2,rfl,h2,h3,h4⟩:=r.inv
  obtain ⟨rfl,rfl⟩:=List.append_eq_nil_iff.mp h2.symm
  exact Rps.drop_ n h4
theorem Rps.cut{K:PySem.W.Frag}{H:Hp}{ps:List PV}{xs:List V}{lo hi:Option Int}(r:Rps K H ps xs []):Rps K H (zbk ps lo hi) (zaO xs lo hi) []:=by
 unfold zbk zaO
 rw [r.length]
 exact Rps.take_ _ (Rps.drop_ _ r)
theorem u3{xs ys:List PV}(h:isDatas xs=true)(s:∀ y ∈ ys,y ∈ xs):isDatas ys=true:=by
 rw [vQ] at h ⊢
 exact fun y hy=>h y (s y hy)
theorem zaP{xs:List PV}{lo hi:Option Int}:∀ y ∈ zbk xs lo hi,y ∈ xs:=fun y hy=>List.mem_of_mem_drop (List.mem_of_mem_take hy)
noncomputable def fSl(f:FE)(l h:FO):FE:=fun env=>(f env).bind fun p=>(l env).bind fun lo=>(h env).bind fun hi=>vSl p lo hi
theorem qd{lo hi:Option Expr}{fl fh:FO}{p2:Pos}(he:VE X κ G c e f)(hl:VO X κ G lo fl)(hh:VO X κ G hi fh):VE X κ G (.mv []) (.Subscript e (.Slice lo hi none p2) pos) (fSl f fl fh):=
 (zhE (sl_list.or zjs) he hl hh).imp fun σ H Q hq_=>by
 refine hq_.elim fun own env z I e k=>?_
 unfold fSl at e
 replace e:=Option.bind_eq_some_iff.mp e;obtain ⟨p,hp,e⟩:=e
 replace e:=Option.bind_eq_some_iff.mp e;obtain ⟨l,h1,e⟩:=e
 replace e:=Option.bind_eq_some_iff.mp e;obtain ⟨u,h2,e⟩:=e
 refine (.in I hp fun x H1 A s1 r1 _=>(.in (I.grow s1) h1 fun H2 s2=>(.in (I.grow (s1.trans s2)) h2 fun H3 s3=>?_)))
 have sA:=s1.trans (s2.trans s3)
 have k':∀ v H' C,Same H3 H'->Rp X.K H' z v C->C.Nodup->(∀ a ∈ C,H3 a=none)->Q v H':=fun v H' C s r nd fr=>k v H' C (sA.trans s) r ⟨nd,fun a ha=>.inl (sA.free (fr a ha))⟩
 have r3:=Rp.same (s2.trans s3) p r1
 unfold vSl at e
 split at e
 ·split at e
  case isFalse=>cases e
  rename_i hd
  cases e
  obtain ⟨a,xs,B1,e1,g0,_,g1⟩:=r3.L
  have:=Rps.data _ hd g1
  subst this
  exact .inl ⟨a,xs,e1,SqL.of g0,qQ (u3 hd zaP) g1.cut k' (z:=.non)⟩
 ·split at e
  case isFalse=>cases e
  rename_i hd
  cases e
  obtain ⟨a,xs,e1,g0,g1⟩:=r3.Fl
  have:=Rps.data _ hd g1
  subst this
  exact .inl ⟨a,xs,e1,g0.seq,qQ (u3 hd zaP) g1.cut k' (z:=.non)⟩
 ·split at e
  case isFalse=>cases e
  rename_i hd
  cases e
  obtain ⟨a,xs,e1,g0,g1⟩:=r3.T
  have:=Rps.data _ hd g1
  subst this
  refine .inr ⟨a,xs,e1,g0,fun hw=>?_,qP (u3 hd zaP) g1.cut k' (z:=.non)⟩
  have gc:=g1.cut (lo:=l) (hi:=u)
  rw [hw] at gc
  exact k' _ H3 [] (Same.refl _) (.mkT g0 gc) .nil (by simp)
 ·cases e
end
section
variable {X:Cx} {κ:Nat->Option Nat} {G:Hp} {c c1 c2:Cat} {a b e:Expr} {es:List Expr} {fa fb f:FE} {t u:FT} {fs:FA} {pos:Pos} {g h:FS} {st:Stmt} {wV:List Stmt} {O:List Nat}
theorem wW {i : Nat} {env : En} {p : PV} (hf : zA i env = some p) : env[i]? = some (some p) := by
  unfold zA at hf
  cases q : env[i]? with
  | none => rw [q] at hf; cases hf
  | some z => rw [q] at hf; have : z = some p := by simpa using hf
              rw [this]
theorem kG{i:Nat}{σ:St}{v:V}(h:σ[i]?=some (some v)):σ.set i (some v)=σ:=by
 apply List.ext_getElem?
 intro j
 rw [List.getElem?_set]
 by_cases hij:i=j
 ·subst hij
  rw [if_pos rfl,if_pos (List.getElem?_eq_some_iff.mp h).1,h]
 ·rw [if_neg hij]
theorem VI.turn{K:PySem.W.Frag}{own:Addr->Option Nat}{env:En}{σ:St}{H0 H1:Hp}{i:Nat}{p:PV}{a:Addr}{o:HO}{B:List Addr}(hi:i ∈ O)(I:VI K (ko O) G own env σ H0)(s:Same H0 H1)(hσ:σ[i]?=some (some (.ref a)))(ho:own a=some i)
  (hm:MutH H0 a)(r:Rp K (upd H1 a o) p (.ref a) (a::B))(nd:(a::B).Nodup)(hB:∀ b ∈ B,own b=some i∨H0 b=none):
  VI K (ko O) G (acq own i (a::B)) (env.set i (some p)) σ (upd H1 a o)/\Ext own H0 (acq own i (a::B)) (upd H1 a o):=by
 have:=I.take (H2:=upd H1 a o) (v:=.ref a) hi (fun j q w C hj _ z hC=>Rp.upd (hm.same s) q (fun z'=>hC a z' ho) (Rp.same s q z)) (fun b u hb z=>by
  rw [zk (by rintro rfl;exact hb ho)];exact s b u z) r nd (fun b hb=>(List.mem_cons.mp hb).elim (fun z=>.inl (z ▸ ho)) (hB b))
 rw [kG hσ] at this
 exact this
noncomputable def zf(i:Nat)(f:FE):FS:=fun env=>(zA i env).bind fun l=>(f env).bind fun q=>match l with | .lst ps=>if ps.length<100000 then some (.nx (env.set i (some (.lst (ps++[q]))))) else none | _=>none
theorem j4{K:PySem.W.Frag}{own:Addr->Option Nat}{env:En}{σ:St}{H:Hp}{i:Nat}{ps:List PV}(hi:i ∈ O)(I:VI K (ko O) G own env σ H)(hf:zA i env=some (.lst ps)):
  ∃ a xs B,σ[i]?=some (some (.ref a))/\H a=some (.lst xs)/\Rps K H ps xs B/\(a::B).Nodup/\own a=some i/\∀ b ∈ B,own b=some i:=by
 obtain ⟨v,A,h1,h2,_,h3⟩:=I.slot i _ (wW hf)
 obtain ⟨nd,ho⟩:=h3 i (vE hi)
 obtain ⟨a,xs,B,rfl,h4,rfl,h5⟩:=h2.L
 exact ⟨a,xs,B,h1,h4,h5,nd,ho a List.mem_cons_self,fun b hb=>ho b (List.mem_cons_of_mem _ hb)⟩
theorem yS(i:Nat)(hi:i ∈ O)(hp:PS X st (zbp (tBM X.K "list" kJ (uJ i) (qi (tV X.K (ko O) G (.mv []) f) zea)))):VS X (ko O) G st (zf i f):=hp.imp fun D σ H hq_=>by
 refine hq_.elim fun own env o I hf k=>?_
 unfold zf at hf
 replace hf:=Option.bind_eq_some_iff.mp hf;obtain ⟨l,hl,hf⟩:=hf
 replace hf:=Option.bind_eq_some_iff.mp hf;obtain ⟨q,hq,hf⟩:=hf
 cases l<;>first | (cases hf;done) | skip
 rename_i ps
 dsimp only at hf
 split at hf
 case isFalse=>cases hf
 rename_i hlen
 cases hf
 obtain ⟨a,xs,B,hσ,ha,hr,nd,ho,hB⟩:=j4 hi I hl
 refine ⟨.ref a,hσ,.inl ⟨rfl,xs,SqL.of ha⟩,.in I hq fun y H1 C s1 r1 c1=>⟨a,xs,y,rfl,rfl,s1 _ _ ha,by rw [← hr.length,sizeLine_eq];omega,?_⟩⟩
 have fr:∀ b ∈ C,H b=none:=fun b hb=>(c1.2 b hb).elim id fun ⟨_,z,_⟩=>nomatch z
 have nC:a ∉ C:=fun z=>by rw [fr a z] at ha;cases ha
 have nB:a ∉ B:=(List.nodup_cons.mp nd).1
 have m1:MutH H1 a:=.inl ⟨xs,s1 _ _ ha⟩
 have hnd:(a::(B++C)).Nodup:=by
  rw [← List.cons_append]
  refine List.nodup_append.mpr ⟨nd,c1.1,fun x hx y' hy' hxy=>?_⟩
  subst hxy
  have hn:=fr x hy'
  rcases List.mem_cons.mp hx with rfl | hx
  ·exact nC hy'
  ·obtain ⟨o,ho⟩:=(Rps.mut ps hr x hx).some
   rw [hn] at ho;cases ho
 have hBC:∀ b ∈ B++C,own b=some i∨H b=none:=by
  intro b hb
  rcases List.mem_append.mp hb with hb | hb
  ·exact .inl (hB b hb)
  ·exact .inr (fr b hb)
 obtain ⟨h1,h2⟩:=I.turn (p:=.lst (ps++[q])) (o:=.lst (xs++[y])) (B:=B++C) hi s1 hσ ho (.inl ⟨xs,ha⟩)
  (.mkL zd ((Rps.upd m1 ps nB (Rps.same s1 ps hr)).append (Rps.one (Rp.upd m1 q nC r1)))) hnd hBC
 exact k _ _ _ h1 h2
noncomputable def ziy(k i:Nat):FS:=fun env=>(zA i env).bind fun l=>match l with | .lst ps=>(ps.getLast?).bind fun q=>if isDatas ps=true then some (.nx ((env.set i (some (.lst ps.dropLast))).set k (some q))) else none | _=>none
theorem Rps.dropLast{K:PySem.W.Frag}{H:Hp}:∀ {ps:List PV} {xs:List V},Rps K H ps xs []->Rps K H ps.dropLast xs.dropLast []
 | [],_,r=>by rw [r.inv0.1];exact .nil
 | [p],_,r=>by
  obtain ⟨v,h1,_⟩:=xl r
  rw [h1];exact .nil
 | p::q::ps,_,r=>by
  obtain ⟨v,r',A1,A2,rfl,h2,h3,h4⟩:=r.inv
  obtain ⟨rfl,rfl⟩:=List.append_eq_nil_iff.mp h2.symm
  obtain ⟨w,r'',_,_,rfl,_,_,_⟩:=id h4.inv
  exact Rps.cons h3 (Rps.dropLast h4)
theorem zkJ(k i:Nat)(hi:i ∈ O)(hk:k ∉ O)(hp:PS X st (qj (zmi X.K "list" zmr (uJ i)) (jb k))):VS X (ko O) G st (ziy k i):=hp.imp fun D σ H hq_=>by
 refine hq_.elim fun own env o I hf kk=>?_
 unfold ziy at hf
 replace hf:=Option.bind_eq_some_iff.mp hf;obtain ⟨l,hl,hf⟩:=hf
 cases l<;>first | (cases hf;done) | skip
 rename_i ps
 dsimp only at hf
 replace hf:=Option.bind_eq_some_iff.mp hf;obtain ⟨q,hq,hf⟩:=hf
 split at hf
 case isFalse=>cases hf
 rename_i hd
 cases hf
 obtain ⟨a,xs,B,hσ,ha,hr,nd,ho,hB⟩:=j4 hi I hl
 have eB:=Rps.data ps hd hr
 subst eB
 have hq':ps[xs.length - 1]?=some q:=by rw [← hr.length,← hq,List.getLast?_eq_getElem?]
 obtain ⟨y,C,hy,r1,hC⟩:=hr.get hq'
 have eC:C=[]:=List.sublist_nil.mp hC
 subst eC
 have m1:MutH H a:=.inl ⟨xs,ha⟩
 refine ⟨.ref a,hσ,.inl ⟨rfl,xs,SqL.of ha⟩,a,xs,y,rfl,rfl,ha,hy,?_⟩
 obtain ⟨h1,h2⟩:=I.turn (p:=.lst ps.dropLast) (o:=.lst xs.dropLast) (B:=[]) hi (Same.refl _) hσ ho m1 (.mkL zd (Rps.upd m1 _ (by simp) hr.dropLast)) (by simp) (by simp)
 exact kk _ _ _ (h1.set_sh (zau hk) (Rp.upd m1 q (by simp) r1) (by simp)) h2
noncomputable def wp{α:Type}(ks:List Key)(vs:List α)(k:Key)(p:α):List Key × List α:=if kS ks k=true then (ks,List.zipWith (fun k' v=>if k'=k then p else v) ks vs) else (ks++[k],vs++[p])
theorem zaN{ks:List Key}{xs:List V}(hl:ks.length=xs.length)(k:Key)(v:V):wn (ks.zip xs) k v=(wp ks xs k v).1.zip (wp ks xs k v).2:=by
 have h:=qM hl k
 rw [← kB] at h
 unfold wn wp
 by_cases hk:kS ks k=true
 ·rw [if_pos hk,h,hk,if_pos rfl]
  clear h hk
  induction ks generalizing xs with
  | nil=>simp
  | cons k' ks ih=>
   cases xs with
   | nil=>simp at hl
   | cons x xs=>
    simp only [List.zip_cons_cons,List.map_cons,List.zipWith_cons_cons]
    rw [ih (by simpa using hl)]
    by_cases e:k'=k<;>simp [e]
 ·rw [if_neg hk,h,if_neg hk]
  show ks.zip xs++[(k,v)]=(ks++[k]).zip (xs++[v])
  rw [List.zip_append hl]
  rfl
theorem ziG{α:Type}{ks:List Key}{vs:List α}(hl:ks.length=vs.length)(k:Key)(p:α):(wp ks vs k p).1.length=(wp ks vs k p).2.length:=by
 unfold wp
 split
 ·simp [hl]
 ·simp [hl]
theorem zgv{α β:Type}{ks:List Key}{vs:List α}{ws:List β}(k:Key)(p:α)(q:β):(wp ks vs k p).1=(wp ks ws k q).1:=by
 unfold wp
 split<;>rfl
theorem ziF{K:PySem.W.Frag}{H:Hp}{ks:List Key}{k:Key}{p:PV}{v:V}(rp:Rp K H p v []):∀ {ps:List PV} {xs:List V},Rps K H ps xs []->Rps K H (wp ks ps k p).2 (wp ks xs k v).2 []:=by
 intro ps xs r
 unfold wp
 split
 ·rename_i hk
  clear hk
  induction ks generalizing ps xs with
  | nil=>exact .nil
  | cons k' ks ih=>
   cases ps with
   | nil=>rw [r.inv0.1];exact .nil
   | cons q ps=>
    obtain ⟨w,r',A1,A2,rfl,h2,h3,h4⟩:=r.inv
    obtain ⟨rfl,rfl⟩:=List.append_eq_nil_iff.mp h2.symm
    simp only [List.zipWith_cons_cons]
    by_cases e:k'=k
    ·rw [if_pos e,if_pos e];exact Rps.cons rp (ih h4)
    ·rw [if_neg e,if_neg e];exact Rps.cons h3 (ih h4)
 ·exact r.append (Rps.one rp)
noncomputable def qh(l:PV)(k q:PV):Option PV:=match l,k with
 | .lst ps,.int i=>if (isDatas ps && zw q)=true then (ixN ps.length i).map fun j=>.lst (ps.set j q) else none
 | .dct ks vs,.int i=>if (isDatas vs && zw q && decide (ks.length<100000))=true then some (.dct (wp ks vs (.inl i) q).1 (wp ks vs (.inl i) q).2) else none
 | .dct ks vs,.str x=>if (isDatas vs && zw q && decide (ks.length<100000))=true then some (.dct (wp ks vs (.inr x) q).1 (wp ks vs (.inr x) q).2) else none
 | _,_=>none
noncomputable def ui(i:Nat)(fk f:FE):FS:=fun env=>(f env).bind fun q=>(zA i env).bind fun l=>(fk env).bind fun k=>(qh l k q).map fun l'=>.nx (env.set i (some l'))
theorem Rps.set_{K:PySem.W.Frag}{H:Hp}{q:PV}{y:V}(rq:Rp K H q y []):∀ {ps:List PV} {xs:List V} (j:Nat),Rps K H ps xs []->Rps K H (ps.set j q) (xs.set j y) []
 | [],_,_,r=>by rw [r.inv0.1];exact .nil
 | p::ps,_,0,r=>by
  obtain ⟨v,r',A1,A2,rfl,h2,h3,h4⟩:=r.inv
  obtain ⟨rfl,rfl⟩:=List.append_eq_nil_iff.mp h2.symm
  exact Rps.cons rq h4
 | p::ps,_,j+1,r=>by
  obtain ⟨v,r',A1,A2,rfl,h2,h3,h4⟩:=r.inv
  obtain ⟨rfl,rfl⟩:=List.append_eq_nil_iff.mp h2.symm
  exact Rps.cons h3 (Rps.set_ rq j h4)
theorem zcI{K:PySem.W.Frag}{own:Addr->Option Nat}{env:En}{σ:St}{H:Hp}{i:Nat}{ks:List Key}{ps:List PV}(hi:i ∈ O)(I:VI K (ko O) G own env σ H)(hf:zA i env=some (.dct ks ps)):
  ∃ a xs B,σ[i]?=some (some (.ref a))/\H a=some (.dK (ks.zip xs))/\ks.length=ps.length/\Rps K H ps xs B/\(a::B).Nodup/\own a=some i/\∀ b ∈ B,own b=some i:=by
 obtain ⟨v,A,h1,h2,_,h3⟩:=I.slot i _ (wW hf)
 obtain ⟨nd,ho⟩:=h3 i (vE hi)
 obtain ⟨a,xs,B,rfl,h4,hl,rfl,h5⟩:=h2.D
 exact ⟨a,xs,B,h1,h4,hl,h5,nd,ho a List.mem_cons_self,fun b hb=>ho b (List.mem_cons_of_mem _ hb)⟩
theorem j7(i:Nat)(hi:i ∈ O){fk:FE}(hp:PS X st (qj (tV X.K (ko O) G c f) (zmP (uJ i) (tV X.K (ko O) G c2 fk) zkA)))(hd:PS X st (zeX (uJ i) (tV X.K (ko O) G c2 fk) (tV X.K (ko O) G c f))):VS X (ko O) G st (ui i fk f):=(hp.or hd).imp fun D σ H hq_=>by
 refine hq_.elim fun own env o I hf k=>?_
 unfold ui at hf
 replace hf:=Option.bind_eq_some_iff.mp hf;obtain ⟨q,hq,hf⟩:=hf
 replace hf:=Option.bind_eq_some_iff.mp hf;obtain ⟨l,hl,hf⟩:=hf
 replace hf:=Option.bind_eq_some_iff.mp hf;obtain ⟨kk,hk,hf⟩:=hf
 cases hv:qh l kk q with
 | none=>rw [hv] at hf;cases hf
 | some l'=>
  rw [hv] at hf;cases hf
  unfold qh at hv
  have dput:∀ (ks:List Key) (ps:List PV) (key:Key),l=.dct ks ps->(∀ (H2:Hp) (y:V) (B:List Addr),Rp X.K H2 kk y B->y=kV key)->(isDatas ps && zw q && decide (ks.length<100000))=true->l'=.dct (wp ks ps key q).1 (wp ks ps key q).2->zeX (uJ i) (tV X.K (ko O) G c2 fk) (tV X.K (ko O) G c f) D σ H:=by
   rintro ks ps key rfl hy hc rfl
   simp only [Bool.and_eq_true,decide_eq_true_eq] at hc
   obtain ⟨⟨d1,d2⟩,hlen⟩:=hc
   obtain ⟨a,xs,B,hσ,ha,hkl,hr,nd,ho,hB⟩:=zcI hi I hl
   have eB:=Rps.data ps d1 hr
   subst eB
   refine (.in I hq fun v H1 A s1 r1 _=>⟨.ref a,hσ,.in (I.grow s1) hk fun y H2 B s2 r2 _=>?_⟩)
   have eA:=Rp.data q d2 r1
   subst eA
   have s12:=s1.trans s2
   have hxl:=hr.length
   refine ⟨a,_,rfl,by rw [hy H2 y B r2];exact DPut.k (s12 _ _ ha) (by rw [List.length_zip,sizeLine_eq];omega),?_⟩
   rw [zaN (by omega)]
   have m0:MutH H a:=.inr ⟨_,ha⟩
   have m2:=m0.same s12
   have rq:=Rp.same s2 q r1
   obtain ⟨h1,h2⟩:=I.turn (p:=.dct (wp ks ps key q).1 (wp ks ps key q).2) (o:=.dK ((wp ks xs key v).1.zip (wp ks xs key v).2)) (B:=[]) hi s12 hσ ho m0
    (.mkD (by rw [zgv (ws:=xs) key q v];exact zd) (ziG hkl key q) (Rps.upd m2 _ (by simp) (ziF rq (Rps.same s12 ps hr)))) (by simp) (by simp)
   exact k _ _ _ h1 h2
  split at hv
  ·rename_i ps j
   split at hv
   case isFalse=>cases hv
   rename_i hc
   rw [Bool.and_eq_true] at hc
   obtain ⟨a,xs,B,hσ,ha,hr,nd,ho,hB⟩:=j4 hi I hl
   have eB:=Rps.data ps hc.1 hr
   subst eB
   cases hj:ixN ps.length j with
   | none=>rw [hj] at hv;cases hv
   | some jn=>
    rw [hj] at hv;cases hv
    refine .inl (.in I hq fun v H1 A s1 r1 _=>⟨.ref a,hσ,.in (I.grow s1) hk fun y H2 B s2 r2 _=>?_⟩)
    have eA:=Rp.data q hc.2 r1
    subst eA
    have s12:=s1.trans s2
    refine ⟨a,xs,j,jn,rfl,r2.I.1,s12 _ _ ha,by rw [← hr.length];exact hj,?_⟩
    have m0:MutH H a:=.inl ⟨_,ha⟩
    have m2:=m0.same s12
    obtain ⟨h1,h2⟩:=I.turn (p:=.lst (ps.set jn q)) (o:=.lst (xs.set jn v)) (B:=[]) hi s12 hσ ho m0 (.mkL zd (Rps.upd m2 _ (by simp) (Rps.set_ (Rp.same s2 q r1) jn (Rps.same s12 ps hr)))) (by simp) (by simp)
    exact k _ _ _ h1 h2
  ·split at hv
   case isFalse=>cases hv
   rename_i hc
   cases hv
   exact .inr (dput _ _ (Sum.inl _) rfl (fun H2 y B r=>r.I.1) hc rfl)
  ·split at hv
   case isFalse=>cases hv
   rename_i hc
   cases hv
   exact .inr (dput _ _ (Sum.inr _) rfl (fun H2 y B r=>r.S.1) hc rfl)
  ·cases hv
noncomputable def ky:FE:=fun _=>some (.dct [] [])
theorem j8(h:PE X e zgW):VE X κ G (.mv []) e ky:=h.imp fun σ H Q hq_=>by
 refine hq_.elim fun own env z I hf k=>?_
 cases hf
 intro p hp
 exact k _ _ [p] (ya (Same.refl _) hp) (.mkD (by simpa using zd) rfl .nil) ⟨by simp,fun a ha=>.inl (by rw [List.mem_singleton.mp ha];exact hp)⟩
noncomputable def zkv:PV->Option Bool
 | .non=>some false
 | .bl b=>some b
 | .int i=>some (i != 0)
 | .str y=>if y.length≤100000 then some ((y.length:Int) != 0) else none
 | .lst xs=>some (!xs.isEmpty)
 | .fls xs=>some (!xs.isEmpty)
 | .tup xs=>some (!xs.isEmpty)
 | .dct ks _=>some (!ks.isEmpty)
 | .ty _=>none
 | .any=>none
 | .pen _ _=>none
 | .adr _=>none
noncomputable def zix(f:FE):FT:=fun env=>(f env).bind zkv
theorem zaJ{K:PySem.W.Frag}{H:Hp}{ps:List PV}{xs:List V}{A:List Addr}(r:Rps K H ps xs A):(!ps.isEmpty)=!xs.isEmpty:=by
 have:=r.length
 cases ps<;>cases xs<;>simp_all
theorem zgL(ha:VE X κ G c a fa)(he:∀ whole,isTrue a X.env whole=(do let v ← whole;standAt a.pos;holding [v] (truthy v))):VT X κ G a (zix fa):=(zhu ha he).imp fun σ H Q hq_=>by
 refine hq_.elim fun own env z I hf k=>?_
 unfold zix at hf
 replace hf:=Option.bind_eq_some_iff.mp hf;obtain ⟨p,hp,hf⟩:=hf
 refine (.in I hp fun x H1 A s1 r1 _=>⟨z,?_,k H1 s1⟩)
 cases p
 case non=>cases hf;rw [r1.N.1];exact rfl
 case bl=>cases hf;rw [r1.B.1];exact rfl
 case int=>cases hf;rw [r1.I.1];exact rfl
 case str=>
  simp only [zkv] at hf
  split at hf
  ·rename_i hl;cases hf;rw [r1.S.1];exact ⟨by rw [sizeLine_eq];omega,rfl⟩
  ·cases hf
 case ty=>cases hf
 case any=>cases hf
 case pen=>cases hf
 case adr=>cases hf
 case tup=>cases hf;obtain ⟨a,xs,e1,h1,g⟩:=r1.T;rw [e1];exact .inr (.inl ⟨xs,h1,zaJ g⟩)
 case lst=>cases hf;obtain ⟨a,xs,B,e1,h1,_,g⟩:=r1.L;rw [e1];exact .inl ⟨xs,SqL.of h1,zaJ g⟩
 case fls=>cases hf;obtain ⟨a,xs,e1,h1,g⟩:=r1.Fl;rw [e1];exact .inl ⟨xs,h1.seq,zaJ g⟩
 case dct ks ps=>
  cases hf;obtain ⟨a,xs,B,e1,h1,hl,_,g⟩:=r1.D;rw [e1];refine .inr (.inr ⟨_,h1,?_⟩)
  have:=g.length
  cases ks<;>cases ps<;>cases xs<;>simp_all
end
end F
namespace L2
open PySem PySem.Spec PyProof.Rows
section
variable {X:Cx}
theorem zkg(l:Addr)(items:Array Value)(n:Nat)(b:Addr)(items2:Array Value)(n2:Nat)(dd:Option Addr)(sl:Array (Option Value))(hs0:¬(!items.isEmpty && Builtin.List.listTooLong (items.size+items2.size))=true)(hs1:items.size≤sizeLine)(hs2:items.size+items2.size≤sizeLine+1):
  Meets (Builtin.«list.extend» ⟨[.ref l,.ref b],[]⟩) (fun _ R s=>s.heap.get? l=some { cls:=.type "list",dict:=none,data:=.seq items n,slots:=#[] }/\s.heap.get? b=some { cls:=.type "tuple",dict:=dd,data:=.seq items2 n2,slots:=sl }/\R (.ok (.ret Value.none)) { s with heap:=s.heap.update l (Obj.mapSeq fun x=>x++items2),toks:=s.toks }):=
 .of_wp fun prog w A R s h=>by
  obtain ⟨hp,g,d,tk,os⟩:=s;obtain ⟨hl,hb,h⟩:=h;have f1:=AutoSeq1.idx_int;have f2:=AutoSeq1.sub_tuple_tuple;have f3:=AutoSeq1.sub_list_list;have f4:=AutoSeq1.sub_tuple_list;have f5:=AutoSeq1.sub_list_tuple;
  have hz':(items++items2).size≤sizeLine+1:=Nat.le_trans (Nat.le_of_eq Array.size_append) hs2
  wp_walk using (wpAny_updateSeq hl rfl (hz:=hs1) (_hz':=hz')),AutoSeq1.wpAny_loadPart' hl,AutoSeq1.wpAny_loadPart' hb;exact ⟨_,rfl,h⟩
noncomputable def q5(K:PySem.W.Frag):V->List V->Hp->VK->Prop:=fun x vs H Q=>∃ l b xs zs,x=.ref l/\vs=[.ref b]/\H l=some (.lst xs)/\SqT K H b zs/\xs.length+zs.length≤sizeLine/\Q .non (upd H l (.lst (xs++zs)))
theorem zer:MtM X "list.extend" (q5 X.K):=by
 intro pins s σ H x vs v us Q I rx rv h
 obtain ⟨l,b,xs,zs,rfl,rfl,hH,hB,hz,q⟩:=h
 cases rx
 obtain ⟨u,rfl,ru⟩:=rv.one
 cases ru
 obtain ⟨z,its,n,r,hl,e⟩:=I.lstM hH
 obtain ⟨its2,r2,⟨⟨cls,dd,dat,sl⟩,e2,hc,n2,hd⟩,z2⟩:=I.tuple hB
 simp only at hc hd
 subst hc hd
 have hl2:=r2.length
 have hsz:its.toArray.size+its2.toArray.size≤sizeLine:=by rw [List.size_toArray,List.size_toArray];omega
 have hlong:¬ (!its.toArray.isEmpty && Builtin.List.listTooLong (its.toArray.size+its2.toArray.size))=true:=by
  rw [zam hsz,Bool.and_false]
  exact Bool.false_ne_true
 refine call_meets F.slot_list_extend ⟨_,e,rfl⟩ F.entry_list_extend (F.args_list_extend_2 _ _)
  (zkg l its.toArray n b its2.toArray n2 dd sl hlong (by rw [List.size_toArray];omega) (by omega)) ⟨e,e2,?_⟩
 refine ⟨.non,_,I.lset (its':=its++its2) hH e (by simp) (r.append r2) ?_,rfl,q⟩
 rw [List.length_append]
 omega
theorem MtM.or{id:String}{r r':V->List V->Hp->VK->Prop}(h:MtM X id r)(h':MtM X id r'):MtM X id (fun x xs H Q=>r x xs H Q∨r' x xs H Q):=fun pins s σ H x xs v us Q I rx rs q=>q.elim (h pins s σ H x xs v us Q I rx rs) (h' pins s σ H x xs v us Q I rx rs)
theorem zes:MtM X "list.extend" (fun x xs H Q=>zce x xs H Q∨q5 X.K x xs H Q):=mt_extend.or zer
inductive TyR (K:PySem.W.Frag) (H:Hp):V->String->Prop where
 | non:TyR K H .non "NoneType"
 | bl (x:Bool):TyR K H (.bl x) "bool"
 | int (i:Int):TyR K H (.int i) "int"
 | str (x:Str):TyR K H (.str x) "str"
 | lst {a:Addr} {xs:List V} (e:SqL K H a xs):TyR K H (.ref a) "list"
 | tup {a:Addr} {xs:List V} (e:SqT K H a xs):TyR K H (.ref a) "tuple"
 | dct {a:Addr} {kvs:List (Key × V)} (e:H a=some (.dK kvs)):TyR K H (.ref a) "dict"
end
end L2
namespace F
open PySem PySem.Spec PyProof.Rows L2
noncomputable def zeW:PV->Option (List PV)
 | .lst ps=>some ps
 | .tup ps=>some ps
 | _=>none
noncomputable def kU(i:Nat)(f:FE):FS:=fun env=>(zA i env).bind fun l=>(f env).bind fun q=>match l with
 | .lst ps=>(zeW q).bind fun qs=>if (isDatas qs=true/\ps.length+qs.length≤100000) then some (.nx (env.set i (some (.lst (ps++qs))))) else none
 | _=>none
theorem zdR{X:Cx}{G:Hp}{O:List Nat}{st:Stmt}{f:FE}(i:Nat)(hi:i ∈ O)(hp:PS X st (zbp (tBM X.K "list" (fun x xs H Q=>zce x xs H Q∨q5 X.K x xs H Q) (uJ i) (qi (tV X.K (ko O) G (.mv []) f) zea)))):VS X (ko O) G st (kU i f):=hp.imp fun D σ H hq_=>by
 refine hq_.elim fun own env o I hf k=>?_
 unfold kU at hf
 replace hf:=Option.bind_eq_some_iff.mp hf;obtain ⟨l,hl,hf⟩:=hf
 replace hf:=Option.bind_eq_some_iff.mp hf;obtain ⟨q,hq,hf⟩:=hf
 split at hf
 case h_2=>cases hf
 rename_i ps
 replace hf:=Option.bind_eq_some_iff.mp hf;obtain ⟨qs,hs,hf⟩:=hf
 split at hf
 case isFalse=>cases hf
 rename_i hc
 have hf:=(Option.some.inj hf).symm
 subst hf
 obtain ⟨a,xs,B,hσ,ha,hr,nd,ho,hB⟩:=j4 hi I hl
 refine ⟨.ref a,hσ,.inl ⟨rfl,xs,SqL.of ha⟩,.in I hq fun y H1 C s1 r1 c1=>?_⟩
 have nB:a ∉ B:=(List.nodup_cons.mp nd).1
 have m1:MutH H1 a:=.inl ⟨xs,s1 _ _ ha⟩
 have fin:∀ (zs:List V),Rps X.K H1 qs zs []->D.nx σ (upd H1 a (.lst (xs++zs))):=fun zs g1=>by
  obtain ⟨h1,h2⟩:=I.turn (p:=.lst (ps++qs)) (o:=.lst (xs++zs)) (B:=B++[]) hi s1 hσ ho (.inl ⟨xs,ha⟩)
   (.mkL zd ((Rps.upd m1 ps nB (Rps.same s1 ps hr)).append (Rps.upd m1 qs (by simp) g1))) (by simpa using nd) (by simpa using fun b hb=>Or.inl (hB b hb))
  exact k _ _ _ h1 h2
 unfold zeW at hs
 split at hs
 ·have hs:=Option.some.inj hs
  subst hs
  obtain ⟨b,zs,C1,rfl,hb,rfl,g1⟩:=r1.L
  have e1:=Rps.data _ hc.1 g1
  subst e1
  exact .inl ⟨a,b,xs,zs,rfl,rfl,s1 _ _ ha,hb,by rw [← hr.length,← g1.length,sizeLine_eq];omega,fin zs g1⟩
 ·have hs:=Option.some.inj hs
  subst hs
  obtain ⟨b,zs,rfl,hb,g1⟩:=r1.T
  have e1:=Rps.data _ hc.1 g1
  subst e1
  exact .inr ⟨a,b,xs,zs,rfl,rfl,s1 _ _ ha,hb,by rw [← hr.length,← g1.length,sizeLine_eq];omega,fin zs g1⟩
 ·cases hs
noncomputable def tyP:PV->Option String
 | .non=>some "NoneType"
 | .bl _=>some "bool"
 | .int _=>some "int"
 | .str _=>some "str"
 | .lst _=>some "list"
 | .fls _=>some "list"
 | .tup _=>some "tuple"
 | .dct _ _=>some "dict"
 | .ty _=>none
 | .any=>none
 | .pen _ _=>none
 | .adr _=>none
end F
namespace L2
open PySem PySem.Spec PyProof.Rows
section
variable {X:Cx} {pins:List (Addr × Obj)} {σ:List (Option V)} {H:Hp} {s:Shared} {h':Heap}
theorem Inv.turnedL{t':Nat}{L:List Addr}(I:Inv X pins σ H s)(k:∀ b o,b ∉ L->s.heap.get? b=some o->h'.get? b=some o)(hf:∀ b ∈ L,jT X pins H b):Inv X pins σ H { s with heap:=h',toks:=t' }:=by
 have nit:∀ b u,H b=some u->b ∉ L:=fun b u e z=>by have:=(hf b z).1;rw [e] at this;cases this
 refine I.step (g':=s.gens) (d':=s.drawn) (ch:=L) (fun b hb=>⟨(hf b hb).2.2.2.1,(hf b hb).2.1,(hf b hb).2.2.2.2.1,(hf b hb).2.2.2.2.2⟩) (fun b o _ _ hc e _=>k b o hc e) (fun b o _ _ hc e _=>⟨o.slots,k b o hc e⟩) (fun _ _ _ _ n=>n)
  (fun b o hc e=>⟨o,k b o hc e⟩) (fun _ _ e=>e) (fun _ _ _ e=>e) (fun b ps e=>⟨#[],by rw [e];simp⟩) (fun m hm=>?_) (fun b u e=>?_) I.bare
 ·obtain ⟨o,es,ep,ho,r⟩:=hm
  exact ⟨o,es,ep,k _ o (fun z=>(hf _ z).2.1 rfl) ho,r⟩
 ·refine (I.hok b u e).stay (fun c v hc q=>k c v ?_ q) (fun _ q=>q) fun _ _ q=>q
  rcases hc with z | z
  ·rw [z];exact nit b u e
  ·exact nit c _ z
theorem Inv.turnedLaid{t':Nat}{L:List Addr}{a:Addr}{o':HO}(I:Inv X pins σ H s)(k:∀ b o,b ∉ L->s.heap.get? b=some o->h'.get? b=some o)(hf:∀ b ∈ L,jT X pins H b)(hp:s.heap.objs.size≤a)(new:ObjOk X.prog X.w (upd H a o') h' a o'):
  Inv X pins σ (upd H a o') { s with heap:=h',toks:=t' }:=by
 have nit:∀ b u,H b=some u->b ∉ L:=fun b u e z=>by have:=(hf b z).1;rw [e] at this;cases this
 have hn:H a=none:=I.hok.fresh hp
 refine I.step (g':=s.gens) (d':=s.drawn) (ch:=L) (fun b hb=>⟨(hf b hb).2.2.2.1,(hf b hb).2.1,(hf b hb).2.2.2.2.1,(hf b hb).2.2.2.2.2⟩) (fun b o _ _ hc e _=>k b o hc e) (fun b o _ _ hc e _=>⟨o.slots,k b o hc e⟩)
  (fun b o _ e n=>by rw [zk (Nat.ne_of_lt (Nat.lt_of_lt_of_le (Heap.lt_size e) hp))];exact n)
  (fun b o hc e=>⟨o,k b o hc e⟩) (fun b xs e=>by rw [zk (yh e hn)];exact e) (fun b _ _ e=>by rw [zk (yh e hn)];exact e) (fun b ps e=>⟨#[],by rw [zk (yh e hn),e];simp⟩) (fun m hm=>?_) (fun b u e=>?_) I.bare
 ·obtain ⟨o,es,ep,ho,r⟩:=hm
  exact ⟨o,es,ep,k _ o (fun z=>(hf _ z).2.1 rfl) ho,r⟩
 ·by_cases hb:b=a
  ·subst hb;rw [zd] at e;cases e;exact new
  ·rw [zk hb] at e
   refine (I.hok b u e).stay (fun c v hc q=>k c v ?_ q) (fun c q=>by rw [zk (yh q hn)];exact q) fun c xs q=>by rw [zk (yh q hn)];exact q
   rcases hc with z | z
   ·rw [z];exact nit b u e
   ·exact nit c _ z
end
noncomputable def ContAt(h:Heap)(b:Bool)(c:Addr)(its:Array Value):Prop:=if b=true then h.IsList c its else h.IsTuple c its
noncomputable def IterAt(h:Heap)(b:Bool)(it c:Addr)(i:Nat):Prop:=if b=true then h.IsListIter it c i else h.IsTupleIter it c i
noncomputable def zax(b:Bool):String:=if b=true then "list_iterator" else "tuple_iterator"
section
variable {prog:Program} {w:World} {A:Around} {E:Value->Shared->Prop} {s:Shared} {h h₂:Heap} {b:Bool} {it c:Addr} {i:Nat} {its:Array Value}
theorem ContAt.keep(x:ContAt h b c its)(k:∀ o,h.get? c=some o->h₂.get? c=some o):ContAt h₂ b c its:=by
 cases b with
 | true=>obtain ⟨o,ho,r⟩:=x;exact ⟨o,k o ho,r⟩
 | false=>obtain ⟨o,ho,r⟩:=x;exact ⟨o,k o ho,r⟩
theorem IterAt.keep(x:IterAt h b it c i)(k:∀ o,h.get? it=some o->h₂.get? it=some o):IterAt h₂ b it c i:=by
 cases b with
 | true=>obtain ⟨o,ho,r⟩:=x;exact ⟨o,k o ho,r⟩
 | false=>obtain ⟨o,ho,r⟩:=x;exact ⟨o,k o ho,r⟩
theorem IterAt.has(x:IterAt h b it c i):∃ o,h.get? it=some o/\∀ v,o.data≠.cell v:=by
 cases b with
 | true=>obtain ⟨o,ho,_,d⟩:=x;exact ⟨o,ho,fun v z=>by rw [d] at z;cases z⟩
 | false=>obtain ⟨o,ho,_,d⟩:=x;exact ⟨o,ho,fun v z=>by rw [d] at z;cases z⟩
theorem IterAt.lt(x:IterAt h b it c i):it<h.objs.size:=let ⟨_,e,_⟩:=x.has;Heap.lt_size e
theorem zan{x:Value}{Q:Value->Shared->Prop}(gi:s.heap.IsTupleIter it c i)(gt:s.heap.IsTuple c its)(gx:its[i]?=some x)
  (k:∀ h',h'.IsTupleIter it c (i+1)->Heap.SameBut it s.heap h'->Q x { s with heap:=h' }):wpAny (model prog w) A (Builtin.SmallTypes.nextOf (.ref it)) Q E s:=by
 obtain ⟨o,go,gc,gd⟩:=id gi
 obtain ⟨ot,got,_,nt,gdt⟩:=gt
 unfold Builtin.SmallTypes.nextOf
 refine wpAny_bind (wpAny_callSpecial?_slot (name:=Str.ofString "__next__") gi.typeIs F.slot_tuple_iterator_next (wpAny_call_entry F.slot_tuple_iterator_next gi.typeIs F.entry_tuple_iterator_next ?_ (F.args_tuple_iterator_next_1 _)))
 show wpAny _ _ (field (.ref it) 0 >>= _) _ _ s
 refine wpAny_bind (wpAny_field go gd (x:=.ref c) rfl ?_)
 show wpAny _ _ (if (Value.ref c == Value.none)=true then _ else _) _ _ s
 rw [if_neg (show ¬ ((Value.ref c == Value.none)=true) from Bool.false_ne_true)]
 show wpAny _ _ (field (.ref it) 1 >>= _) _ _ s
 refine wpAny_bind (wpAny_field go gd (x:=.int i 0) rfl ?_)
 show wpAny _ _ (seqItems? (.ref c) >>= _) _ _ s
 refine wpAny_bind (wpAny_seqItems got gdt ?_)
 simp only [Int.toNat_natCast,gx]
 refine wpAny_bind (wpAny_setField go gd (by simp) (wpAny_pure ⟨x,rfl,wpAny_pure (k _ ?_ (Heap.SameBut.update ..))⟩))
 exact ⟨_,Heap.get?_update_self _ go (Obj.isFreed_of_fields (Obj.data_mapFields gd _)),(Obj.cls_mapFields ..).trans gc,(by rw [Obj.data_mapFields gd];simp [rawInt])⟩
theorem uz{x:Value}{Q:Value->Shared->Prop}(gi:IterAt s.heap b it c i)(gt:ContAt s.heap b c its)(gx:its[i]?=some x)
  (k:∀ h',IterAt h' b it c (i+1)->Heap.SameBut it s.heap h'->Q x { s with heap:=h' }):wpAny (model prog w) A (Builtin.SmallTypes.nextOf (.ref it)) Q E s:=by
 cases b with
 | true=>exact wpAny_nextOf_list_item gi gt gx k
 | false=>exact zan gi gt gx k
theorem vD{Q:Value->Shared->Prop}(hh:A.handled=none)(gi:s.heap.IsTupleIter it c i)(gt:s.heap.IsTuple c its)(gx:its[i]?=none)
  (k:∀ h' e,Heap.ExtBut it s.heap h'->(∃ o,h'.get? e=some o/\o.cls=.type "StopIteration")->E (.ref e) { s with heap:=h' }):wpAny (model prog w) A (Builtin.SmallTypes.nextOf (.ref it)) Q E s:=by
 obtain ⟨o,go,gc,gd⟩:=id gi
 obtain ⟨ot,got,_,nt,gdt⟩:=gt
 unfold Builtin.SmallTypes.nextOf
 refine wpAny_bind (wpAny_callSpecial?_slot (name:=Str.ofString "__next__") gi.typeIs F.slot_tuple_iterator_next (wpAny_call_entry F.slot_tuple_iterator_next gi.typeIs F.entry_tuple_iterator_next ?_ (F.args_tuple_iterator_next_1 _)))
 show wpAny _ _ (field (.ref it) 0 >>= _) _ _ s
 refine wpAny_bind (wpAny_field go gd (x:=.ref c) rfl ?_)
 show wpAny _ _ (if (Value.ref c == Value.none)=true then _ else _) _ _ s
 rw [if_neg (show ¬ ((Value.ref c == Value.none)=true) from Bool.false_ne_true)]
 show wpAny _ _ (field (.ref it) 1 >>= _) _ _ s
 refine wpAny_bind (wpAny_field go gd (x:=.int i 0) rfl ?_)
 show wpAny _ _ (seqItems? (.ref c) >>= _) _ _ s
 refine wpAny_bind (wpAny_seqItems got gdt ?_)
 simp only [Int.toNat_natCast,gx]
 refine wpAny_bind (wpAny_rule (wpAny_bind (wpAny_setField go gd (by simp) ?_)))
 show wpAny _ _ (newExc (.type "StopIteration") [] >>= _) _ _ _
 refine wpAny_bind ?_
 simp only [newExc,newTuple]
 refine wpAny_bind (wpAny_newObj_type ?_ (by size_fits))
 refine wpAny_bind (m:=firstArgMember _ _) (wpAny_of_eq (a:=Value.none) (by first | rfl | (simp only [firstArgMember];rfl)) ?_)
 refine wpAny_newObj_type ?_ (by size_fits)
 simp only [raiseNew]
 refine wpAny_bind (wpAny_handled ?_)
 first | rw [show A.in1.handled=none from hh] | rw [hh]
 refine wpAny_bind (wpAny_pure (wpAny_throw ?_))
 exact k _ _ (((Heap.SameBut.update ..).extBut.push _).push _) ⟨_,Heap.get?_push_size _ rfl,rfl⟩
theorem zao{Q:Value->Shared->Prop}(hh:A.handled=none)(gi:IterAt s.heap b it c i)(gt:ContAt s.heap b c its)(gx:its[i]?=none)
  (k:∀ h' e,Heap.ExtBut it s.heap h'->(∃ o,h'.get? e=some o/\o.cls=.type "StopIteration")->E (.ref e) { s with heap:=h' }):wpAny (model prog w) A (Builtin.SmallTypes.nextOf (.ref it)) Q E s:=by
 cases b with
 | true=>exact wpAny_nextOf_list_end hh gi gt gx k
 | false=>exact vD hh gi gt gx k
end
section
variable {prog:Program} {w:World} {A:Around} {E:Value->Shared->Prop} {s:Shared} {b1 b2:Bool} {z TI TO i1 i2 l1 l2:Addr} {k1 k2:Nat} {xs ys:Array Value} {x y p q:Value}
theorem zfH{Q:Value->Shared->Prop}(D:ZipApart z TI TO i1 i2 l1 l2)(gz:IsZip s.heap z TI TO .none)(gI:IsPair s.heap TI (.ref i1) (.ref i2))(gO:IsPair s.heap TO p q)
  (g1:IterAt s.heap b1 i1 l1 k1)(g2:IterAt s.heap b2 i2 l2 k2)(c1:ContAt s.heap b1 l1 xs)(c2:ContAt s.heap b2 l2 ys)(gx:xs[k1]?=some x)(gy:ys[k2]?=some y)
  (fin:∀ h',IsZip h' z TI TO (rawInt s.heap.objs.size)->IsPair h' TO x y->IterAt h' b1 i1 l1 (k1+1)->IterAt h' b2 i2 l2 (k2+1)->IsPair h' s.heap.objs.size x y->
   (∀ c o,c ∉ [z,TO,i1,i2]->s.heap.get? c=some o->h'.get? c=some o)->Q (.ref s.heap.objs.size) { s with heap:=h' }):
  wpAny (model prog w) A (Builtin.«zip.__next__» ⟨[.ref z],[]⟩) (fun fin s'=>∃ v,fin=.done (.ret v)/\Q v s') E s:=by
 show wpAny _ _ (field (.ref z) 2 >>= _) _ _ _
 refine wpAny_bind (wpAny_field gz rfl (x:=.bool false) rfl ?_)
 show wpAny _ _ (field (.ref z) 3 >>= _) _ _ _
 refine wpAny_bind (wpAny_field gz rfl (x:=.ref TI) rfl ?_)
 refine wpAny_bind (wpAny_seqItems gI rfl ?_)
 show wpAny _ _ (Builtin.SmallTypes.ownedTupleIsFree (.ref z) >>= _) _ _ _
 refine wpAny_bind ?_
 unfold Builtin.SmallTypes.ownedTupleIsFree
 refine wpAny_bind (wpAny_field gz rfl (x:=.none) rfl (wpAny_pure ?_))
 simp only [if_true]
 refine wpAny_bind (wpAny_rule ?_)
 refine wpAny_bind (wpAny_field gz rfl (x:=.ref TO) rfl ?_)
 refine wpAny_bind (wpAny_setField_rec gz (by simp) fun h₁ z₁ s₁=>?_)
 replace z₁:IsZip h₁ z TI TO .ellipsis:=z₁
 refine wpAny_bind ?_
 simp only [List.zipIdx_cons,List.zipIdx_nil,List.forIn_cons,List.forIn_nil]
 refine wpAny_bind (wpAny_bind (wpAny_onRaise ?_))
 show wpAny _ _ (Builtin.SmallTypes.nextOf (.ref i1) >>= _) _ _ _
 refine wpAny_bind (uz (g1.keep fun o e=>s₁.extBut _ _ D.i1z e) (c1.keep fun o e=>s₁.extBut _ _ D.l1z e) gx fun h₂ e₂ s₂=>wpAny_pure ?_)
 have O₂:IsPair h₂ TO p q:=s₂.extBut _ _ D.TOi1 (s₁.extBut _ _ D.TOz gO)
 refine wpAny_bind (wpAny_seqItems O₂ rfl ?_)
 refine wpAny_bind (wpAny_updateSeq_pair O₂ fun h₃ O₃ s₃=>?_)
 replace O₃:IsPair h₃ TO x q:=O₃
 refine wpAny_bind (wpAny_letGo (wpAny_pure ?_))
 refine wpAny_bind (wpAny_bind (wpAny_onRaise ?_))
 show wpAny _ _ (Builtin.SmallTypes.nextOf (.ref i2) >>= _) _ _ _
 refine wpAny_bind (uz (g2.keep fun o e=>s₃.extBut _ _ D.TOi2.symm (s₂.extBut _ _ D.i12.symm (s₁.extBut _ _ D.i2z e))) (c2.keep fun o e=>s₃.extBut _ _ D.l2TO (s₂.extBut _ _ D.l2i1 (s₁.extBut _ _ D.l2z e))) gy fun h₄ e₄ s₄=>wpAny_pure ?_)
 have O₄:IsPair h₄ TO x q:=s₄.extBut _ _ D.TOi2 O₃
 refine wpAny_bind (wpAny_seqItems O₄ rfl ?_)
 refine wpAny_bind (wpAny_updateSeq_pair O₄ fun h₅ O₅ s₅=>?_)
 replace O₅:IsPair h₅ TO x y:=O₅
 refine wpAny_bind (wpAny_letGo (wpAny_pure (wpAny_pure ?_)))
 refine wpAny_bind (wpAny_seqItems O₅ rfl ?_)
 refine wpAny_bind (wpAny_newTuple ?_)
 have sz:h₅.objs.size=s.heap.objs.size:=by rw [s₅.1,s₄.1,s₃.1,s₂.1,s₁.1]
 have z₅:IsZip h₅ z TI TO .ellipsis:=s₅.extBut _ _ D.TOz.symm (s₄.extBut _ _ D.i2z.symm (s₃.extBut _ _ D.TOz.symm (s₂.extBut _ _ D.i1z.symm z₁)))
 have up5:∀ c o,c ∉ [z,TO,i1,i2]->s.heap.get? c=some o->h₅.get? c=some o:=fun c o hc e=>by
  simp only [List.mem_cons,List.not_mem_nil,or_false,not_or] at hc
  exact s₅.extBut _ _ hc.2.1 (s₄.extBut _ _ hc.2.2.2 (s₃.extBut _ _ hc.2.1 (s₂.extBut _ _ hc.2.2.1 (s₁.extBut _ _ hc.1 e))))
 have f1:IterAt h₅ b1 i1 l1 (k1+1):=e₂.keep fun o e=>s₅.extBut _ _ D.TOi1.symm (s₄.extBut _ _ D.i12 (s₃.extBut _ _ D.TOi1.symm e))
 have f2:IterAt h₅ b2 i2 l2 (k2+1):=e₄.keep fun o e=>s₅.extBut _ _ D.TOi2.symm e
 have zlt:z<h₅.objs.size:=Heap.lt_size z₅
 show wpAny _ _ (Builtin.SmallTypes.ownedTupleHandOut (.ref z) (.ref h₅.objs.size) >>= _) _ _ _
 refine wpAny_bind ?_
 unfold Builtin.SmallTypes.ownedTupleHandOut
 have z₆:IsZip (h₅.push { cls:=.type "tuple",data:=.seq #[x,y] }) z TI TO .ellipsis:=Heap.get?_push_of_some _ z₅
 refine wpAny_bind (wpAny_setField_rec z₆ (by simp) fun h₇ z₇ s₇=>?_)
 replace z₇:IsZip h₇ z TI TO (rawInt h₅.objs.size):=z₇
 refine wpAny_setField_rec z₇ (by simp) fun h₈ z₈ s₈=>?_
 replace z₈:IsZip h₈ z TI TO (rawInt h₅.objs.size):=z₈
 have up:∀ c o,c≠z->h₅.get? c=some o->h₈.get? c=some o:=fun c o n e=>s₈.extBut _ _ n (s₇.extBut _ _ n (Heap.get?_push_of_some _ e))
 have T₈:IsPair h₈ h₅.objs.size x y:=s₈.extBut _ _ (Nat.ne_of_gt zlt) (s₇.extBut _ _ (Nat.ne_of_gt zlt) (Heap.get?_push_size _ rfl))
 rw [sz] at z₈ T₈
 refine wpAny_pure ⟨_,rfl,?_⟩
 show Q (.ref h₅.objs.size) _
 rw [sz]
 exact fin h₈ z₈ (up _ _ D.TOz O₅) (f1.keep fun o e=>up _ o D.i1z e) (f2.keep fun o e=>up _ o D.i2z e) T₈ fun c o hc e=>up c o (fun n=>hc (by simp [n])) (up5 c o hc e)
theorem zgH{Q:PySem.Fin->Shared->Prop}(hh:A.handled=none)(D:ZipApart z TI TO i1 i2 l1 l2)(gz:IsZip s.heap z TI TO .none)(gI:IsPair s.heap TI (.ref i1) (.ref i2))(gO:IsPair s.heap TO p q)
  (g1:IterAt s.heap b1 i1 l1 k1)(g2:IterAt s.heap b2 i2 l2 k2)(c1:ContAt s.heap b1 l1 xs)(c2:ContAt s.heap b2 l2 ys)(ge:xs[k1]?=none∨ys[k2]?=none)
  (fin:∀ h' e,(∀ c o,c ∉ [z,TO,i1,i2]->s.heap.get? c=some o->h'.get? c=some o)->(∃ o,h'.get? e=some o/\o.cls=.type "StopIteration")->E (.ref e) { s with heap:=h' }):
  wpAny (model prog w) A (Builtin.«zip.__next__» ⟨[.ref z],[]⟩) Q E s:=by
 show wpAny _ _ (field (.ref z) 2 >>= _) _ _ _
 refine wpAny_bind (wpAny_field gz rfl (x:=.bool false) rfl ?_)
 show wpAny _ _ (field (.ref z) 3 >>= _) _ _ _
 refine wpAny_bind (wpAny_field gz rfl (x:=.ref TI) rfl ?_)
 refine wpAny_bind (wpAny_seqItems gI rfl ?_)
 show wpAny _ _ (Builtin.SmallTypes.ownedTupleIsFree (.ref z) >>= _) _ _ _
 refine wpAny_bind ?_
 unfold Builtin.SmallTypes.ownedTupleIsFree
 refine wpAny_bind (wpAny_field gz rfl (x:=.none) rfl (wpAny_pure ?_))
 simp only [if_true]
 refine wpAny_bind (wpAny_rule ?_)
 refine wpAny_bind (wpAny_field gz rfl (x:=.ref TO) rfl ?_)
 refine wpAny_bind (wpAny_setField_rec gz (by simp) fun h₁ z₁ s₁=>?_)
 replace z₁:IsZip h₁ z TI TO .ellipsis:=z₁
 refine wpAny_bind ?_
 simp only [List.zipIdx_cons,List.zipIdx_nil,List.forIn_cons,List.forIn_nil]
 refine wpAny_bind (wpAny_bind (wpAny_onRaise ?_))
 show wpAny _ _ (Builtin.SmallTypes.nextOf (.ref i1) >>= _) _ _ _
 have j1:IterAt h₁ b1 i1 l1 k1:=g1.keep fun o e=>s₁.extBut _ _ D.i1z e
 have d1:ContAt h₁ b1 l1 xs:=c1.keep fun o e=>s₁.extBut _ _ D.l1z e
 cases gx:xs[k1]? with
 | none=>
  refine wpAny_bind (zao hh j1 d1 gx fun h₂ e s₂ he=>?_)
  obtain ⟨oe,hoe,hce⟩:=he
  have z₂:IsZip h₂ z TI TO .ellipsis:=s₂ _ _ D.i1z.symm z₁
  have nez:e≠z:=fun n=>by subst n;rw [z₂] at hoe;cases hoe;simp at hce
  refine wpAny_setField_rec z₂ (by simp) fun h₃ _ s₃=>fin h₃ e (fun c o hc t=>?_) ⟨oe,s₃.extBut _ _ nez hoe,hce⟩
  simp only [List.mem_cons,List.not_mem_nil,or_false,not_or] at hc
  exact s₃.extBut _ _ hc.1 (s₂ _ _ hc.2.2.1 (s₁.extBut _ _ hc.1 t))
 | some x=>
  have gy:ys[k2]?=none:=by
   rcases ge with g | g
   ·rw [gx] at g;cases g
   ·exact g
  refine wpAny_bind (uz j1 d1 gx fun h₂ e₂ s₂=>wpAny_pure ?_)
  have O₂:IsPair h₂ TO p q:=s₂.extBut _ _ D.TOi1 (s₁.extBut _ _ D.TOz gO)
  refine wpAny_bind (wpAny_seqItems O₂ rfl ?_)
  refine wpAny_bind (wpAny_updateSeq_pair O₂ fun h₃ O₃ s₃=>?_)
  refine wpAny_bind (wpAny_letGo (wpAny_pure ?_))
  refine wpAny_bind (wpAny_bind (wpAny_onRaise ?_))
  show wpAny _ _ (Builtin.SmallTypes.nextOf (.ref i2) >>= _) _ _ _
  refine wpAny_bind (zao hh (g2.keep fun o e=>s₃.extBut _ _ D.TOi2.symm (s₂.extBut _ _ D.i12.symm (s₁.extBut _ _ D.i2z e))) (c2.keep fun o e=>s₃.extBut _ _ D.l2TO (s₂.extBut _ _ D.l2i1 (s₁.extBut _ _ D.l2z e))) gy fun h₄ e s₄ he=>?_)
  obtain ⟨oe,hoe,hce⟩:=he
  have z₄:IsZip h₄ z TI TO .ellipsis:=s₄ _ _ D.i2z.symm (s₃.extBut _ _ D.TOz.symm (s₂.extBut _ _ D.i1z.symm z₁))
  have nez:e≠z:=fun n=>by subst n;rw [z₄] at hoe;cases hoe;simp at hce
  refine wpAny_setField_rec z₄ (by simp) fun h₅ _ s₅=>fin h₅ e (fun c o hc t=>?_) ⟨oe,s₅.extBut _ _ nez hoe,hce⟩
  simp only [List.mem_cons,List.not_mem_nil,or_false,not_or] at hc
  exact s₅.extBut _ _ hc.1 (s₄ _ _ hc.2.2.2 (s₃.extBut _ _ hc.2.1 (s₂.extBut _ _ hc.2.2.1 (s₁.extBut _ _ hc.1 t))))
theorem zfG{Q:Option Value->Shared->Prop}(D:ZipApart z TI TO i1 i2 l1 l2)(gz:IsZip s.heap z TI TO .none)(gI:IsPair s.heap TI (.ref i1) (.ref i2))(gO:IsPair s.heap TO p q)
  (g1:IterAt s.heap b1 i1 l1 k1)(g2:IterAt s.heap b2 i2 l2 k2)(c1:ContAt s.heap b1 l1 xs)(c2:ContAt s.heap b2 l2 ys)(gx:xs[k1]?=some x)(gy:ys[k2]?=some y)
  (fin:∀ h',IsZip h' z TI TO (rawInt s.heap.objs.size)->IsPair h' TO x y->IterAt h' b1 i1 l1 (k1+1)->IterAt h' b2 i2 l2 (k2+1)->IsPair h' s.heap.objs.size x y->
   (∀ c o,c ∉ [z,TO,i1,i2]->s.heap.get? c=some o->h'.get? c=some o)->Q (some (.ref s.heap.objs.size)) { s with heap:=h' }):wpAny (model prog w) A (pyNext (.ref z)) Q E s:=by
 have hT:s.TypeIs (.ref z) "zip":=⟨_,gz,rfl⟩
 unfold pyNext
 exact wpAny_bind (wpAny_attempt (wpAny_callSpecial?_slot (name:=Str.ofString "__next__") hT F.slot_zip_next
  (wpAny_call_entry F.slot_zip_next hT F.entry_zip_next (zfH D gz gI gO g1 g2 c1 c2 gx gy fun h' a1 a2 a3 a4 a5 a6=>wpAny_pure (fin h' a1 a2 a3 a4 a5 a6)) (F.args_zip_next_1 _))))
theorem zfF{Q:Option Value->Shared->Prop}(hh:A.handled=none)(D:ZipApart z TI TO i1 i2 l1 l2)(gz:IsZip s.heap z TI TO .none)(gI:IsPair s.heap TI (.ref i1) (.ref i2))(gO:IsPair s.heap TO p q)
  (g1:IterAt s.heap b1 i1 l1 k1)(g2:IterAt s.heap b2 i2 l2 k2)(c1:ContAt s.heap b1 l1 xs)(c2:ContAt s.heap b2 l2 ys)(ge:xs[k1]?=none∨ys[k2]?=none)
  (fin:∀ h',(∀ c o,c ∉ [z,TO,i1,i2]->s.heap.get? c=some o->h'.get? c=some o)->Q none { s with heap:=h' }):wpAny (model prog w) A (pyNext (.ref z)) Q E s:=by
 have hT:s.TypeIs (.ref z) "zip":=⟨_,gz,rfl⟩
 unfold pyNext
 refine wpAny_bind (wpAny_attempt (wpAny_callSpecial?_slot (name:=Str.ofString "__next__") hT F.slot_zip_next
  (wpAny_call_entry F.slot_zip_next hT F.entry_zip_next (zgH hh D gz gI gO g1 g2 c1 c2 ge fun h' e hk he=>?_) (F.args_zip_next_1 _))))
 obtain ⟨o,ho,hc⟩:=he
 refine wpAny_bind (wpAny_isInstance (T:="StopIteration") (b:=true) ⟨o,ho,hc⟩ isSubtype_stop ?_)
 exact wpAny_pure (fin _ hk)
theorem qA{b:Bool}{c:Addr}{its:Array Value}{Q:Value->Shared->Prop}(g:ContAt s.heap b c its)(k:Q (.ref s.heap.objs.size) { s with heap:=s.heap.push { cls:=.type (zax b),data:=.fields #[.ref c,.int 0 0] } }):
  wpAny (model prog w) A (pyIter (.ref c)) Q E s:=by
 cases b with
 | true=>exact wpAny_pyIter_list g k
 | false=>exact wpAny_pyIter_tuple g k
noncomputable abbrev zg1(h:Heap)(b1:Bool)(l1:Addr):Heap:=h.push { cls:=.type (zax b1),data:=.fields #[.ref l1,.int 0 0] }
noncomputable abbrev zg2(h:Heap)(b1 b2:Bool)(l1 l2:Addr):Heap:=(zg1 h b1 l1).push { cls:=.type (zax b2),data:=.fields #[.ref l2,.int 0 0] }
noncomputable abbrev zg3(h:Heap)(b1 b2:Bool)(l1 l2:Addr):Heap:=(zg2 h b1 b2 l1 l2).push { cls:=.type "tuple",data:=.seq #[.ref h.objs.size,.ref (zg1 h b1 l1).objs.size] }
noncomputable abbrev zg4(h:Heap)(b1 b2:Bool)(l1 l2:Addr):Heap:=(zg3 h b1 b2 l1 l2).push { cls:=.type "tuple",data:=.seq #[.none,.none] }
noncomputable abbrev zg5(h:Heap)(b1 b2:Bool)(l1 l2:Addr):Heap:=(zg4 h b1 b2 l1 l2).push { cls:=.type "zip",data:=.fields #[.none,.bool false,.bool false,.ref (zg2 h b1 b2 l1 l2).objs.size,.ref (zg3 h b1 b2 l1 l2).objs.size] }
theorem zgG(b1 b2:Bool)(l1 l2:Addr)(xs ys:Array Value):
  Meets (Builtin.«zip.__new__» ⟨[.type "zip",.ref l1,.ref l2],[]⟩) (fun _ R s=>ContAt s.heap b1 l1 xs/\ContAt s.heap b2 l2 ys/\
   R (.ok (.ret (.ref (zg4 s.heap b1 b2 l1 l2).objs.size))) { s with heap:=zg5 s.heap b1 b2 l1 l2 }):=
 .of_wp fun prog w A R s h=>by
  obtain ⟨hp,g,d,tk,os⟩:=s;obtain ⟨c1,c2,h⟩:=h
  have hsub:=PySem.sub_zip
  have L1:ContAt (Shared.heap ⟨hp,g,d,tk,os⟩) b1 l1 xs:=c1
  have L2':ContAt (Shared.heap ⟨hp.push { cls:=.type (zax b1),data:=.fields #[.ref l1,.int 0 0] },g,d,tk,os⟩) b2 l2 ys:=c2.keep fun o e=>Heap.get?_push_of_some _ e
  wp_walk using qA L1,qA L2'
  exact ⟨_,rfl,h⟩
theorem zgz{Q:Value->Shared->Prop}(c1:ContAt s.heap b1 l1 xs)(c2:ContAt s.heap b2 l2 ys)
  (k:∀ h',IsZip h' (s.heap.objs.size+4) (s.heap.objs.size+2) (s.heap.objs.size+3) .none->IsPair h' (s.heap.objs.size+2) (.ref s.heap.objs.size) (.ref (s.heap.objs.size+1))->
   IsPair h' (s.heap.objs.size+3) .none .none->IterAt h' b1 s.heap.objs.size l1 0->IterAt h' b2 (s.heap.objs.size+1) l2 0->(∀ c o,s.heap.get? c=some o->h'.get? c=some o)->Q (.ref (s.heap.objs.size+4)) { s with heap:=h' }):
  wpAny (model prog w) A (call (.type "zip") [.ref l1,.ref l2]) Q E s:=by
 refine callType_new F.called_zip (by decide) (F.typeCall_zip_2 _ _) (F.newCall_zip_2 _ _) (fun obj=>F.args_object_init_3 obj _ _) F.entry_zip_new (zgG b1 b2 l1 l2 xs ys) ⟨c1,c2,?_⟩
 have e1:(zg1 s.heap b1 l1).objs.size=s.heap.objs.size+1:=Heap.size_push ..
 have e2:(zg2 s.heap b1 b2 l1 l2).objs.size=s.heap.objs.size+2:=by rw [Heap.size_push,e1]
 have e3:(zg3 s.heap b1 b2 l1 l2).objs.size=s.heap.objs.size+3:=by rw [Heap.size_push,e2]
 have e4:(zg4 s.heap b1 b2 l1 l2).objs.size=s.heap.objs.size+4:=by rw [Heap.size_push,e3]
 have g5:(zg5 s.heap b1 b2 l1 l2).get? (zg4 s.heap b1 b2 l1 l2).objs.size=some _:=Heap.get?_push_size _ rfl
 have g4:(zg5 s.heap b1 b2 l1 l2).get? (zg3 s.heap b1 b2 l1 l2).objs.size=some _:=Heap.get?_push_of_some _ (Heap.get?_push_size _ rfl)
 have g3:(zg5 s.heap b1 b2 l1 l2).get? (zg2 s.heap b1 b2 l1 l2).objs.size=some _:=Heap.get?_push_of_some _ (Heap.get?_push_of_some _ (Heap.get?_push_size _ rfl))
 have g2:(zg5 s.heap b1 b2 l1 l2).get? (zg1 s.heap b1 l1).objs.size=some _:=Heap.get?_push_of_some _ (Heap.get?_push_of_some _ (Heap.get?_push_of_some _ (Heap.get?_push_size _ rfl)))
 have g1:(zg5 s.heap b1 b2 l1 l2).get? s.heap.objs.size=some _:=Heap.get?_push_of_some _ (Heap.get?_push_of_some _ (Heap.get?_push_of_some _ (Heap.get?_push_of_some _ (Heap.get?_push_size _ rfl))))
 show _/\_
 rw [e2,e3,e4] at g5
 rw [e1,e2] at g3
 rw [e3] at g4
 rw [e1] at g2
 rw [e4]
 have mk:∀ (b:Bool) (h:Heap) (it l:Addr),h.get? it=some { cls:=.type (zax b),data:=.fields #[.ref l,.int 0 0] }->IterAt h b it l 0:=fun b h it l e=>by
  cases b with
  | true=>exact ⟨_,e,rfl,rfl⟩
  | false=>exact ⟨_,e,rfl,rfl⟩
 exact ⟨⟨_,g5,rfl⟩,k _ g5 g3 g4 (mk b1 _ _ _ g1) (mk b2 _ _ _ g2) fun c o e=>Heap.get?_push_of_some _ (Heap.get?_push_of_some _ (Heap.get?_push_of_some _ (Heap.get?_push_of_some _ (Heap.get?_push_of_some _ e))))⟩
end
noncomputable def Sq(K:PySem.W.Frag)(H:Hp)(b:Bool)(a:Addr)(xs:List V):Prop:=if b=true then SqL K H a xs else SqT K H a xs
noncomputable def Itz (K : PySem.W.Frag) (b1 b2 : Bool) (a1 a2 : Addr) : It :=
  ⟨fun i H => ∃ xs ys x y, Sq K H b1 a1 xs ∧ Sq K H b2 a2 ys ∧ xs[i]? = some x ∧ ys[i]? = some y,
   fun i H v H' => ∃ T x y, H T = none ∧ v = .ref T ∧ H' = upd H T (.tup [x, y]) ∧ ∀ xs ys, Sq K H b1 a1 xs → Sq K H b2 a2 ys → xs[i]? = some x ∧ ys[i]? = some y,
   fun i H => ∃ xs ys, Sq K H b1 a1 xs ∧ Sq K H b2 a2 ys ∧ (xs.length ≤ i ∨ ys.length ≤ i)⟩
section
variable {X:Cx} {pins:List (Addr × Obj)} {σ:St} {H:Hp} {s:Shared}
theorem Sq.at{b:Bool}{a:Addr}{xs:List V}(I:Inv X pins σ H s)(h:Sq X.K H b a xs):∃ its:List Value,Vals xs its/\ContAt s.heap b a its.toArray:=by
 cases b with
 | true=>obtain ⟨its,r,p,_⟩:=I.list h;exact ⟨its,r,p.isList⟩
 | false=>obtain ⟨its,r,p,_⟩:=I.tuple h;exact ⟨its,r,p⟩
theorem Sq.inj{b:Bool}{a:Addr}{xs ys:List V}(I:Inv X pins σ H s)(h:Sq X.K H b a xs)(h':Sq X.K H b a ys):xs=ys:=by
 cases b with
 | true=>exact I.list_inj h h'
 | false=>exact I.tuple_inj h h'
theorem Sq.ne{b:Bool}{a it:Addr}{xs:List V}(I:Inv X pins σ H s)(h:Sq X.K H b a xs)(hf:jT X pins H it):a≠it:=by
 rintro rfl
 have nb:∀ o,X.K.lookup a=some o->False:=fun o ho=>by
  obtain ⟨u,hu⟩:=I.ok.mod.kin a o ho |> fun e=>(⟨o,e⟩:∃ u,X.base.get? a=some u)
  rcases hf.2.2.2.1 with z | z
  ·exact I.ok.noex a u hu z
  ·exact absurd (Nat.lt_of_lt_of_le (Heap.lt_size hu) (Nat.le_trans I.ok.bsz z)) (Nat.lt_irrefl _)
 cases b with
 | true=>
  rcases h with (h | ⟨u,h⟩) | ⟨o,_,_,h,_⟩
  ·rw [hf.1] at h;cases h
  ·rw [hf.1] at h;cases h
  ·exact nb o h
 | false=>
  rcases h with (h | ⟨u,h⟩) | ⟨o,_,_,h,_⟩
  ·rw [hf.1] at h;cases h
  ·rw [hf.1] at h;cases h
  ·exact nb o h
end
structure ZApart (z TI TO i1 i2:Addr):Prop where
 a1:TI≠z
 a2:TO≠z
 a3:i1≠z
 a4:i2≠z
 a5:TI≠TO
 a6:TI≠i1
 a7:TI≠i2
 a8:TO≠i1
 a9:TO≠i2
 a10:i1≠i2
theorem zmI{z TI TO i1 i2 b:Addr}(hb:b ∈ [z,TO,i1,i2]):b ∈ [z,TI,TO,i1,i2]:=by
 simp only [List.mem_cons,List.not_mem_nil,or_false] at hb ⊢
 rcases hb with h | h | h | h
 ·exact .inl h
 ·exact .inr (.inr (.inl h))
 ·exact .inr (.inr (.inr (.inl h)))
 ·exact .inr (.inr (.inr (.inr h)))
theorem zgS{P:Program}{w:World}{K:PySem.W.Frag}{es:List Expr}{k:Nat}{pos:Pos}(b1 b2:Bool)(a1 a2 z TI TO i1 i2:Addr)(D:ZApart z TI TO i1 i2):
  Turn P w K (.Tuple es k pos) (Itz K b1 b2 a1 a2) [z,TI,TO,i1,i2] z (fun i h=>IsZip h z TI TO .none/\IsPair h TI (.ref i1) (.ref i2)/\(∃ p q,IsPair h TO p q)/\IterAt h b1 i1 a1 i/\IterAt h b2 i2 a2 i) where
 mem:=by simp
 obj:=by
  rintro i h ⟨gz,gI,⟨p,q,gO⟩,g1,g2⟩ b hb
  simp only [List.mem_cons,List.not_mem_nil,or_false] at hb
  rcases hb with rfl | rfl | rfl | rfl | rfl
  ·exact ⟨_,gz,fun v e=>nomatch e⟩
  ·exact ⟨_,gI,fun v e=>nomatch e⟩
  ·exact ⟨_,gO,fun v e=>nomatch e⟩
  ·exact g1.has
  ·exact g2.has
 keep:=by
  rintro i h h' ⟨gz,gI,⟨p,q,gO⟩,g1,g2⟩ kk
  exact ⟨kk z (by simp) _ gz,kk TI (by simp) _ gI,⟨p,q,kk TO (by simp) _ gO⟩,g1.keep fun o e=>kk i1 (by simp) o e,g2.keep fun o e=>kk i2 (by simp) o e⟩
 item:=by
  rintro X hP hw hK hc i pins s σ H E I hf ⟨gz,gI,⟨p,q,gO⟩,g1,g2⟩ ⟨xs,ys,x,y,hx,hy,ex,ey⟩
  subst hP hw hK
  obtain ⟨its1,r1,c1⟩:=hx.at I
  obtain ⟨its2,r2,c2⟩:=hy.at I
  obtain ⟨u,hu,ru⟩:=r1.get ex
  obtain ⟨v,hv,rv⟩:=r2.get ey
  have nf:∀ b ∈ [z,TI,TO,i1,i2],a1≠b/\a2≠b:=fun b hb=>⟨hx.ne I (hf b hb),hy.ne I (hf b hb)⟩
  have DD:ZipApart z TI TO i1 i2 a1 a2:=⟨D.a1,D.a2,D.a3,D.a4,D.a5,D.a6,D.a7,D.a8,D.a9,D.a10,(nf z (by simp)).1,(nf TO (by simp)).1,(nf i1 (by simp)).1,(nf i2 (by simp)).1,(nf z (by simp)).2,(nf TO (by simp)).2,(nf i1 (by simp)).2,(nf i2 (by simp)).2⟩
  refine zfG DD gz gI gO g1 g2 c1 c2 (x:=u) (y:=v) (by simpa using hu) (by simpa using hv) fun h' e1 e2 e3 e4 e5 e6=>⟨_,rfl,?_⟩
  refine wpAny_letOwnedTupleGo_zip e1 fun h₂ z₂ s₂=>?_
  have hL:∀ b ∈ [z,TO,i1,i2],jT X pins H b:=fun b hb=>hf b (zmI hb)
  have kk:∀ b o,b ∉ [z,TO,i1,i2]->s.heap.get? b=some o->h₂.get? b=some o:=fun b o hb e=>s₂.extBut _ _ (fun n=>hb (by simp [n])) (e6 b o hb e)
  -- first the records,then the new pair
  have hT:H s.heap.objs.size=none:=I.hok.fresh (Nat.le_refl _)
  have nz:s.heap.objs.size≠z:=Nat.ne_of_gt (Heap.lt_size gz)
  have T2:IsPair h₂ s.heap.objs.size u v:=s₂.extBut _ _ nz e5
  have I2:Inv X pins σ (upd H s.heap.objs.size (.tup [x,y])) { s with heap:=h₂,toks:=s.toks }:=I.turnedLaid (t':=s.toks) kk hL (Nat.le_refl _) ⟨by simp [sizeLine],[u,v],.cons ru (.cons rv .nil),⟨_,T2,rfl,_,rfl⟩⟩
  refine ⟨.ref s.heap.objs.size,_,I2,rfl,⟨_,x,y,hT,rfl,rfl,fun xs' ys' h1 h2=>⟨by rw [h1.inj I hx];exact ex,by rw [h2.inj I hy];exact ey⟩⟩,⟨z₂,?_,⟨u,v,s₂.extBut _ _ D.a2 e2⟩,e3.keep fun o e=>s₂.extBut _ _ D.a3 e,e4.keep fun o e=>s₂.extBut _ _ D.a4 e⟩,fun b hb=>?_⟩
  ·exact s₂.extBut _ _ D.a1 (e6 _ _ (by simp [D.a1,D.a5,D.a6,D.a7]) gI)
  ·rw [zk (fun n=>?_)]
   ·exact (hf b hb).1
   ·have:b<s.heap.objs.size:=by
     simp only [List.mem_cons,List.not_mem_nil,or_false] at hb
     rcases hb with rfl | rfl | rfl | rfl | rfl
     ·exact Heap.lt_size gz
     ·exact Heap.lt_size gI
     ·exact Heap.lt_size gO
     ·exact g1.lt
     ·exact g2.lt
    exact absurd n (Nat.ne_of_lt this)
 done:=by
  rintro X hP hw hK hc i pins s σ H E I hf ⟨gz,gI,⟨p,q,gO⟩,g1,g2⟩ ⟨xs,ys,hx,hy,hl⟩
  subst hP hw hK
  obtain ⟨its1,r1,c1⟩:=hx.at I
  obtain ⟨its2,r2,c2⟩:=hy.at I
  have l1:=r1.length
  have l2:=r2.length
  have nf:∀ b ∈ [z,TI,TO,i1,i2],a1≠b/\a2≠b:=fun b hb=>⟨hx.ne I (hf b hb),hy.ne I (hf b hb)⟩
  have DD:ZipApart z TI TO i1 i2 a1 a2:=⟨D.a1,D.a2,D.a3,D.a4,D.a5,D.a6,D.a7,D.a8,D.a9,D.a10,(nf z (by simp)).1,(nf TO (by simp)).1,(nf i1 (by simp)).1,(nf i2 (by simp)).1,(nf z (by simp)).2,(nf TO (by simp)).2,(nf i1 (by simp)).2,(nf i2 (by simp)).2⟩
  refine zfF (I.ok.hd hc) DD gz gI gO g1 g2 c1 c2 (hl.imp (fun h=>by simpa [← l1] using h) fun h=>by simpa [← l2] using h) fun h' e6=>⟨rfl,I.turnedL (t':=s.toks) e6 fun b hb=>hf b (zmI hb)⟩
 self:=fun _ _ _ _ _ st h=>wpAny_pyIter_zip st.1 h
theorem zkH(n:Nat):ZApart (n+4) (n+2) (n+3) n (n+1):=by constructor<;>(show ¬ (_:Nat)=_;omega)
theorem ziR:bootBuiltins "zip"=some (.type "zip"):=by decide +kernel
noncomputable def zoa(K:PySem.W.Frag)(ta:TA):TI:=fun σ H R=>ta σ H fun vs H1=>∃ b1 b2 a1 a2,vs=[.ref a1,.ref a2]/\(∃ xs,Sq K H1 b1 a1 xs)/\(∃ ys,Sq K H1 b2 a2 ys)/\R (Itz K b1 b2 a1 a2) H1
theorem zlc{X:Cx}{es:List Expr}{k:Nat}{tpos:Pos}{a b:Expr}{ta:TA}{p pos:Pos}(hg:Gl X "zip")(hm:X.mg "zip"=none)(ha:PA X [a,b] ta)(hs:starEach [a,b] X.env=[(false,eval a X.env),(false,eval b X.env)]:=by rfl)(hs2:starEach [b] X.env=[(false,eval b X.env)]:=by rfl):
  PI X (.Tuple es k tpos) (.Call (.Name "zip" p) [a,b] [] pos) (zoa X.K ta):=by
 intro pins s σ H R I h
 refine Call_ (uS I hg hm ziR (PyProof.Rows.callWith_type1 (thn (ha pos pins s σ H _ I h) fun us s1 ⟨vs,H1,I1,r1,q1⟩=>?_) (by rw [hs,hs2]) (by rw [hs2];rfl)))
 obtain ⟨b1,b2,a1,a2,e,⟨xs,hx⟩,⟨ys,hy⟩,q⟩:=q1
 subst e
 cases r1 with
 | cons r rr=>
  cases rr with
  | cons r' rr=>
   cases rr
   cases r
   cases r'
   obtain ⟨its1,v1,c1⟩:=hx.at I1
   obtain ⟨its2,v2,c2⟩:=hy.at I1
   refine zgz c1 c2 fun h' gz gI gO g1 g2 kk=>?_
   refine wpAny_pyIter_zip gz ?_
   refine ⟨s1.heap.objs.size+4,[s1.heap.objs.size+4,s1.heap.objs.size+2,s1.heap.objs.size+3,s1.heap.objs.size,s1.heap.objs.size+1],_,_,H1,rfl,I1.kept (t':=s1.toks) kk,
    zgS b1 b2 a1 a2 _ _ _ _ _ (zkH s1.heap.objs.size),⟨gz,gI,⟨_,_,gO⟩,g1,g2⟩,fun c hc=>?_,q⟩
   have hc':s1.heap.objs.size≤c:=by
    simp only [List.mem_cons,List.not_mem_nil,or_false] at hc
    rcases hc with rfl | rfl | rfl | rfl | rfl<;>omega
   exact I1.fpOk hc' (I1.hok.fresh hc')
end L2
namespace F
open PySem L2
noncomputable def zbh(f:FA):FA:=fun env=>(f env).bind fun ps=>match ps with | [p,q]=>(wk p).bind fun xs=>(wk q).bind fun ys=>some ((List.zip xs ys).map fun z=>PV.tup [z.1,z.2]) | _=>none
theorem zeV{K:PySem.W.Frag}{own:Addr->Option Nat}{H1:Hp}{p:PV}{v:V}{A:List Addr}{ps:List PV}(lp:Bool)(hm:∀ a l,own a=some l->MutH H1 a)(r:Rp K H1 p v A)(hA:(∀ a ∈ A,own a=none)∨(lp=false/\isDatas ps=true))(hs:wk p=some ps):
  ∃ b a xs B,v=.ref a/\Rps K H1 ps xs B/\(∀ a ∈ B,own a=none/\∃ o,H1 a=some o)/\∀ H2,(if lp=true then Stay own H1 H2 else Same H1 H2)->Sq K H2 b a xs/\Rps K H2 ps xs B:=by
 cases p<;>first | cases hs | skip
 ·obtain ⟨a,xs,h1,h2,h3⟩:=r.T
  refine ⟨false,a,xs,A,h1,h3,fun b hb=>⟨?_,(Rps.mut _ h3 b hb).some⟩,fun H2 hR=>?_⟩
  ·rcases hA with hA | ⟨_,hd⟩
   ·exact hA b hb
   ·have:=Rps.data _ hd h3;subst this;exact absurd hb (by simp)
  ·rcases hA with hA | ⟨e,hd⟩
   ·cases lp with
    | true=>exact ⟨Stay.tup hR hm h2,Rps.stay hR hm _ hA h3⟩
    | false=>exact ⟨Same.tup hR h2,Rps.same hR _ h3⟩
   ·subst e
    exact ⟨Same.tup hR h2,Rps.same hR _ h3⟩
 ·obtain ⟨a,xs,B,h1,h2,rfl,h3⟩:=r.L
  refine ⟨true,a,xs,B,h1,h3,fun b hb=>⟨?_,(Rps.mut _ h3 b hb).some⟩,fun H2 hR=>?_⟩
  ·rcases hA with hA | ⟨_,hd⟩
   ·exact hA b (List.mem_cons_of_mem _ hb)
   ·have:=Rps.data _ hd h3;subst this;exact absurd hb (by simp)
  ·rcases hA with hA | ⟨e,hd⟩
   ·cases lp with
    | true=>exact ⟨SqL.of (hR _ _ (hA a List.mem_cons_self) h2),Rps.stay hR hm _ (fun b hb=>hA b (List.mem_cons_of_mem _ hb)) h3⟩
    | false=>exact ⟨SqL.of (hR _ _ h2),Rps.same hR _ h3⟩
   ·subst e
    exact ⟨SqL.of (hR _ _ h2),Rps.same hR _ h3⟩
 ·obtain ⟨a,xs,h1,h2,h3⟩:=r.Fl
  refine ⟨true,a,xs,A,h1,h3,fun b hb=>⟨?_,(Rps.mut _ h3 b hb).some⟩,fun H2 hR=>?_⟩
  ·rcases hA with hA | ⟨_,hd⟩
   ·exact hA b hb
   ·have:=Rps.data _ hd h3;subst this;exact absurd hb (by simp)
  ·rcases hA with hA | ⟨e,hd⟩
   ·cases lp with
    | true=>exact ⟨(Stay.fz hR hm h2).seq,Rps.stay hR hm _ hA h3⟩
    | false=>exact ⟨(h2.same hR).seq,Rps.same hR _ h3⟩
   ·subst e
    exact ⟨(h2.same hR).seq,Rps.same hR _ h3⟩
theorem ziZ{K:PySem.W.Frag}{own:Addr->Option Nat}{H1:Hp}{R:Hp->Prop}{b1 b2:Bool}{a1 a2:Addr}{ps qs:List PV}{xs ys:List V}{A B:List Addr}
  (hA:∀ a ∈ A,own a=none/\∃ o,H1 a=some o)(hB:∀ a ∈ B,own a=none/\∃ o,H1 a=some o)(h1:∀ H2,R H2->Sq K H2 b1 a1 xs/\Rps K H2 ps xs A)(h2:∀ H2,R H2->Sq K H2 b2 a2 ys/\Rps K H2 qs ys B):
  Walks K own H1 R (Itz K b1 b2 a1 a2) ((List.zip ps qs).map fun z=>PV.tup [z.1,z.2]):=by
 intro i H2 hR
 obtain ⟨q1,r1⟩:=h1 H2 hR
 obtain ⟨q2,r2⟩:=h2 H2 hR
 refine ⟨fun p hp=>?_,fun hi=>⟨xs,ys,q1,q2,?_⟩⟩
 ·rw [List.getElem?_map] at hp
  obtain ⟨z,hz,hp⟩:=Option.map_eq_some_iff.mp hp
  subst hp
  obtain ⟨z1,z2⟩:=List.getElem?_zip_eq_some.mp hz
  obtain ⟨u,C,e1,e2,e3⟩:=r1.get z1
  obtain ⟨v,D,f1,f2,f3⟩:=r2.get z2
  refine ⟨⟨xs,ys,u,v,q1,q2,e1,f1⟩,fun x H3 ⟨T,x',y',hT,ex,eH,hy⟩=>?_⟩
  obtain ⟨g1,g2⟩:=hy xs ys q1 q2
  rw [e1] at g1;cases g1
  rw [f1] at g2;cases g2
  have sm:Same H2 H3:=by rw [eH];exact ya (Same.refl _) hT
  refine ⟨sm,C++D,?_,fun a ha=>?_⟩
  ·unfold Rp
   refine ⟨T,[u,v],ex,.inl (.inl (by rw [eH,zd])),?_⟩
   unfold Rps
   refine ⟨u,[v],C,D,rfl,rfl,Rp.same sm _ e2,?_⟩
   unfold Rps
   exact ⟨v,[],D,[],rfl,by simp,Rp.same sm _ f2,by unfold Rps;exact ⟨rfl,rfl⟩⟩
  ·rcases List.mem_append.mp ha with ha | ha
   ·exact hA a (e3.subset ha)
   ·exact hB a (f3.subset ha)
 ·rw [List.length_map,List.length_zip] at hi
  rw [← r1.length,← r2.length]
  omega
theorem qb{X:Cx}{κ:Nat->Option Nat}{G:Hp}{fs:FA}{a b:Expr}{es:List Expr}{k:Nat}{tpos p pos:Pos}(lp:Bool)(hg:Gl X "zip")(hm:X.mg "zip"=none)(ha:VA X κ G .sh [a,b] fs)(hs:starEach [a,b] X.env=[(false,eval a X.env),(false,eval b X.env)]:=by rfl)(hs2:starEach [b] X.env=[(false,eval b X.env)]:=by rfl):
  VIt X κ G lp (.Tuple es k tpos) (.Call (.Name "zip" p) [a,b] [] pos) (zbh fs):=(zlc hg hm ha.1 hs hs2).imp fun σ H R hq_=>by
 refine hq_.elim fun own env ps I hf k=>?_
 unfold zbh at hf
 replace hf:=Option.bind_eq_some_iff.mp hf;obtain ⟨qs,hp,hf⟩:=hf
 refine (.in I hp fun vs H1 A s r hc=>?_)
 split at hf
 ·rename_i p q
  cases e1:wk p with
  | none=>rw [e1] at hf;cases hf
  | some xs=>
   cases e2:wk q with
   | none=>rw [e1,e2] at hf;cases hf
   | some ys=>
    rw [e1,e2] at hf
    cases hf
    obtain ⟨v,r',A1,A2,h1,h2,h3,h4⟩:=r.inv
    obtain ⟨v',r'',A1',A2',h1',h2',h3',h4'⟩:=h4.inv
    have hm:∀ a l,own a=some l->MutH H1 a:=fun a l e=>((I.grow s).own a l e).2
    have hcA:∀ a ∈ A,own a=none:=hc
    obtain ⟨b1,a1,vs1,B1,w1,w2,w3,w4⟩:=zeV lp hm h3 (.inl fun a ha=>hcA a (by rw [h2];exact List.mem_append_left _ ha)) e1
    obtain ⟨b2,a2,vs2,B2,w5,w6,w7,w8⟩:=zeV lp hm h3' (.inl fun a ha=>hcA a (by rw [h2,h2'];exact List.mem_append_right _ (List.mem_append_left _ ha))) e2
    have rf:(if lp=true then Stay own H1 H1 else Same H1 H1):=by
     cases lp with
     | true=>exact fun _ _ _ h=>h
     | false=>exact Same.refl _
    exact ⟨b1,b2,a1,a2,by rw [h1,h1',h4'.inv0.1,w1,w5],⟨vs1,(w4 H1 rf).1⟩,⟨vs2,(w8 H1 rf).1⟩,k _ H1 s (ziZ w3 w7 w4 w8)⟩
 ·cases hf
end F
namespace F
open PySem PySem.Spec PyProof.Rows L2
section
variable {X:Cx} {κ:Nat->Option Nat} {G:Hp} {c c1 c2:Cat} {a b e:Expr} {es:List Expr} {fa fb f:FE} {t u:FT} {fs:FA} {pos:Pos} {g h:FS} {st:Stmt} {wV:List Stmt} {O:List Nat}
noncomputable def giv(own:Addr->Option Nat)(i:Nat)(C:List Addr):Addr->Option Nat:=fun a=>if a ∈ C then some i else own a
theorem VI.give{K:PySem.W.Frag}{own:Addr->Option Nat}{env:En}{σ:St}{H:Hp}{i j:Nat}{q:PV}(hj:j ∈ O)(I:VI K (ko O) G own env σ H)(hq:zA j env=some q):
  ∃ y C,σ[j]?=some (some y)/\Rp K H q y C/\C.Nodup/\(∀ b ∈ C,own b=some j)/\VI K (ko O) G (giv own i C) (env.set j none) σ H/\Ext own H (giv own i C) H:=by
 obtain ⟨y,C,h1,h2,_,h3⟩:=I.slot j _ (wW hq)
 obtain ⟨nd,ho⟩:=h3 j (vE hj)
 refine ⟨y,C,h1,h2,nd,ho,⟨by simp [I.len],fun m p e=>?_,fun b l e=>?_,I.same⟩,fun b o hb e=>⟨?_,e⟩⟩
 ·rw [List.getElem?_set] at e
  by_cases hm:j=m
  ·rw [if_pos hm] at e
   split at e<;>cases e
  ·rw [if_neg hm] at e
   obtain ⟨v,A,g1,g2,g3,g4⟩:=I.slot m p e
   refine ⟨v,A,g1,g2,fun z b hb=>?_,fun l z=>⟨(g4 l z).1,fun b hb=>?_⟩⟩
   ·have n:=g3 z b hb
    unfold giv
    rw [if_neg (fun hc=>by rw [ho b hc] at n;cases n)]
    exact n
   ·have n:=(g4 l z).2 b hb
    unfold giv
    rw [if_neg (fun hc=>by
     rw [ho b hc] at n
     have:=qT z
     cases n
     exact hm this)]
    exact n
 ·unfold giv at e
  split at e
  ·rename_i hc
   exact I.own b j (ho b hc)
  ·exact I.own b l e
 ·unfold giv
  rw [if_neg (fun hc=>by rw [ho b hc] at hb;cases hb)]
  exact hb
noncomputable def jO(i j:Nat):FS:=fun env=>(zA i env).bind fun l=>(zA j env).bind fun q=>match l with | .lst ps=>if ps.length<100000 then some (.nx ((env.set j none).set i (some (.lst (ps++[q]))))) else none | _=>none
theorem zcQ(i j:Nat)(hi:i ∈ O)(hj:j ∈ O)(hij:i≠j)(hp:PS X st (zbp (tBM X.K "list" kJ (uJ i) (qi (uJ j) zea)))):VS X (ko O) G st (jO i j):=hp.imp fun D σ H hq_=>by
 refine hq_.elim fun own env o I hf k=>?_
 unfold jO at hf
 replace hf:=Option.bind_eq_some_iff.mp hf;obtain ⟨l,hl,hf⟩:=hf
 replace hf:=Option.bind_eq_some_iff.mp hf;obtain ⟨q,hq,hf⟩:=hf
 cases l<;>first | (cases hf;done) | skip
 rename_i ps
 dsimp only at hf
 split at hf
 case isFalse=>cases hf
 rename_i hlen
 cases hf
 obtain ⟨a,xs,B,hσ,ha,hr,nd,ho,hB⟩:=j4 hi I hl
 obtain ⟨y,C,hσj,hrq,ndC,hC,I',ex⟩:=VI.give (i:=i) hj I hq
 refine ⟨.ref a,hσ,.inl ⟨rfl,xs,SqL.of ha⟩,y,hσj,a,xs,y,rfl,rfl,ha,by rw [← hr.length,sizeLine_eq];omega,?_⟩
 have ne:∀ b,own b=some i->b ∉ C:=fun b hb hc=>by rw [hC b hc] at hb;cases hb;exact hij rfl
 have m1:MutH H a:=.inl ⟨xs,ha⟩
 have hnd:(a::(B++C)).Nodup:=by
  rw [← List.cons_append]
  refine List.nodup_append.mpr ⟨nd,ndC,fun x hx y' hy' hxy=>?_⟩
  subst hxy
  rcases List.mem_cons.mp hx with rfl | hx
  ·exact ne _ ho hy'
  ·exact ne _ (hB x hx) hy'
 have ho':giv own i C a=some i:=by unfold giv;rw [if_neg (ne a ho)];exact ho
 have hBC:∀ b ∈ B++C,giv own i C b=some i∨H b=none:=by
  intro b hb
  unfold giv
  rcases List.mem_append.mp hb with hb | hb
  ·rw [if_neg (ne b (hB b hb))];exact .inl (hB b hb)
  ·rw [if_pos hb];exact .inl rfl
 obtain ⟨h1,h2⟩:=I'.turn (p:=.lst (ps++[q])) (o:=.lst (xs++[y])) (B:=B++C) hi (Same.refl _) hσ ho' m1
  (.mkL zd ((Rps.upd m1 ps (List.nodup_cons.mp nd).1 hr).append (Rps.one (Rp.upd m1 q (ne a ho) hrq)))) hnd hBC
 exact k _ _ _ h1 (ex.trans h2)
theorem qO{α:Type}:∀ {ps:List α} {j:Nat} {p:α},ps[j]?=some p->∃ l1 l2,ps=l1++p::l2/\l1.length=j
 | [],j,p,h=>by simp at h
 | q::ps,0,p,h=>⟨[],ps,by simp at h;rw [h];rfl,rfl⟩
 | q::ps,j+1,p,h=>by
  obtain ⟨l1,l2,e1,e2⟩:=qO (ps:=ps) (j:=j) (p:=p) (by simpa using h)
  exact ⟨q::l1,l2,by rw [e1];rfl,by simp [e2]⟩
theorem zca{α:Type}{l1 l2:List α}{p q:α}:(l1++p::l2).set l1.length q=l1++q::l2:=by
 rw [List.set_append]
 simp
theorem VI.turnIn{K:PySem.W.Frag}{own:Addr->Option Nat}{env:En}{σ:St}{H:Hp}{i j:Nat}{ps qs:List PV}(hi:i ∈ O)(I:VI K (ko O) G own env σ H)(hl:zA i env=some (.lst ps))(hj:ps[j]?=some (.lst qs)):
  ∃ a xs b ys B,σ[i]?=some (some (.ref a))/\H a=some (.lst xs)/\xs[j]?=some (.ref b)/\xs.length=ps.length/\H b=some (.lst ys)/\Rps K H qs ys B/\b ∉ B/\B.Nodup/\∀ H1 qs' ys' C,Same H H1->Rps K H1 qs' ys' C->C.Nodup->b ∉ C->(∀ d ∈ C,d ∈ B∨H d=none)->
   ∃ own',VI K (ko O) G own' (env.set i (some (.lst (ps.set j (.lst qs'))))) σ (upd H1 b (.lst ys'))/\Ext own H own' (upd H1 b (.lst ys')):=by
 obtain ⟨a,xs,B,hσ,ha,hr,nd,ho,hB⟩:=j4 hi I hl
 obtain ⟨l1,l2,rfl,rfl⟩:=qO hj
 obtain ⟨v1,v2,A1,A2,rfl,rfl,r1,r2⟩:=hr.split
 obtain ⟨v,r',A3,A4,rfl,rfl,r3,r4⟩:=r2.inv
 obtain ⟨b,ys,B',rfl,hb,rfl,r5⟩:=r3.L
 have n1:=r1.length
 rw [List.nodup_cons,List.nodup_append,List.nodup_append,List.nodup_cons] at nd
 simp only [List.mem_append,List.mem_cons,not_or] at nd hB
 obtain ⟨⟨na1,⟨nab,naB⟩,na4⟩,nd1,⟨⟨nbB,ndB⟩,nd4,d34⟩,d1⟩:=nd
 refine ⟨a,_,b,ys,B',hσ,ha,by rw [n1];simp,hr.length.symm,hb,r5,nbB,ndB,fun H1 qs' ys' C s1 rC ndC nbC hC=>?_⟩
 have mb:MutH H1 b:=.inl ⟨ys,s1 _ _ hb⟩
 have nb1:b ∉ A1:=fun z=>d1 b z b (.inl (.inl rfl)) rfl
 have nb4:b ∉ A4:=fun z=>d34 b (.inl rfl) b z rfl
 have hm:∀ d,(d=a∨d ∈ A1∨d=b∨d ∈ A4)->∃ o,H d=some o:=fun d z=>by
  rcases z with rfl | z | rfl | z
  ·exact ⟨_,ha⟩
  ·exact (Rps.mut _ r1 d z).some
  ·exact ⟨_,hb⟩
  ·exact (Rps.mut _ r4 d z).some
 have nC:∀ d ∈ C,d≠a/\d ∉ A1/\d ∉ A4:=fun d hd=>by
  rcases hC d hd with z | z
  ·exact ⟨fun e=>naB (e ▸ z),fun e=>d1 d e d (.inl (.inr z)) rfl,fun e=>d34 d (.inr z) d e rfl⟩
  ·refine ⟨fun e=>?_,fun e=>?_,fun e=>?_⟩
   ·obtain ⟨o,q⟩:=hm d (.inl e);rw [z] at q;cases q
   ·obtain ⟨o,q⟩:=hm d (.inr (.inl e));rw [z] at q;cases q
   ·obtain ⟨o,q⟩:=hm d (.inr (.inr (.inr e)));rw [z] at q;cases q
 have hob:own b=some i:=hB b (.inr (.inl (.inl rfl)))
 have hA:(a::(A1++((b::C)++A4))).Nodup:=by
  rw [List.nodup_cons,List.nodup_append,List.nodup_append,List.nodup_cons]
  simp only [List.mem_append,List.mem_cons,not_or]
  refine ⟨⟨na1,⟨nab,fun z=>(nC a z).1 rfl⟩,na4⟩,nd1,⟨⟨nbC,ndC⟩,nd4,fun d hd d' hd' e=>?_⟩,fun d hd d' hd' e=>?_⟩
  ·subst e
   rcases hd with rfl | hd
   ·exact nb4 hd'
   ·exact (nC d hd).2.2 hd'
  ·subst e
   rcases hd' with (rfl | hd') | hd'
   ·exact nb1 hd
   ·exact (nC d hd').2.1 hd
   ·exact d1 d hd d (.inr hd') rfl
 have hown:∀ d ∈ a::(A1++((b::C)++A4)),own d=some i∨H d=none:=fun d hd=>by
  simp only [List.mem_append,List.mem_cons] at hd
  rcases hd with rfl | hd | (rfl | hd) | hd
  ·exact .inl ho
  ·exact .inl (hB d (.inl hd))
  ·exact .inl hob
  ·rcases hC d hd with z | z
   ·exact .inl (hB d (.inr (.inl (.inr z))))
   ·exact .inr z
  ·exact .inl (hB d (.inr (.inr hd)))
 rw [zca]
 have r:Rp K (upd H1 b (.lst ys')) (.lst (l1++.lst qs'::l2)) (.ref a) (a::(A1++((b::C)++A4))):=
  .mkL (by rw [zk nab];exact s1 _ _ ha) ((Rps.upd mb _ nb1 (Rps.same s1 _ r1)).append (Rps.cons (.mkL zd (Rps.upd mb _ nbC rC)) (Rps.upd mb _ nb4 (Rps.same s1 _ r4))))
 have:=I.take (H2:=upd H1 b (.lst ys')) (v:=.ref a) hi (fun m q w D _ _ z hD=>Rp.upd mb q (fun z'=>hD b z' hob) (Rp.same s1 q z)) (fun d u hd z=>by
  rw [zk (by rintro rfl;exact hd hob)];exact s1 d u z) r hA hown
 rw [kG hσ] at this
 exact ⟨_,this⟩
end
end F
namespace L2
open PySem PySem.Spec PyProof.Rows
theorem Vals.of_get:∀ {xs:List V} {us:List Value},xs.length=us.length->(∀ (i:Nat) x u,xs[i]?=some x->us[i]?=some u->RelV x u)->Vals xs us
 | [],[],_,_=>.nil
 | x::xs,u::us,hl,h=>.cons (h 0 x u (by simp) (by simp)) (Vals.of_get (by simpa using hl) fun i y v hy hv=>h (i+1) y v (by simpa using hy) (by simpa using hv))
section
variable {X:Cx}
noncomputable def zmd(ta:TA):TE:=fun σ H Q=>ta σ H fun vs H1=>∃ j:Int,vs=[.int j]/\-(2 ^ 62)≤j/\j<2 ^ 62/\∀ r,H1 r=none->Q (.ref r) (upd H1 r (.rng 0 j))
theorem zjG{a:Expr}{ta:TA}{p pos:Pos}(hg:Gl X "range")(hm:X.mg "range"=none)(ha:PA X [a] ta)(hs:starEach [a] X.env=[(false,eval a X.env)]:=by rfl):PE X (.Call (.Name "range" p) [a] [] pos) (zmd ta):=by
 intro pins s σ H Q I h
 refine Call_ (uS I hg hm boot_range (PyProof.Rows.callWith_type1 (thn (ha pos pins s σ H _ I h) fun us s1 ⟨vs,H1,I1,r1,q1⟩=>?_) hs rfl))
 obtain ⟨j,e,q1,q2,q⟩:=q1
 subst e
 cases r1 with
 | cons r rr=>
  cases rr
  obtain ⟨t,rfl⟩:=r
  exact call_range_1 ⟨.ref s1.heap.objs.size,_,I1.laid (o:=.rng 0 j) (fun b o e=>Heap.get?_push_of_some _ e) (Nat.le_refl _) ⟨_,_,_,Heap.get?_push_size _ rfl⟩,rfl,q _ (I1.hok.fresh (Nat.le_refl _))⟩
noncomputable def zhr:List V->Hp->VK->Prop:=fun xs H Q=>∃ r lo hi,xs=[.ref r]/\H r=some (.rng lo hi)/\(-(2 ^ 62)≤lo/\lo<2 ^ 62/\-(2 ^ 62)≤hi/\hi<2 ^ 62)/\(hi - lo).toNat≤100000/\∀ l,H l=none->Q (.ref l) (upd H l (.lst (zcZ lo (hi - lo).toNat)))
theorem ziM(hc:X.calm=true):CallR X (.type "list") zhr:=by
 intro pins s σ H vs us Q I r q
 obtain ⟨a,lo,hi,e,ha,⟨h1,h2,h3,h4⟩,h5,q⟩:=q
 subst e
 cases r with
 | cons r rr=>
  cases rr
  cases r
  obtain ⟨t,u,v,e⟩:=I.hok a _ ha
  refine call_list_range (n:=(hi - lo).toNat) (I.ok.hd hc) (show IsRange s.heap a lo hi 1 t u v from e) (small_one h1 h2 h3 h4) (by rw [rangeSize_one];split<;>omega) (by omega) fun h' tk acc' c' hk hS hacc=>?_
  refine ⟨.ref s.heap.objs.size,_,I.laid (o:=.lst (zcZ lo (hi - lo).toNat)) hk (Nat.le_refl _) ⟨by rw [zcY,sizeLine_eq];omega,acc'.toList,c',Vals.of_get (by rw [zcY,← hacc.1];simp) fun i x u hx hu=>?_,by simpa using hS⟩,rfl,q _ (I.hok.fresh (Nat.le_refl _))⟩
  obtain ⟨_,rfl⟩:=zhm hx
  obtain ⟨t,rfl⟩:=hacc.2 i u (by simpa using hu)
  exact ⟨t,by rw [Int.mul_one]⟩
end
end L2
namespace F
open PySem PySem.Spec PyProof.Rows L2
section
variable {X:Cx} {κ:Nat->Option Nat} {G:Hp} {c:Cat} {a b e:Expr} {fs:FA} {pos:Pos}
noncomputable def zfr(f:FA):FE:=fun env=>(f env).bind fun ps=>if ps.length≤100000 then some (.lst ps) else none
theorem zhl{K:PySem.W.Frag}{H:Hp}(lo:Int)(n:Nat):Rps K H (uA lo n) (zcZ lo n) []:=by
 unfold uA zcZ
 induction (List.range n) with
 | nil=>exact .nil
 | cons x xs ih=>exact Rps.cons (A:=[]) (.mkI _) ih
theorem zjY{K:PySem.W.Frag}{own:Addr->Option Nat}{H H1:Hp}{Q:VK}{lo hi:Int}(s:Same H H1)(hb : -(2 ^ 62)≤lo/\lo<2 ^ 62/\-(2 ^ 62)≤hi/\hi<2 ^ 62)(hl:(hi - lo).toNat≤100000)
  (k:∀ (v:V) (H':Hp) (A:List Addr),Same H H'->Rp K H' (.lst (uA lo (hi - lo).toNat)) v A->(Cat.mv []).ok H own A->Q v H'):∀ r,H1 r=none->zhr [.ref r] (upd H1 r (.rng lo hi)) Q:=fun q hq=>
 ⟨q,lo,hi,rfl,zd,hb,hl,fun l hl'=>by
  have hn:H l=none:=by
   cases z:H l with
   | none=>rfl
   | some o=>have:=ya (o:=.rng lo hi) s (s.free hq) l o z;rw [hl'] at this;cases this
  refine k _ _ [l] (ya (ya s (s.free hq)) hn) (.mkL zd (zhl lo _)) ⟨by simp,fun b hb=>?_⟩
  have e:b=l:=by simpa using hb
  subst e
  exact .inl hn⟩
theorem zfL{p p2 pos2:Pos}(hc:X.calm=true)(hg:Gl X "list")(hm:X.mg "list"=none)(hg2:Gl X "range")(hm2:X.mg "range"=none)(ha:VA X κ G c [a] fs)(hs:starEach [a] X.env=[(false,eval a X.env)]:=by rfl)
  (he:starEach [.Call (.Name "range" p2) [a] [] pos2] X.env=[(false,eval (.Call (.Name "range" p2) [a] [] pos2) X.env)]:=by rfl):
  VE X κ G (.mv []) (.Call (.Name "list" p) [.Call (.Name "range" p2) [a] [] pos2] [] pos) (zfr (vT fs)):=
 (zbu (ziM hc) hg hm Pv.boot_list (yA (zjG hg2 hm2 ha.1 hs) pa_nil) (he:=he)).imp fun σ H Q hq_=>by
 refine hq_.elim fun own env z I hf k=>?_
 unfold zfr vT at hf
 cases hp:fs env with
 | none=>rw [hp] at hf;cases hf
 | some qs=>
  rw [hp,Option.bind_some] at hf
  refine (.in I hp fun vs H1 A s r _=>?_)
  split at hf
  ·split at hf
   ·rename_i j hj
    rw [Option.bind_some] at hf
    split at hf
    ·rename_i hl
     cases hf
     obtain ⟨v,r',A1,A2,h1,h2,h3,h4⟩:=r.inv
     rw [ux] at hl
     exact ⟨j,by rw [h1,h4.inv0.1,h3.I.1],hj.1,hj.2,zjY (own:=own) s ⟨by omega,by omega,hj.1,hj.2⟩ (by simpa using hl) (by rw [Int.sub_zero];exact k)⟩
    ·cases hf
   ·cases hf
  ·cases hf
end
theorem VI.free{K:PySem.W.Frag}{κ:Nat->Option Nat}{G:Hp}{own:Addr->Option Nat}{env:En}{σ:St}{H:Hp}(I:VI K κ G own env σ H):VI K (ko []) G (fun _=>none) env σ H:=
 ⟨I.len,fun i p e=>let ⟨v,A,h1,h2,_⟩:=I.slot i p e;⟨v,A,h1,h2,fun _ _ _=>rfl,fun l z=>absurd z (by simp [ko])⟩,fun a l e=>(nomatch e),I.same⟩
theorem zjn{K:PySem.W.Frag}{κ:Nat->Option Nat}{G:Hp}{f:FE}{σ:St}{H:Hp}{Q:VK}(h:tV K κ G (.mv []) f σ H Q):tV K (ko []) G (.mv []) f σ H Q:=by
 obtain ⟨own,env,p,I,hf,k⟩:=h
 exact ⟨fun _=>none,env,p,I.free,hf,fun v H' A s r hc=>k v H' A s r ⟨hc.1,fun a ha=>(hc.2 a ha).imp id fun ⟨_,z,_⟩=>nomatch z⟩⟩
theorem zjk{X:Cx}{κ:Nat->Option Nat}{G:Hp}{e:Expr}{f:FE}(h:VE X (ko []) G (.mv []) e f):VE X κ G (.mv []) e f:=h.imp fun σ H Q q=>zjn q
end F
namespace L2
open PySem PySem.Spec PyProof.Rows
theorem uT:∀ {ns:List Int} {us:List Value},Vals (ns.map V.int) us->IntsAre us ns
 | [],_,h=>by cases h;exact .nil
 | n::ns,_,h=>by
  cases h with
  | cons r rr=>
   obtain ⟨t,rfl⟩:=r
   exact .cons n t (uT rr)
section
variable {X:Cx}
theorem zdu{its:List Value}{ns:List Int}(hi:IntsAre its ns):∃ xs:Array (Int × Tok),its.toArray=intItems xs/\ns=xs.toList.map (·.1):=by
 obtain ⟨xs,e⟩:=hi.allInts.items
 exact ⟨xs,e,by rw [← hi.numsOf,← nums_intItems,← e]⟩
theorem zgB(hc:X.calm=true):CallR X (.builtin "max") (fun xs H Q=>∃ p,∃ ns:List Int,xs=[.ref p]/\SqL X.K H p (ns.map V.int)/\ns≠[]/\∀ M,M ∈ ns->(∀ a,a ∈ ns->a≤M)->Q (.int M) H):=by
 intro pins s σ H vs us Q I r q
 obtain ⟨p,ns,e,hs,hne,q⟩:=q
 subst e
 cases r with
 | cons r rr=>
  cases rr
  cases r
  obtain ⟨its,rv,hl,_⟩:=I.list hs
  obtain ⟨xs,e,hns⟩:=zdu (uT rv)
  have hsz:0<xs.size:=by
   have h3:=List.length_pos_iff.mpr hne
   rw [hns,List.length_map,Array.length_toList] at h3;exact h3
  refine max_intList (I.ok.hd hc) (by rw [← e];exact hl.isList) hsz fun v h' tk hv hk=>?_
  obtain ⟨t,rfl⟩:=intItems_at hv
  obtain ⟨h1,h2⟩:=argBest_gt (numAt xs) (xs.size - 1)
  refine ⟨.int (numAt xs _),_,I.kept hk,⟨t,rfl⟩,q _ ?_ fun a ha=>?_⟩
  ·rw [hns,numAt_eq];exact getD_mem (by rw [List.length_map,Array.length_toList];omega)
  ·rw [hns] at ha
   obtain ⟨j,hj,rfl⟩:=mem_getD ha
   rw [List.length_map,Array.length_toList] at hj
   rw [← numAt_eq];exact h2 j (by omega)
theorem zbJ(hc:X.calm=true):CallR X (.builtin "sum") (fun xs H Q=>∃ p,∃ ns:List Int,xs=[.ref p]/\SqL X.K H p (ns.map V.int)/\Q (.int ns.sum) H):=by
 intro pins s σ H vs us Q I r q
 obtain ⟨p,ns,e,hs,q⟩:=q
 subst e
 cases r with
 | cons r rr=>
  cases rr
  cases r
  obtain ⟨its,rv,hl,_⟩:=I.list hs
  obtain ⟨xs,e,hns⟩:=zdu (uT rv)
  refine sum_intListG (I.ok.hd hc) (by rw [← e];exact hl.isList) fun h' tk t' hk=>?_
  refine ⟨.int (preSum (numAt xs) xs.size),_,I.kept hk,⟨t',rfl⟩,?_⟩
  have:preSum (numAt xs) xs.size=ns.sum:=by
   rw [hns,preSum_eq,List.take_of_length_le (by simp)]
  rw [this];exact q
end
end L2
namespace F
open PySem PySem.Spec PyProof.Rows L2
noncomputable def vH:List PV->Option (List Int)
 | []=>some []
 | .int i::r=>(vH r).map fun ns=>i::ns
 | _=>none
theorem uE:∀ {ps:List PV} {ns:List Int},vH ps=some ns->ps=ns.map PV.int
 | [],ns,h=>by cases h;rfl
 | p::r,ns,h=>by
  cases p<;>first | (cases h;done) | skip
  rename_i i
  unfold vH at h
  cases hr:vH r with
  | none=>rw [hr] at h;cases h
  | some ms=>
   rw [hr] at h;cases h
   rw [uE hr];rfl
@[simp] theorem uU:∀ (ns:List Int),vH (ns.map PV.int)=some ns
 | []=>rfl
 | n::ns=>by rw [List.map_cons,vH,uU ns];rfl
theorem uw{K:PySem.W.Frag}{H:Hp}:∀ {ns:List Int} {xs:List V} {A:List Addr},Rps K H (ns.map PV.int) xs A->xs=ns.map V.int
 | [],_,_,r=>r.inv0.1
 | n::ns,_,_,r=>by
  obtain ⟨v,r',A1,A2,h1,_,h3,h4⟩:=r.inv
  rw [h1,h3.I.1,uw h4];rfl
noncomputable def zet(x:Int)(r:List Int):Int:=r.foldl (fun m a=>if m<a then a else m) x
theorem zbw:∀ (r:List Int) (x:Int),zet x r ∈ x::r/\∀ a ∈ x::r,a≤zet x r
 | [],x=>by simp [zet]
 | y::r,x=>by
  have h:=zbw r (if x<y then y else x)
  have e:zet x (y::r)=zet (if x<y then y else x) r:=rfl
  rw [e]
  have h1:=h.2 _ List.mem_cons_self
  refine ⟨?_,fun a ha=>?_⟩
  ·rcases List.mem_cons.mp h.1 with z | z
   ·rw [z];split<;>simp
   ·exact List.mem_cons_of_mem _ (List.mem_cons_of_mem _ z)
  ·rcases List.mem_cons.mp ha with rfl | ha
   ·split at h1<;>split<;>omega
   ·rcases List.mem_cons.mp ha with rfl | ha
    ·split at h1<;>split<;>omega
    ·exact h.2 a (List.mem_cons_of_mem _ ha)
noncomputable def zgO:List PV->Option PV
 | [.int a,.int b]=>some (.int (if b > a then b else a))
 | [.lst ps]=>match vH ps with | some (x::r)=>some (.int (zet x r)) | _=>none
 | _=>none
noncomputable def zfM:List PV->Option PV
 | [.lst ps]=>match vH ps with | some ns=>some (.int ns.sum) | _=>none
 | _=>none
theorem zgR{K:PySem.W.Frag}{H:Hp}{a b:Int}{vs:List V}{A:List Addr}(r:Rps K H [.int a,.int b] vs A):vs=[.int a,.int b]:=by
 obtain ⟨v,r',A1,A2,h1,_,h3,h4⟩:=r.inv
 obtain ⟨v',r'',A1',A2',h1',_,h3',h4'⟩:=h4.inv
 rw [h1,h1',h4'.inv0.1,h3.I.1,h3'.I.1]
theorem ziJ{K:PySem.W.Frag}:qI K (fun xs H Q=>(∃ i j:Int,xs=[.int i,.int j]/\Q (.int (if j > i then j else i)) H)∨∃ p,∃ ns:List Int,xs=[.ref p]/\SqL K H p (ns.map V.int)/\ns≠[]/\∀ M,M ∈ ns->(∀ a,a ∈ ns->a≤M)->Q (.int M) H) zgO:=by
 intro H ps vs A z Q r e k
 unfold zgO at e
 split at e
 ·cases e
  exact .inl ⟨_,_,zgR r,k _ H [] (Same.refl _) (.mkI _) .nil (by simp)⟩
 ·rename_i qs
  split at e
  ·rename_i x rr hi
   cases e
   have:=uE hi
   subst this
   obtain ⟨v,rfl,rv⟩:=xl r
   obtain ⟨a,ys,B,e1,h1,_,g⟩:=rv.L
   have:=uw g
   subst this
   refine .inr ⟨a,x::rr,by rw [e1],SqL.of h1,by simp,fun M hM hle=>?_⟩
   have hp:=zbw rr x
   have:M=zet x rr:=by have h2:=hle _ hp.1;have h3:=hp.2 M hM;omega
   rw [this]
   exact k _ H [] (Same.refl _) (.mkI _) .nil (by simp)
  ·cases e
 ·cases e
theorem ziI{K:PySem.W.Frag}:qI K (fun xs H Q=>∃ p,∃ ns:List Int,xs=[.ref p]/\SqL K H p (ns.map V.int)/\Q (.int ns.sum) H) zfM:=by
 intro H ps vs A z Q r e k
 unfold zfM at e
 split at e
 ·split at e
  ·rename_i qs ns hi
   cases e
   have:=uE hi
   subst this
   obtain ⟨v,rfl,rv⟩:=xl r
   obtain ⟨a,ys,B,e1,h1,_,g⟩:=rv.L
   have:=uw g
   subst this
   exact ⟨a,ns,by rw [e1],SqL.of h1,k _ H [] (Same.refl _) (.mkI _) .nil (by simp)⟩
  ·cases e
 ·cases e
theorem ziL{X:Cx}(hc:X.calm=true):CallR X (.builtin "max") (fun xs H Q=>(∃ i j:Int,xs=[.int i,.int j]/\Q (.int (if j > i then j else i)) H)∨∃ p,∃ ns:List Int,xs=[.ref p]/\SqL X.K H p (ns.map V.int)/\ns≠[]/\∀ M,M ∈ ns->(∀ a,a ∈ ns->a≤M)->Q (.int M) H):=(zgC hc).or (zgB hc)
end F
namespace L2
open PySem PySem.Spec PyProof.Rows
end L2
namespace F
open PySem PySem.Spec PyProof.Rows L2
noncomputable def ziT:List PV->Option (List Bool)
 | []=>some []
 | .bl b::r=>(ziT r).map fun bs=>b::bs
 | _=>none
@[simp] theorem zgF:∀ (bs:List Bool),ziT (bs.map PV.bl)=some bs
 | []=>rfl
 | b::bs=>by rw [List.map_cons,ziT,zgF bs];rfl
noncomputable def zht(p:PV)(j:Nat)(q:PV):PV:=match p with | .lst ps=>.lst (ps.set j q) | .tup ps=>.tup (ps.set j q) | p=>p
noncomputable def kO:PV->Option (List PV) | .lst ps=>some ps | .tup ps=>some ps | _=>none
section
variable {X:Cx} {κ:Nat->Option Nat} {G:Hp} {c c2:Cat} {f fk fm:FE} {st:Stmt} {O:List Nat}
theorem VI.turnTu{K:PySem.W.Frag}{own:Addr->Option Nat}{env:En}{σ:St}{H:Hp}{i j:Nat}{ps qs:List PV}(hi:i ∈ O)(I:VI K (ko O) G own env σ H)(hl:zA i env=some (.tup ps))(hj:ps[j]?=some (.lst qs)):
  ∃ a xs b ys B,σ[i]?=some (some (.ref a))/\SqT K H a xs/\xs[j]?=some (.ref b)/\xs.length=ps.length/\H b=some (.lst ys)/\Rps K H qs ys B/\b ∉ B/\B.Nodup/\∀ H1 qs' ys' C,Same H H1->Rps K H1 qs' ys' C->C.Nodup->b ∉ C->(∀ d ∈ C,d ∈ B∨H d=none)->
   ∃ own',VI K (ko O) G own' (env.set i (some (.tup (ps.set j (.lst qs'))))) σ (upd H1 b (.lst ys'))/\Ext own H own' (upd H1 b (.lst ys')):=by
 obtain ⟨v,A,hσ,h2,_,h3⟩:=I.slot i _ (wW hl)
 obtain ⟨nd,hB⟩:=h3 i (vE hi)
 obtain ⟨a,xs,rfl,ha,hr⟩:=h2.T
 obtain ⟨l1,l2,rfl,rfl⟩:=qO hj
 obtain ⟨v1,v2,A1,A2,rfl,rfl,r1,r2⟩:=hr.split
 obtain ⟨v,r',A3,A4,rfl,rfl,r3,r4⟩:=r2.inv
 obtain ⟨b,ys,B',rfl,hb,rfl,r5⟩:=r3.L
 have n1:=r1.length
 rw [List.nodup_append,List.nodup_append,List.nodup_cons] at nd
 simp only [List.mem_append,List.mem_cons] at nd hB
 obtain ⟨nd1,⟨⟨nbB,ndB⟩,nd4,d34⟩,d1⟩:=nd
 refine ⟨a,_,b,ys,B',hσ,ha,by rw [n1];simp,hr.length.symm,hb,r5,nbB,ndB,fun H1 qs' ys' C s1 rC ndC nbC hC=>?_⟩
 have mb:MutH H1 b:=.inl ⟨ys,s1 _ _ hb⟩
 have nb1:b ∉ A1:=fun z=>d1 b z b (.inl (.inl rfl)) rfl
 have nb4:b ∉ A4:=fun z=>d34 b (.inl rfl) b z rfl
 have nC:∀ d ∈ C,d ∉ A1/\d ∉ A4:=fun d hd=>by
  rcases hC d hd with z | z
  ·exact ⟨fun e=>d1 d e d (.inl (.inr z)) rfl,fun e=>d34 d (.inr z) d e rfl⟩
  ·refine ⟨fun e=>?_,fun e=>?_⟩
   ·obtain ⟨o,q⟩:=(Rps.mut _ r1 d e).some;rw [z] at q;cases q
   ·obtain ⟨o,q⟩:=(Rps.mut _ r4 d e).some;rw [z] at q;cases q
 have hob:own b=some i:=hB b (.inr (.inl (.inl rfl)))
 have hA:(A1++((b::C)++A4)).Nodup:=by
  rw [List.nodup_append,List.nodup_append,List.nodup_cons]
  simp only [List.mem_append,List.mem_cons]
  refine ⟨nd1,⟨⟨nbC,ndC⟩,nd4,fun d hd d' hd' e=>?_⟩,fun d hd d' hd' e=>?_⟩
  ·subst e
   rcases hd with rfl | hd
   ·exact nb4 hd'
   ·exact (nC d hd).2 hd'
  ·subst e
   rcases hd' with (rfl | hd') | hd'
   ·exact nb1 hd
   ·exact (nC d hd').1 hd
   ·exact d1 d hd d (.inr hd') rfl
 have hown:∀ d ∈ A1++((b::C)++A4),own d=some i∨H d=none:=fun d hd=>by
  simp only [List.mem_append,List.mem_cons] at hd
  rcases hd with hd | (rfl | hd) | hd
  ·exact .inl (hB d (.inl hd))
  ·exact .inl hob
  ·rcases hC d hd with z | z
   ·exact .inl (hB d (.inr (.inl (.inr z))))
   ·exact .inr z
  ·exact .inl (hB d (.inr (.inr hd)))
 rw [zca]
 have r:Rp K (upd H1 b (.lst ys')) (.tup (l1++.lst qs'::l2)) (.ref a) (A1++((b::C)++A4)):=
  .mkT (mb.tup (Same.tup s1 ha)) ((Rps.upd mb _ nb1 (Rps.same s1 _ r1)).append (Rps.cons (.mkL zd (Rps.upd mb _ nbC rC)) (Rps.upd mb _ nb4 (Rps.same s1 _ r4))))
 have:=I.take (H2:=upd H1 b (.lst ys')) (v:=.ref a) hi (fun m q w D _ _ z hD=>Rp.upd mb q (fun z'=>hD b z' hob) (Rp.same s1 q z)) (fun d u hd z=>by
  rw [zk (by rintro rfl;exact hd hob)];exact s1 d u z) r hA hown
 rw [kG hσ] at this
 exact ⟨_,this⟩
theorem VI.inner{K:PySem.W.Frag}{own:Addr->Option Nat}{env:En}{σ:St}{H:Hp}{i j:Nat}{p:PV}{ps qs:List PV}(hi:i ∈ O)(I:VI K (ko O) G own env σ H)(hl:zA i env=some p)(hp:kO p=some ps)(hj:ps[j]?=some (.lst qs)):
  ∃ a xs b ys B,σ[i]?=some (some (.ref a))/\(SqL K H a xs∨SqT K H a xs)/\xs[j]?=some (.ref b)/\xs.length=ps.length/\H b=some (.lst ys)/\Rps K H qs ys B/\b ∉ B/\B.Nodup/\∀ H1 qs' ys' C,Same H H1->Rps K H1 qs' ys' C->C.Nodup->b ∉ C->(∀ d ∈ C,d ∈ B∨H d=none)->
   ∃ own',VI K (ko O) G own' (env.set i (some (zht p j (.lst qs')))) σ (upd H1 b (.lst ys'))/\Ext own H own' (upd H1 b (.lst ys')):=by
 cases p<;>first | (cases hp;done) | skip
 ·cases hp
  obtain ⟨a,xs,b,ys,B,h1,h2,h3⟩:=VI.turnTu hi I hl hj
  exact ⟨a,xs,b,ys,B,h1,.inr h2,h3⟩
 ·cases hp
  obtain ⟨a,xs,b,ys,B,h1,h2,h3⟩:=VI.turnIn hi I hl hj
  exact ⟨a,xs,b,ys,B,h1,.inl (SqL.of h2),h3⟩
noncomputable def zeB(i:Nat)(fk:FE)(m:En->List PV->Option (List PV)):FS:=fun env=>(zA i env).bind fun p=>(fk env).bind fun k=>(kO p).bind fun ps=>match k with
 | .int z=>(ixN ps.length z).bind fun j=>match ps[j]? with
  | some (.lst qs)=>(m env qs).map fun qs'=>.nx (env.set i (some (zht p j (.lst qs'))))
  | _=>none
 | _=>none
theorem zgn{i:Nat}{m:En->List PV->Option (List PV)}{env:En}{o:Out}(hf:zeB i fk m env=some o):
  ∃ p ps z j qs qs',zA i env=some p/\fk env=some (.int z)/\kO p=some ps/\ixN ps.length z=some j/\ps[j]?=some (.lst qs)/\m env qs=some qs'/\o=.nx (env.set i (some (zht p j (.lst qs')))):=by
 unfold zeB at hf
 replace hf:=Option.bind_eq_some_iff.mp hf;obtain ⟨p,hl,hf⟩:=hf
 replace hf:=Option.bind_eq_some_iff.mp hf;obtain ⟨kk,hk,hf⟩:=hf
 replace hf:=Option.bind_eq_some_iff.mp hf;obtain ⟨ps,hp,hf⟩:=hf
 split at hf
 case h_2=>cases hf
 rename_i z
 replace hf:=Option.bind_eq_some_iff.mp hf;obtain ⟨j,hj,hf⟩:=hf
 split at hf
 case h_2=>cases hf
 rename_i qs hqs
 cases hm:m env qs with
 | none=>rw [hm] at hf;cases hf
 | some qs'=>
  rw [hm] at hf;cases hf
  exact ⟨p,ps,z,j,qs,qs',hl,hk,hp,hj,hqs,hm,rfl⟩
theorem zkU{K:PySem.W.Frag}{H:Hp}{a b:Addr}{xs:List V}{z:Int}{j n:Nat}{Q:VK}(hx:SqL K H a xs∨SqT K H a xs)(hn:xs.length=n)(hj:ixN n z=some j)(hb:xs[j]?=some (.ref b))(q:Q (.ref b) H):rIx K (.ref a) (.int z) H Q:=by
 have:L2.atI xs z=some (.ref b):=by unfold L2.atI;rw [hn,hj];exact hb
 rcases hx with hx | hx
 ·exact .inl ⟨a,xs,z,_,rfl,rfl,hx,this,q⟩
 ·exact .inr (.inl ⟨a,xs,z,_,rfl,rfl,hx,this,q⟩)
theorem zjr{K:PySem.W.Frag}{H H1:Hp}{a:Addr}{xs:List V}(s:Same H H1)(hx:SqL K H a xs∨SqT K H a xs):SqL K H1 a xs∨SqT K H1 a xs:=hx.imp (Same.seq s) (Same.tup s)
noncomputable def jN(f:FE):En->List PV->Option (List PV):=fun env qs=>(f env).bind fun q=>if qs.length<100000 then some (qs++[q]) else none
theorem k9(i:Nat)(hi:i ∈ O)(hp:PS X st (zbp (tBM X.K "list" kJ (tOp (rIx X.K) (uJ i) (tV X.K (ko O) G c fk)) (qi (tV X.K (ko O) G (.mv []) f) zea)))):VS X (ko O) G st (zeB i fk (jN f)):=hp.imp fun D σ H hq_=>by
 refine hq_.elim fun own env o I hf k=>?_
 obtain ⟨p,ps,z,j,qs,qs',hl,hk,hit,hj,hqs,hm,rfl⟩:=zgn hf
 unfold jN at hm
 replace hm:=Option.bind_eq_some_iff.mp hm;obtain ⟨q,hq,hm⟩:=hm
 split at hm
 case isFalse=>cases hm
 rename_i hlen
 cases hm
 obtain ⟨a,xs,b,ys,B,hσ,ha,hx,hxl,hb,hr,nb,ndB,turn⟩:=VI.inner hi I hl hit hqs
 refine ⟨.ref a,hσ,.in I hk fun y H1 _ s1 r1 _=>?_⟩
 rw [r1.I.1]
 refine zkU (zjr s1 ha) hxl hj hx ⟨.inl ⟨rfl,ys,SqL.of (s1 _ _ hb)⟩,.in (I.grow s1) hq fun v H2 C s2 r2 c2=>?_⟩
 have s12:=s1.trans s2
 refine ⟨b,ys,v,rfl,rfl,s12 _ _ hb,by rw [← hr.length,sizeLine_eq];omega,?_⟩
 have fr:∀ d ∈ C,H1 d=none:=fun d hd=>(c2.2 d hd).elim id fun ⟨_,z,_⟩=>nomatch z
 have fr0:∀ d ∈ C,H d=none:=fun d hd=>s1.free (fr d hd)
 obtain ⟨own',h1,h2⟩:=turn H2 (qs++[q]) (ys++[v]) (B++C) s12 ((Rps.same s12 _ hr).append (Rps.one r2)) (List.nodup_append.mpr ⟨ndB,c2.1,fun d hd d' hd' e=>by
   subst e
   obtain ⟨o,ho⟩:=(Rps.mut _ hr d hd).some
   rw [fr0 d hd'] at ho;cases ho⟩)
  (fun z=>by
   rcases List.mem_append.mp z with z | z
   ·exact nb z
   ·have:=fr0 b z
    rw [hb] at this;cases this)
  (fun d hd=>(List.mem_append.mp hd).imp id (fr0 d))
 exact k _ _ _ h1 h2
end
end F
namespace L2
open PySem PySem.Spec PyProof.Rows
noncomputable def Ite (K : PySem.W.Frag) (a : Addr) : It :=
  ⟨fun i H => ∃ xs x, SqL K H a xs ∧ xs[i]? = some x,
   fun i H v H' => ∃ T x, H T = none ∧ v = .ref T ∧ H' = upd H T (.tup [.int (i : Int), x]) ∧ ∀ xs, SqL K H a xs → xs[i]? = some x,
   fun i H => ∃ xs, SqL K H a xs ∧ xs.length ≤ i⟩
theorem zfP{P:Program}{w:World}{K:PySem.W.Frag}{es:List Expr}{k:Nat}{pos:Pos}(a e it:Addr)(hei:e≠it):
  Turn P w K (.Tuple es k pos) (Ite K a) [e,it] e (fun i h=>(∃ old,IsEnum h e it (i:Nat) old)/\h.IsListIter it a i) where
 mem:=by simp
 obj:=by
  rintro i h ⟨⟨old,ge⟩,gi⟩ b hb
  simp only [List.mem_cons,List.not_mem_nil,or_false] at hb
  rcases hb with rfl | rfl
  ·exact ⟨_,ge,fun v z=>nomatch z⟩
  ·obtain ⟨o,ho,_,d⟩:=gi
   exact ⟨o,ho,fun v z=>by rw [d] at z;cases z⟩
 keep:=by
  rintro i h h' ⟨⟨old,ge⟩,gi⟩ kk
  obtain ⟨o,ho,r⟩:=gi
  exact ⟨⟨old,kk e (by simp) _ ge⟩,⟨o,kk it (by simp) o ho,r⟩⟩
 item:=by
  rintro X hP hw hK hc i pins s σ H E I hf ⟨⟨old,ge⟩,gi⟩ ⟨xs,x,hx,ex⟩
  subst hP hw hK
  obtain ⟨its,r1,c1,_⟩:=I.list hx
  obtain ⟨u,hu,ru⟩:=r1.get ex
  have hsq:Sq X.K H true a xs:=hx
  have ne1:a≠e:=hsq.ne I (hf e (by simp))
  have ne2:a≠it:=hsq.ne I (hf it (by simp))
  refine wpAny_pyNext_enum_item ge gi c1.isList (x:=u) (by simpa using hu) hei fun h' ho hit' hT hsz hk=>⟨_,rfl,?_⟩
  refine wpAny_letOwnedTupleGo_enum ho fun h₂ he₂ s₂=>?_
  have hH:H s.heap.objs.size=none:=I.hok.fresh (Nat.le_refl _)
  have nz:s.heap.objs.size≠e:=Nat.ne_of_gt (Heap.lt_size ge)
  have kk:∀ b o,b ∉ [e,it]->s.heap.get? b=some o->h₂.get? b=some o:=fun b o hb q=>by
   simp only [List.mem_cons,List.not_mem_nil,or_false,not_or] at hb
   exact (s₂.2 b hb.1).trans (hk b o hb.1 hb.2 q)
  have T2:h₂.get? s.heap.objs.size=some { cls:=.type "tuple",data:=.seq #[.int (i:Nat) s.toks,u] }:=(s₂.2 _ nz).trans hT
  have I2:=I.turnedLaid (t':=s.toks+1) (h':=h₂) (o':=.tup [.int (i:Int),x]) kk hf (Nat.le_refl _) ⟨by simp [sizeLine],[.int (i:Nat) s.toks,u],.cons ⟨_,rfl⟩ (.cons ru .nil),⟨_,T2,rfl,_,rfl⟩⟩
  refine ⟨.ref s.heap.objs.size,_,I2,rfl,⟨_,x,hH,rfl,rfl,fun xs' h1=>?_⟩,⟨⟨u,by simpa using he₂⟩,hit'.at fun o q=>(s₂.2 it hei.symm).trans q⟩,fun b hb=>?_⟩
  ·rw [I.list_inj h1 hx];exact ex
  ·rw [zk (fun n=>?_)]
   ·exact (hf b hb).1
   ·have:b<s.heap.objs.size:=by
     simp only [List.mem_cons,List.not_mem_nil,or_false] at hb
     rcases hb with rfl | rfl
     ·exact Heap.lt_size ge
     ·obtain ⟨o,q,_⟩:=gi;exact Heap.lt_size q
    exact absurd n (Nat.ne_of_lt this)
 done:=by
  rintro X hP hw hK hc i pins s σ H E I hf ⟨⟨old,ge⟩,gi⟩ ⟨xs,hx,hl⟩
  subst hP hw hK
  obtain ⟨its,r1,c1,_⟩:=I.list hx
  have l1:=r1.length
  refine wpAny_pyNext_enum_end (I.ok.hd hc) ge gi c1.isList (by simpa [← l1] using hl) fun h' hk=>⟨rfl,I.turnedL (t':=s.toks) (L:=[e,it]) (fun b o hb q=>hk b o (fun n=>hb (by simp [n])) q) hf⟩
 self:=fun _ _ _ _ _ st h=>let ⟨⟨_,ge⟩,_⟩:=st;wpAny_pyIter_enum ge h
noncomputable def zkF(K:PySem.W.Frag)(ta:TA):TI:=fun σ H R=>ta σ H fun vs H1=>∃ a,vs=[.ref a]/\(∃ xs,SqL K H1 a xs)/\R (Ite K a) H1
theorem zjF{X:Cx}{es:List Expr}{k:Nat}{tpos:Pos}{a:Expr}{ta:TA}{p pos:Pos}(hg:Gl X "enumerate")(hm:X.mg "enumerate"=none)(ha:PA X [a] ta)(hs:starEach [a] X.env=[(false,eval a X.env)]:=by rfl):
  PI X (.Tuple es k tpos) (.Call (.Name "enumerate" p) [a] [] pos) (zkF X.K ta):=by
 intro pins s σ H R I h
 refine Call_ (uS I hg hm boot_enumerate (PyProof.Rows.callWith_type1 (thn (ha pos pins s σ H _ I h) fun us s1 ⟨vs,H1,I1,r1,q1⟩=>?_) hs rfl))
 obtain ⟨a1,e,⟨xs,hx⟩,q⟩:=q1
 subst e
 cases r1 with
 | cons r rr=>
  cases rr
  cases r
  obtain ⟨its1,v1,c1,_⟩:=I1.list hx
  refine call_enumerate_list c1.isList fun h' ge gi hsz kk=>?_
  refine wpAny_pyIter_enum ge ?_
  refine ⟨s1.heap.objs.size+1,[s1.heap.objs.size+1,s1.heap.objs.size],_,_,H1,rfl,I1.kept (t':=s1.toks) kk,zfP a1 _ _ (by show ¬ s1.heap.objs.size+1=s1.heap.objs.size;omega),⟨⟨_,ge⟩,gi⟩,fun c hc=>?_,q⟩
  have hc':s1.heap.objs.size≤c:=by
   simp only [List.mem_cons,List.not_mem_nil,or_false] at hc
   rcases hc with rfl | rfl<;>omega
  exact I1.fpOk hc' (I1.hok.fresh hc')
end L2
namespace F
open PySem PySem.Spec PyProof.Rows L2
noncomputable def zmm:PV->Option (List PV) | .lst ps=>some ps | .fls ps=>some ps | _=>none
noncomputable def jc(ps:List PV):List PV:=ps.zipIdx.map fun z=>PV.tup [.int (z.2:Int),z.1]
theorem zhY{K:PySem.W.Frag}{own:Addr->Option Nat}{H1:Hp}{p:PV}{v:V}{A:List Addr}{ps:List PV}(lp:Bool)(hm:∀ a l,own a=some l->MutH H1 a)(r:Rp K H1 p v A)(hA:∀ a ∈ A,own a=none)(hs:zmm p=some ps):
  ∃ a xs B,v=.ref a/\Rps K H1 ps xs B/\(∀ a ∈ B,own a=none/\∃ o,H1 a=some o)/\∀ H2,(if lp=true then Stay own H1 H2 else Same H1 H2)->SqL K H2 a xs/\Rps K H2 ps xs B:=by
 cases p<;>first | (cases hs;done) | skip
 ·cases hs
  obtain ⟨a,xs,B,h1,h2,rfl,h3⟩:=r.L
  refine ⟨a,xs,B,h1,h3,fun b hb=>⟨hA b (List.mem_cons_of_mem _ hb),(Rps.mut _ h3 b hb).some⟩,fun H2 hR=>?_⟩
  cases lp with
  | true=>exact ⟨SqL.of (hR _ _ (hA a List.mem_cons_self) h2),Rps.stay hR hm _ (fun b hb=>hA b (List.mem_cons_of_mem _ hb)) h3⟩
  | false=>exact ⟨SqL.of (hR _ _ h2),Rps.same hR _ h3⟩
 ·cases hs
  obtain ⟨a,xs,h1,h2,h3⟩:=r.Fl
  refine ⟨a,xs,A,h1,h3,fun b hb=>⟨hA b hb,(Rps.mut _ h3 b hb).some⟩,fun H2 hR=>?_⟩
  cases lp with
  | true=>exact ⟨(Stay.fz hR hm h2).seq,Rps.stay hR hm _ hA h3⟩
  | false=>exact ⟨(h2.same hR).seq,Rps.same hR _ h3⟩
theorem zjc{K:PySem.W.Frag}{own:Addr->Option Nat}{H1:Hp}{R:Hp->Prop}{a1:Addr}{ps:List PV}{xs:List V}{A:List Addr}
  (hA:∀ a ∈ A,own a=none/\∃ o,H1 a=some o)(h1:∀ H2,R H2->SqL K H2 a1 xs/\Rps K H2 ps xs A):Walks K own H1 R (Ite K a1) (jc ps):=by
 intro i H2 hR
 obtain ⟨q1,r1⟩:=h1 H2 hR
 refine ⟨fun p hp=>?_,fun hi=>⟨xs,q1,by rw [← r1.length];simpa [jc] using hi⟩⟩
 unfold jc at hp
 rw [List.getElem?_map] at hp
 obtain ⟨z,hz,hp⟩:=Option.map_eq_some_iff.mp hp
 subst hp
 rw [List.getElem?_zipIdx] at hz
 obtain ⟨p,z1,rfl⟩:=Option.map_eq_some_iff.mp hz
 obtain ⟨u,C,e1,e2,e3⟩:=r1.get z1
 refine ⟨⟨xs,u,q1,e1⟩,fun x H3 ⟨T,x',hT,ex,eH,hy⟩=>?_⟩
 have g1:=hy xs q1
 rw [e1] at g1;cases g1
 have sm:Same H2 H3:=by rw [eH];exact ya (Same.refl _) hT
 refine ⟨sm,C,?_,fun a ha=>hA a (e3.subset ha)⟩
 rw [ex]
 refine .mkT (.inl (.inl (by rw [eH,zd]))) ?_
 have:=Rps.cons (K:=K) (H:=H3) (.mkI (((0+i:Nat)):Int)) (Rps.one (Rp.same sm _ e2))
 simpa using this
end F
namespace L2
open PySem PySem.Spec PyProof.Rows
theorem j9:∀ {ns:List Int} {us:List Value},IntsAre us ns->Vals (ns.map V.int) us
 | _,_,.nil=>.nil
 | _,_,.cons n t r=>.cons ⟨t,rfl⟩ (j9 r)
end L2
namespace F
open PySem PySem.Spec PyProof.Rows L2
noncomputable def zey(a:Int):List Int->List Int
 | []=>[a]
 | b::r=>if a≤b then a::b::r else b::zey a r
noncomputable def qp(ns:List Int):List Int:=ns.foldr zey []
theorem kr(a:Int):∀ l,(zey a l).Perm (a::l)
 | []=>.refl _
 | b::r=>by
  unfold zey
  split
  ·exact .refl _
  ·exact ((kr a r).cons b).trans (.swap a b r)
theorem qE(a:Int):∀ l,l.Pairwise (·≤·)->(zey a l).Pairwise (·≤·)
 | [],_=>by simp [zey]
 | b::r,h=>by
  unfold zey
  have h':=List.pairwise_cons.mp h
  split
  ·rename_i c
   refine List.pairwise_cons.mpr ⟨fun x hx=>?_,h⟩
   rcases List.mem_cons.mp hx with rfl | hx
   ·exact c
   ·have:=h'.1 x hx;omega
  ·rename_i c
   refine List.pairwise_cons.mpr ⟨fun x hx=>?_,qE a r h'.2⟩
   rcases List.mem_cons.mp ((kr a r).mem_iff.mp hx) with rfl | hx
   ·omega
   ·exact h'.1 x hx
theorem uK:∀ ns:List Int,(qp ns).Perm ns
 | []=>.refl _
 | n::ns=>(kr n (qp ns)).trans ((uK ns).cons n)
theorem kD:∀ ns:List Int,(qp ns).Pairwise (·≤·)
 | []=>.nil
 | n::ns=>qE n _ (kD ns)
theorem zbr:∀ {xs ys:List Int},xs.Perm ys->xs.Pairwise (·≤·)->ys.Pairwise (·≤·)->xs=ys
 | [],ys,p,_,_=>(List.nil_perm.mp p).symm
 | x::xs,ys,p,hx,hy=>by
  cases ys with
  | nil=>exact absurd p.length_eq (by simp)
  | cons y ys=>
   have hx':=List.pairwise_cons.mp hx
   have hy':=List.pairwise_cons.mp hy
   have e:x=y:=by
    have h1:y≤x:=by
     rcases List.mem_cons.mp (p.mem_iff.mp List.mem_cons_self) with z | z
     ·omega
     ·exact hy'.1 x z
    have h2:x≤y:=by
     rcases List.mem_cons.mp (p.mem_iff.mpr List.mem_cons_self) with z | z
     ·omega
     ·exact hx'.1 y z
    omega
   subst e
   rw [zbr (List.Perm.cons_inv p) hx'.2 hy'.2]
theorem kQ{K:PySem.W.Frag}{H:Hp}:∀ ns:List Int,Rps K H (ns.map PV.int) (ns.map V.int) []
 | []=>.nil
 | n::ns=>Rps.cons (A:=[]) (.mkI n) (kQ ns)
theorem qZ{K:PySem.W.Frag}{H:Hp}:∀ {ks:List Key} {ps:List PV} {xs:List V} {A:List Addr} {k:Key},Rps K H ps xs A->ks.length=ps.length->ue ks ps k=none->wj (ks.zip xs) k=none
 | [],_,_,_,_,_,_,_=>by simp [wj]
 | k'::ks,[],_,_,_,_,hl,_=>by simp at hl
 | k'::ks,q::ps,_,_,k,r,hl,h=>by
  obtain ⟨w,r',A1,A2,rfl,rfl,h3,h4⟩:=r.inv
  unfold ue at h
  rw [List.zip_cons_cons,List.find?_cons] at h
  by_cases hk:k'=k
  ·subst hk
   simp at h
  ·have:decide (k'=k)=false:=decide_eq_false hk
   rw [show decide ((k',q).1=k)=false from this] at h
   have g1:=qZ (ks:=ks) (k:=k) h4 (by simpa using hl) h
   rw [List.zip_cons_cons]
   unfold wj at g1 ⊢
   rw [List.find?_cons,show decide ((k',w).1=k)=false from this]
   exact g1
noncomputable def vF:PV->Option Key | .int i=>some (.inl i) | .str x=>some (.inr x) | _=>none
theorem kM{K:PySem.W.Frag}{H:Hp}{p:PV}{v:V}{A:List Addr}{k:Key}(h:vF p=some k)(r:Rp K H p v A):v=kV k:=by
 cases p<;>first | (cases h;done) | skip
 ·cases h;exact r.I.1
 ·cases h;exact r.S.1
noncomputable def zjm(d k x:PV):Option PV:=match d with
 | .dct ks ps=>if (isDatas ps && zw x)=true then (vF k).map fun key=>(ue ks ps key).getD x else none
 | _=>none
noncomputable def zkf(fd fk fx:FE):FE:=fun env=>(fd env).bind fun d=>(fk env).bind fun k=>(fx env).bind fun x=>zjm d k x
theorem zlD{K:PySem.W.Frag}{H:Hp}{ks:List Key}{ps:List PV}{xs:List V}{a:Addr}{key:Key}{x:PV}{w:V}(hl:ks.length=ps.length)(hd:isDatas ps=true)(ha:H a=some (.dK (ks.zip xs)))(r:Rps K H ps xs [])(rx:Rp K H x w []):
  ∃ o,DGet H a (kV key) o/\Rp K H ((ue ks ps key).getD x) (o.getD w) []:=by
 refine ⟨_,DGet.k ha,?_⟩
 cases hg:ue ks ps key with
 | none=>rw [qZ r hl hg];exact rx
 | some p=>
  obtain ⟨v,C,h1,h2,h3⟩:=j5 r hg
  have:=List.sublist_nil.mp h3
  subst this
  rw [h1]
  exact h2
section
variable {X:Cx} {κ:Nat->Option Nat} {G:Hp} {c c1 c2:Cat} {o e f:Expr} {fd fk fx:FE} {apos cpos:Pos}
theorem zeR(hu:X.A.units+1<cLine)(ho:VE X κ G c o fd)(he:VE X κ G c1 e fk)(hf:VE X κ G c2 f fx)(m:M2 X o "get" apos e f cpos):VE X κ G (.mv []) (.Call (.Attribute o "get" apos) [e,f] [] cpos) (zkf fd fk fx):=
 (zdd hu ho he hf m).imp fun σ H Q hq_=>by
 refine hq_.elim fun own env z I h k=>?_
 unfold zkf at h
 replace h:=Option.bind_eq_some_iff.mp h;obtain ⟨d,hd,h⟩:=h
 replace h:=Option.bind_eq_some_iff.mp h;obtain ⟨kk,hk,h⟩:=h
 replace h:=Option.bind_eq_some_iff.mp h;obtain ⟨x,hx,h⟩:=h
 unfold zjm at h
 split at h
 ·rename_i ks ps
  split at h
  ·rename_i hdat
   rw [Bool.and_eq_true] at hdat
   cases hkey:vF kk with
   | none=>rw [hkey] at h;cases h
   | some key=>
    rw [hkey] at h;cases h
    refine (.in I hd fun v H1 A s1 r1 _=>?_)
    obtain ⟨a,ys,B,e1,h1,hl,_,g⟩:=r1.D
    have:=Rps.data _ hdat.1 g
    subst this
    refine ⟨a,e1,.inl ⟨_,.inl h1⟩,.in (I.grow s1) hk fun y H2 _ s2 r2 _=>(.in ((I.grow s1).grow s2) hx fun w H3 A3 s3 r3 _=>?_)⟩
    have eA:=Rp.data x hdat.2 r3
    subst eA
    have s23:=s2.trans s3
    obtain ⟨ov,q1,q2⟩:=zlD (key:=key) hl hdat.1 (s23 _ _ h1) (Rps.same s23 _ g) r3
    rw [kM hkey r2]
    exact ⟨ov,q1,k _ H3 [] (s1.trans s23) q2 ⟨.nil,by simp⟩⟩
  ·cases h
 ·cases h
end
end F
namespace L2
open PySem PySem.Spec PyProof.Rows
noncomputable abbrev itT(h:Heap)(l:Addr):Heap:=h.push { cls:=.type "tuple_iterator",data:=.fields #[.ref l,.int 0 0] }
noncomputable abbrev enT(h:Heap)(l:Addr):Heap:=(itT h l).push { cls:=.type "enumerate",data:=.fields #[.none,.bool false,.ref h.objs.size,rawInt 0,.none,.none] }
theorem zeq(l:Addr)(zs:Array Value)(m:Nat)(dd:Option Addr)(ss:Array (Option Value)):
  Meets (Builtin.«enumerate.__new__» ⟨[.type "enumerate",.ref l],[]⟩) (fun _ R s=>s.heap.get? l=some { cls:=.type "tuple",dict:=dd,data:=.seq zs m,slots:=ss }/\R (.ok (.ret (.ref (itT s.heap l).objs.size))) { s with heap:=enT s.heap l }):=
 .of_wp fun P w A R s hz=>by
  obtain ⟨hp,gg,dr,tk,os⟩:=s
  obtain ⟨hl,hz⟩:=hz
  have sub:=sub_enumerate
  have hT:Heap.IsTuple (Shared.heap ⟨hp,gg,dr,tk,os⟩) l zs:=⟨_,hl,rfl,m,rfl⟩
  wp_walk using AutoSeq1.wpAny_loadPart' hl
  refine wpAny_stack_any fun st=>wpAny_pure ?_
  split
  ·rename_i c _ _ _ _ _
   cases (c == Value.type "enumerate")<;>(wp_walk using AutoSeq1.wpAny_loadPart' hl,wpAny_pyIter_tuple hT;exact ⟨_,rfl,hz⟩)
  ·wp_walk using AutoSeq1.wpAny_loadPart' hl,wpAny_pyIter_tuple hT
   exact ⟨_,rfl,hz⟩
theorem zeJ{prog:Program}{w:World}{A:Around}{E:Value->Shared->Prop}{s:Shared}{l:Addr}{zs:Array Value}{Q:Value->Shared->Prop}(hT:s.heap.IsTuple l zs)
  (k:∀ h',IsEnum h' (s.heap.objs.size+1) s.heap.objs.size 0 .none->h'.IsTupleIter s.heap.objs.size l 0->(∀ b o,s.heap.get? b=some o->h'.get? b=some o)->Q (.ref (s.heap.objs.size+1)) { s with heap:=h' }):
  wpAny (model prog w) A (call (.type "enumerate") [.ref l]) Q E s:=by
 obtain ⟨⟨c,dd,dt,ss⟩,hl,hc,m,hd⟩:=hT
 replace hc:c=.type "tuple":=hc
 replace hd:dt=.seq zs m:=hd
 subst hc hd
 refine callType_new F.called_enumerate (by decide) (F.typeCall_enumerate_1 _) (F.newCall_enumerate_1 _) (fun o=>F.args_object_init_2 o _) F.entry_enumerate_new (zeq l zs m dd ss) ⟨hl,?_⟩
 have z1:(itT s.heap l).objs.size=s.heap.objs.size+1:=Heap.size_push ..
 show _/\_
 rw [z1]
 have he:IsEnum (enT s.heap l) (s.heap.objs.size+1) s.heap.objs.size 0 .none:=by
  have e:=Heap.get?_push_size (itT s.heap l) (o:={ cls:=.type "enumerate",data:=.fields #[.none,.bool false,.ref s.heap.objs.size,rawInt 0,.none,.none] }) rfl
  rw [z1] at e;exact e
 exact ⟨⟨_,he,rfl⟩,k _ he ⟨_,Heap.get?_push_of_some _ (Heap.get?_push_size _ rfl),rfl,rfl⟩ fun b o x=>Heap.get?_push_of_some _ (Heap.get?_push_of_some _ x)⟩
theorem zgq{P:Program}{w:World}{A:Around}{it c:Addr}{its:Array Value}(hh:A.handled=none)(hne:c≠it):
  Draws P w A it [it,c] its.size (fun i x=>its[i]?=some x) (fun i h=>h.IsTupleIter it c i/\h.IsTuple c its) where
 live:=fun i h ⟨⟨o,e,_⟩,_⟩=>⟨o,e⟩
 frame:=fun i h h' ⟨⟨o,e,r⟩,⟨o',e',r'⟩⟩ k=>⟨⟨o,k it (by simp) o e,r⟩,⟨o',k c (by simp) o' e',r'⟩⟩
 item:=fun i s Q E hi ⟨gi,gt⟩ k=>zan gi gt (x:=its[i]) (Array.getElem?_eq_getElem hi) fun h' gi' sb=>k _ h' s.toks (Array.getElem?_eq_getElem hi) ⟨gi',let ⟨o,e,r⟩:=gt;⟨o,(sb.2 c hne).trans e,r⟩⟩ sb
 done:=fun s Q E ⟨gi,gt⟩ k=>vD hh gi gt (by simp) k
theorem zgr{P:Program}{w:World}{A:Around}{it c:Addr}{its:Array Value}{n:Nat}(hh:A.handled=none)(hx:its[n]?=none):
  Draws P w A it [it,c] n (fun _ _=>False) (fun i h=>i=n/\h.IsTupleIter it c i/\h.IsTuple c its) where
 live:=fun i h ⟨_,⟨o,e,_⟩,_⟩=>⟨o,e⟩
 frame:=fun i h h' ⟨q,⟨o,e,r⟩,⟨o',e',r'⟩⟩ k=>⟨q,⟨o,k it (by simp) o e,r⟩,⟨o',k c (by simp) o' e',r'⟩⟩
 item:=fun i s Q E hi ⟨q,_⟩ k=>absurd hi (by omega)
 done:=fun s Q E ⟨_,gi,gt⟩ k=>vD hh gi gt hx k
noncomputable def zlW (K : PySem.W.Frag) (a : Addr) : It :=
  ⟨fun i H => ∃ xs x, SqT K H a xs ∧ xs[i]? = some x,
   fun i H v H' => ∃ T x, H T = none ∧ v = .ref T ∧ H' = upd H T (.tup [.int (i : Int), x]) ∧ ∀ xs, SqT K H a xs → xs[i]? = some x,
   fun i H => ∃ xs, SqT K H a xs ∧ xs.length ≤ i⟩
theorem zdW{P:Program}{w:World}{K:PySem.W.Frag}{es:List Expr}{k:Nat}{pos:Pos}(a e it:Addr)(hei:e≠it):
  Turn P w K (.Tuple es k pos) (zlW K a) [e,it] e (fun i h=>(∃ old,IsEnum h e it (i:Nat) old)/\h.IsTupleIter it a i) where
 mem:=by simp
 obj:=by
  rintro i h ⟨⟨old,ge⟩,gi⟩ b hb
  simp only [List.mem_cons,List.not_mem_nil,or_false] at hb
  rcases hb with rfl | rfl
  ·exact ⟨_,ge,fun v z=>nomatch z⟩
  ·obtain ⟨o,ho,_,d⟩:=gi
   exact ⟨o,ho,fun v z=>by rw [d] at z;cases z⟩
 keep:=by
  rintro i h h' ⟨⟨old,ge⟩,gi⟩ kk
  obtain ⟨o,ho,r⟩:=gi
  exact ⟨⟨old,kk e (by simp) _ ge⟩,⟨o,kk it (by simp) o ho,r⟩⟩
 item:=by
  rintro X hP hw hK hc i pins s σ H E I hf ⟨⟨old,ge⟩,gi⟩ ⟨xs,x,hx,ex⟩
  subst hP hw hK
  have hsq:Sq X.K H false a xs:=hx
  obtain ⟨its,r1,c1⟩:=hsq.at I
  replace c1:s.heap.IsTuple a its.toArray:=c1
  obtain ⟨u,hu,ru⟩:=r1.get ex
  have ne1:a≠e:=hsq.ne I (hf e (by simp))
  have ne2:a≠it:=hsq.ne I (hf it (by simp))
  have hil:i<its.toArray.size:=by
   have:=(List.getElem?_eq_some_iff.mp hu).1
   simpa using this
  refine wpAny_pyNext_enum_itemD (zgq (I.ok.hd hc) ne2) ge ⟨gi,c1⟩ hil hei (by simp [hei,ne1.symm]) fun x' h' tk hx' ho hit' hT hsz hk=>⟨_,rfl,?_⟩
  have exu:x'=u:=by
   have h1:its[i]?=some x':=by simpa using hx'
   rw [hu] at h1;exact (Option.some.inj h1).symm
  subst exu
  refine wpAny_letOwnedTupleGo_enum ho fun h₂ he₂ s₂=>?_
  have hH:H s.heap.objs.size=none:=I.hok.fresh (Nat.le_refl _)
  have nz:s.heap.objs.size≠e:=Nat.ne_of_gt (Heap.lt_size ge)
  have kk:∀ b o,b ∉ [e,it]->s.heap.get? b=some o->h₂.get? b=some o:=fun b o hb q=>by
   simp only [List.mem_cons,List.not_mem_nil,or_false,not_or] at hb
   exact (s₂.2 b hb.1).trans (hk b o hb.1 hb.2 q)
  have T2:h₂.get? s.heap.objs.size=some { cls:=.type "tuple",data:=.seq #[.int (i:Nat) tk,x'] }:=(s₂.2 _ nz).trans hT
  have I2:=I.turnedLaid (t':=tk+1) (h':=h₂) (o':=.tup [.int (i:Int),x]) kk hf (Nat.le_refl _) ⟨by simp [sizeLine],[.int (i:Nat) tk,x'],.cons ⟨_,rfl⟩ (.cons ru .nil),⟨_,T2,rfl,_,rfl⟩⟩
  refine ⟨.ref s.heap.objs.size,_,I2,rfl,⟨_,x,hH,rfl,rfl,fun xs' h1=>?_⟩,⟨⟨x',by simpa using he₂⟩,?_⟩,fun b hb=>?_⟩
  ·have h1':Sq X.K H false a xs':=h1
   rw [h1'.inj I hsq];exact ex
  ·obtain ⟨o,q,r⟩:=hit'.1
   exact ⟨o,(s₂.2 it hei.symm).trans q,r⟩
  ·rw [zk (fun n=>?_)]
   ·exact (hf b hb).1
   ·have:b<s.heap.objs.size:=by
     simp only [List.mem_cons,List.not_mem_nil,or_false] at hb
     rcases hb with rfl | rfl
     ·exact Heap.lt_size ge
     ·obtain ⟨o,q,_⟩:=gi;exact Heap.lt_size q
    exact absurd n (Nat.ne_of_lt this)
 done:=by
  rintro X hP hw hK hc i pins s σ H E I hf ⟨⟨old,ge⟩,gi⟩ ⟨xs,hx,hl⟩
  subst hP hw hK
  have hsq:Sq X.K H false a xs:=hx
  obtain ⟨its,r1,c1⟩:=hsq.at I
  replace c1:s.heap.IsTuple a its.toArray:=c1
  have l1:=r1.length
  have ne2:a≠it:=hsq.ne I (hf it (by simp))
  have nx:its.toArray[i]?=none:=by simpa [← l1] using hl
  refine wpAny_pyNext_enum_endD (zgr (c:=a) (I.ok.hd hc) nx) ge ⟨rfl,gi,c1⟩ fun h' hk=>⟨rfl,I.turnedL (t':=s.toks) (L:=[e,it]) (fun b o hb q=>hk b o (fun n=>hb (by simp [n])) q) hf⟩
 self:=fun _ _ _ _ _ st h=>let ⟨⟨_,ge⟩,_⟩:=st;wpAny_pyIter_enum ge h
noncomputable def zlB(K:PySem.W.Frag)(ta:TA):TI:=fun σ H R=>ta σ H fun vs H1=>∃ a,vs=[.ref a]/\(∃ xs,SqT K H1 a xs)/\R (zlW K a) H1
theorem zhB{X:Cx}{es:List Expr}{k:Nat}{tpos:Pos}{a:Expr}{ta:TA}{p pos:Pos}(hg:Gl X "enumerate")(hm:X.mg "enumerate"=none)(ha:PA X [a] ta)(hs:starEach [a] X.env=[(false,eval a X.env)]:=by rfl):
  PI X (.Tuple es k tpos) (.Call (.Name "enumerate" p) [a] [] pos) (zlB X.K ta):=by
 intro pins s σ H R I h
 refine Call_ (uS I hg hm boot_enumerate (PyProof.Rows.callWith_type1 (thn (ha pos pins s σ H _ I h) fun us s1 ⟨vs,H1,I1,r1,q1⟩=>?_) hs rfl))
 obtain ⟨a1,e,⟨xs,hx⟩,q⟩:=q1
 subst e
 cases r1 with
 | cons r rr=>
  cases rr
  cases r
  have hsq:Sq X.K H1 false a1 xs:=hx
  obtain ⟨its1,v1,c1⟩:=hsq.at I1
  refine zeJ (zs:=its1.toArray) c1 fun h' ge gi kk=>?_
  refine wpAny_pyIter_enum ge ?_
  refine ⟨s1.heap.objs.size+1,[s1.heap.objs.size+1,s1.heap.objs.size],_,_,H1,rfl,I1.kept (t':=s1.toks) kk,zdW a1 _ _ (by show ¬ s1.heap.objs.size+1=s1.heap.objs.size;omega),⟨⟨_,ge⟩,gi⟩,fun c hc=>?_,q⟩
  have hc':s1.heap.objs.size≤c:=by
   simp only [List.mem_cons,List.not_mem_nil,or_false] at hc
   rcases hc with rfl | rfl<;>omega
  exact I1.fpOk hc' (I1.hok.fresh hc')
end L2
namespace F
open PySem PySem.Spec PyProof.Rows L2
noncomputable def jD(f:FA):FA:=fun env=>(f env).bind fun ps=>match ps with | [p]=>(wk p).map jc | _=>none
theorem zgJ{K:PySem.W.Frag}{own:Addr->Option Nat}{H1:Hp}{R:Hp->Prop}{a1:Addr}{ps:List PV}{xs:List V}{A:List Addr}
  (hA:∀ a ∈ A,own a=none/\∃ o,H1 a=some o)(h1:∀ H2,R H2->SqT K H2 a1 xs/\Rps K H2 ps xs A):Walks K own H1 R (zlW K a1) (jc ps):=by
 intro i H2 hR
 obtain ⟨q1,r1⟩:=h1 H2 hR
 refine ⟨fun p hp=>?_,fun hi=>⟨xs,q1,by rw [← r1.length];simpa [jc] using hi⟩⟩
 unfold jc at hp
 rw [List.getElem?_map] at hp
 obtain ⟨z,hz,hp⟩:=Option.map_eq_some_iff.mp hp
 subst hp
 rw [List.getElem?_zipIdx] at hz
 obtain ⟨p,z1,rfl⟩:=Option.map_eq_some_iff.mp hz
 obtain ⟨u,C,e1,e2,e3⟩:=r1.get z1
 refine ⟨⟨xs,u,q1,e1⟩,fun x H3 ⟨T,x',hT,ex,eH,hy⟩=>?_⟩
 have g1:=hy xs q1
 rw [e1] at g1;cases g1
 have sm:Same H2 H3:=by rw [eH];exact ya (Same.refl _) hT
 refine ⟨sm,C,?_,fun a ha=>hA a (e3.subset ha)⟩
 rw [ex]
 refine .mkT (.inl (.inl (by rw [eH,zd]))) ?_
 have:=Rps.cons (K:=K) (H:=H3) (.mkI (((0+i:Nat)):Int)) (Rps.one (Rp.same sm _ e2))
 simpa using this
theorem zcR{X:Cx}{κ:Nat->Option Nat}{G:Hp}{fs:FA}{a:Expr}{es:List Expr}{k:Nat}{tpos p pos:Pos}(lp:Bool)(hg:Gl X "enumerate")(hm:X.mg "enumerate"=none)(ha:VA X κ G .sh [a] fs)(hs:starEach [a] X.env=[(false,eval a X.env)]:=by rfl):
  VIt X κ G lp (.Tuple es k tpos) (.Call (.Name "enumerate" p) [a] [] pos) (jD fs):=(zkB (zjF hg hm ha.1 hs) (zhB hg hm ha.1 hs)).imp fun σ H R hq_=>by
 refine hq_.elim fun own env ps I hf k=>?_
 unfold jD at hf
 replace hf:=Option.bind_eq_some_iff.mp hf;obtain ⟨qs,hp,hf⟩:=hf
 split at hf
 case h_2=>cases hf
 rename_i p
 have rf:∀ (lp:Bool) (H1:Hp),(if lp=true then Stay own H1 H1 else Same H1 H1):=fun lp H1=>by
  cases lp with
  | true=>exact fun _ _ _ h=>h
  | false=>exact Same.refl _
 have lst:∀ xs,zmm p=some xs->ps=jc xs->zkF X.K (tVA X.K κ G .sh fs) σ H R:=fun xs e1 e2=>by
  refine (.in I hp fun vs H1 A s r hc=>?_)
  obtain ⟨v,rfl,rv⟩:=xl r
  have hm:∀ a l,own a=some l->MutH H1 a:=fun a l e=>((I.grow s).own a l e).2
  obtain ⟨a1,vs1,B1,w1,w2,w3,w4⟩:=zhY lp hm rv hc e1
  exact ⟨a1,by rw [w1],⟨vs1,(w4 H1 (rf lp H1)).1⟩,k _ H1 s (by rw [e2];exact zjc w3 w4)⟩
 cases p<;>first | cases hf | skip
 ·refine .inr (.in I hp fun vs H1 A s r hc=>?_)
  obtain ⟨v,rfl,rv⟩:=xl r
  have hm:∀ a l,own a=some l->MutH H1 a:=fun a l e=>((I.grow s).own a l e).2
  obtain ⟨a,xs,h1,h2,h3⟩:=rv.T
  refine ⟨a,by rw [h1],⟨xs,h2⟩,k _ H1 s (zgJ (xs:=xs) (A:=A) (fun b hb=>⟨hc b hb,(Rps.mut _ h3 b hb).some⟩) fun H2 hR=>?_)⟩
  cases lp with
  | true=>exact ⟨Stay.tup hR hm h2,Rps.stay hR hm _ hc h3⟩
  | false=>exact ⟨Same.tup hR h2,Rps.same hR _ h3⟩
 ·exact .inl (lst _ rfl rfl)
 ·exact .inl (lst _ rfl rfl)
end F
namespace L2
open PySem PySem.Spec PyProof.Rows
section
variable {X:Cx} {pins:List (Addr × Obj)} {σ:St} {H:Hp} {s:Shared} {a:Addr} {kvs:List (Key × V)} {k:Key} {z:V} {u r:Value} {A:Around} {E:Value->Shared->Prop}
theorem ziE{Q:Value->Shared->Prop}(I:Inv X pins σ H s)(e:H a=some (.dK kvs))(ry:RelV (kV k) u)(rz:RelV z r)(hl:kvs.length<sizeLine)
  (h1:∀ v w' s',wj kvs k=some v->Inv X pins σ H s'->RelV v w'->Q w' s')(h2:∀ s',wj kvs k=none->Inv X pins σ (upd H a (.dK (wn kvs k z))) s'->Q r s'):
  wpAny (model X.prog X.w) A (call (.builtin "dict.setdefault") [.ref a,u,r]) Q E s:=by
 obtain ⟨zz,hd,vs,rel,dd⟩:=zdA I.hok e
 have lp:(wn kvs k z).length≤sizeLine:=by have:=vP kvs k z;omega
 refine call_meetsIn PySem.F.slot_dict_setdefault dd.typeIs PySem.F.entry_dict_setdefault (PySem.F.args_dict_setdefault_3 _ _ _) (kt_meets_setdefault (yI X.prog X.w) a (qC ry) hd r)
  ⟨vs,dd,by rw [← rel.length];exact zz,fun v hv=>?_,fun hn h' dd' hs=>?_⟩
 ·have hr:=rel.val k
  rw [hv] at hr
  cases hq:wj kvs k with
  | none=>rw [hq] at hr;cases hr
  | some y=>rw [hq] at hr;exact h1 y v _ hq (I.tok _) hr
 ·have hr:=rel.val k
  rw [hn] at hr
  have hq:wj kvs k=none:=by
   cases hq:wj kvs k with
   | none=>rfl
   | some y=>rw [hq] at hr;cases hr
  have he:∃ q,h'.get? a=some q:=let ⟨q,_,_,hq,_⟩:=dd';⟨q,hq⟩
  exact h2 _ hq (qV I (by rw [e];exact True.intro) hs he (zeD lp hd (rel.put k rz) dd'))
end
noncomputable def zkx(td ty tx:TE):TE:=fun σ H Q=>td σ H fun x H1=>∃ a,x=.ref a/\IsD H1 a/\ty σ H1 fun y H2=>tx σ H2 fun z H3=>∃ kvs k,H3 a=some (.dK kvs)/\y=kV k/\kvs.length<sizeLine/\
 (∀ v,wj kvs k=some v->Q v H3)/\(wj kvs k=none->Q z (upd H3 a (.dK (wn kvs k z))))
theorem zjH{X:Cx}{o e f:Expr}{apos cpos:Pos}{td ty tx:TE}(ho:PE X o td)(he:PE X e ty)(hf:PE X f tx)(m:M2 X o "setdefault" apos e f cpos):PE X (.Call (.Attribute o "setdefault" apos) [e,f] [] cpos) (zkx td ty tx):=by
 intro pins s σ H Q I h
 refine wpAny_Call_method m.base m.few m.line PySem.F.plainAttrs_dict PySem.F.slot_dict_setdefault PySem.F.type_dict_setdefault (thn (ho pins s σ H _ I h) fun u s1 hq_=>?_)
 obtain ⟨x,H1,I1,rx,a,ex,d,q1⟩:=hq_
 subst ex
 obtain rfl:u=Value.ref a:=rx
 obtain ⟨t1,t2,_⟩:=zij I1 d
 refine ⟨t1,t2,?_⟩
 rw [m.trees]
 refine Calls.callWith_builtin rfl (Calls.evalArgs_plain (Calls.spliced_cons (thn (he pins s1 σ H1 _ I1 q1) fun iv s2 hq_=>?_)))
 obtain ⟨y,H2,I2,ry,q2⟩:=hq_
 refine Calls.spliced_cons (thn (hf pins s2 σ H2 _ I2 q2) fun fv s3 hq_=>Calls.spliced_nil ?_)
 obtain ⟨z,H3,I3,rz,kvs,k,ea,ey,hl,q3,q4⟩:=hq_
 subst ey
 exact ziE I3 ea ry rz hl (fun v w' s4 hv I4 rw'=>⟨v,H3,I4,rw',q3 v hv⟩) fun s4 hn I4=>⟨z,_,I4,rz,q4 hn⟩
end L2
namespace F
open PySem PySem.Spec PyProof.Rows L2
noncomputable def kIx(ks:List Key)(k:Key):Option Nat:=ks.findIdx? fun x=>decide (x=k)
theorem zcx:∀ {ks:List Key} {xs:List V} (_:ks.length=xs.length) (k:Key),wj (ks.zip xs) k=(kIx ks k).bind fun j=>xs[j]?
 | [],[],_,_=>rfl
 | [],_::_,h,_=>by simp at h
 | _::_,[],h,_=>by simp at h
 | k'::ks,x::xs,h,k=>by
  have ih:=zcx (ks:=ks) (xs:=xs) (by simpa using h) k
  unfold wj kIx at ih ⊢
  rw [List.zip_cons_cons,List.find?_cons,List.findIdx?_cons]
  by_cases e:k'=k
  ·simp [e]
  ·have e1:decide (((k',x):Key × V).1=k)=false:=decide_eq_false e
   have e2:decide (k'=k)=false:=decide_eq_false e
   rw [e1,if_neg Bool.false_ne_true]
   show Option.map _ (List.find? _ _)=_
   rw [ih]
   cases List.findIdx? (fun x=>decide (x=k)) ks<;>simp
theorem zdt{ks:List Key}{k:Key}(h:kIx ks k=none):kS ks k=false:=by
 unfold kIx at h
 unfold kS
 rw [List.findIdx?_eq_none_iff] at h
 rw [List.any_eq_false]
 exact fun x hx=>by rw [h x hx];exact Bool.false_ne_true
theorem zif{ks:List Key}{k:Key}{j:Nat}(h:kIx ks k=some j):j<ks.length:=by
 unfold kIx at h
 obtain ⟨h1,_⟩:=List.findIdx?_eq_some_iff_getElem.mp h
 exact h1
section
variable {X:Cx} {κ:Nat->Option Nat} {G:Hp} {c c1 c2:Cat} {f fk fx fd:FE} {st:Stmt} {O:List Nat}
theorem VI.turnDi{K:PySem.W.Frag}{own:Addr->Option Nat}{env:En}{σ:St}{H:Hp}{i j:Nat}{ks:List Key}{ps qs:List PV}(hi:i ∈ O)(I:VI K (ko O) G own env σ H)(hl:zA i env=some (.dct ks ps))(hj:ps[j]?=some (.lst qs)):
  ∃ a xs b ys B,σ[i]?=some (some (.ref a))/\H a=some (.dK (ks.zip xs))/\xs[j]?=some (.ref b)/\xs.length=ps.length/\ks.length=ps.length/\H b=some (.lst ys)/\Rps K H qs ys B/\b ∉ B/\B.Nodup/\∀ H1 qs' ys' C,Same H H1->Rps K H1 qs' ys' C->C.Nodup->b ∉ C->(∀ d ∈ C,d ∈ B∨H d=none)->
   ∃ own',VI K (ko O) G own' (env.set i (some (.dct ks (ps.set j (.lst qs'))))) σ (upd H1 b (.lst ys'))/\Ext own H own' (upd H1 b (.lst ys')):=by
 obtain ⟨a,xs,B,hσ,ha,hkl,hr,nd,ho,hB⟩:=zcI hi I hl
 obtain ⟨l1,l2,rfl,rfl⟩:=qO hj
 obtain ⟨v1,v2,A1,A2,rfl,rfl,r1,r2⟩:=hr.split
 obtain ⟨v,r',A3,A4,rfl,rfl,r3,r4⟩:=r2.inv
 obtain ⟨b,ys,B',rfl,hb,rfl,r5⟩:=r3.L
 have n1:=r1.length
 rw [List.nodup_cons,List.nodup_append,List.nodup_append,List.nodup_cons] at nd
 simp only [List.mem_append,List.mem_cons,not_or] at nd hB
 obtain ⟨⟨na1,⟨nab,naB⟩,na4⟩,nd1,⟨⟨nbB,ndB⟩,nd4,d34⟩,d1⟩:=nd
 refine ⟨a,_,b,ys,B',hσ,ha,by rw [n1];simp,hr.length.symm,hkl,hb,r5,nbB,ndB,fun H1 qs' ys' C s1 rC ndC nbC hC=>?_⟩
 have mb:MutH H1 b:=.inl ⟨ys,s1 _ _ hb⟩
 have nb1:b ∉ A1:=fun z=>d1 b z b (.inl (.inl rfl)) rfl
 have nb4:b ∉ A4:=fun z=>d34 b (.inl rfl) b z rfl
 have hm:∀ d,(d=a∨d ∈ A1∨d=b∨d ∈ A4)->∃ o,H d=some o:=fun d z=>by
  rcases z with rfl | z | rfl | z
  ·exact ⟨_,ha⟩
  ·exact (Rps.mut _ r1 d z).some
  ·exact ⟨_,hb⟩
  ·exact (Rps.mut _ r4 d z).some
 have nC:∀ d ∈ C,d≠a/\d ∉ A1/\d ∉ A4:=fun d hd=>by
  rcases hC d hd with z | z
  ·exact ⟨fun e=>naB (e ▸ z),fun e=>d1 d e d (.inl (.inr z)) rfl,fun e=>d34 d (.inr z) d e rfl⟩
  ·refine ⟨fun e=>?_,fun e=>?_,fun e=>?_⟩
   ·obtain ⟨o,q⟩:=hm d (.inl e);rw [z] at q;cases q
   ·obtain ⟨o,q⟩:=hm d (.inr (.inl e));rw [z] at q;cases q
   ·obtain ⟨o,q⟩:=hm d (.inr (.inr (.inr e)));rw [z] at q;cases q
 have hob:own b=some i:=hB b (.inr (.inl (.inl rfl)))
 have hA:(a::(A1++((b::C)++A4))).Nodup:=by
  rw [List.nodup_cons,List.nodup_append,List.nodup_append,List.nodup_cons]
  simp only [List.mem_append,List.mem_cons,not_or]
  refine ⟨⟨na1,⟨nab,fun z=>(nC a z).1 rfl⟩,na4⟩,nd1,⟨⟨nbC,ndC⟩,nd4,fun d hd d' hd' e=>?_⟩,fun d hd d' hd' e=>?_⟩
  ·subst e
   rcases hd with rfl | hd
   ·exact nb4 hd'
   ·exact (nC d hd).2.2 hd'
  ·subst e
   rcases hd' with (rfl | hd') | hd'
   ·exact nb1 hd
   ·exact (nC d hd').2.1 hd
   ·exact d1 d hd d (.inr hd') rfl
 have hown:∀ d ∈ a::(A1++((b::C)++A4)),own d=some i∨H d=none:=fun d hd=>by
  simp only [List.mem_append,List.mem_cons] at hd
  rcases hd with rfl | hd | (rfl | hd) | hd
  ·exact .inl ho
  ·exact .inl (hB d (.inl hd))
  ·exact .inl hob
  ·rcases hC d hd with z | z
   ·exact .inl (hB d (.inr (.inl (.inr z))))
   ·exact .inr z
  ·exact .inl (hB d (.inr (.inr hd)))
 rw [zca]
 have r:Rp K (upd H1 b (.lst ys')) (.dct ks (l1++.lst qs'::l2)) (.ref a) (a::(A1++((b::C)++A4))):=
  .mkD (by rw [zk nab];exact s1 _ _ ha) (by simpa using hkl) ((Rps.upd mb _ nb1 (Rps.same s1 _ r1)).append (Rps.cons (.mkL zd (Rps.upd mb _ nbC rC)) (Rps.upd mb _ nb4 (Rps.same s1 _ r4))))
 have:=I.take (H2:=upd H1 b (.lst ys')) (v:=.ref a) hi (fun m q w D _ _ z hD=>Rp.upd mb q (fun z'=>hD b z' hob) (Rp.same s1 q z)) (fun d u hd z=>by
  rw [zk (by rintro rfl;exact hd hob)];exact s1 d u z) r hA hown
 rw [kG hσ] at this
 exact ⟨_,this⟩
theorem VI.newK{K:PySem.W.Frag}{own:Addr->Option Nat}{env:En}{σ:St}{H H1:Hp}{i:Nat}{ks:List Key}{ps:List PV}{key:Key}{p:PV}{v:V}{C:List Addr}(hi:i ∈ O)(I:VI K (ko O) G own env σ H)(hl:zA i env=some (.dct ks ps))(hn:kS ks key=false)
  (s:Same H H1)(r:Rp K H1 p v C)(ndC:C.Nodup)(hC:∀ d ∈ C,H d=none):∃ a xs,σ[i]?=some (some (.ref a))/\H a=some (.dK (ks.zip xs))/\xs.length=ks.length/\
   ∃ own',VI K (ko O) G own' (env.set i (some (.dct (ks++[key]) (ps++[p])))) σ (upd H1 a (.dK (wn (ks.zip xs) key v)))/\Ext own H own' (upd H1 a (.dK (wn (ks.zip xs) key v))):=by
 obtain ⟨a,xs,B,hσ,ha,hkl,hr,nd,ho,hB⟩:=zcI hi I hl
 have hxl:=hr.length
 refine ⟨a,xs,hσ,ha,by omega,?_⟩
 have e:wn (ks.zip xs) key v=(ks++[key]).zip (xs++[v]):=by
  rw [zaN (by omega)]
  unfold wp
  rw [hn,if_neg Bool.false_ne_true]
 rw [e]
 have nC:a ∉ C:=fun z=>by rw [hC a z] at ha;cases ha
 have nB:a ∉ B:=(List.nodup_cons.mp nd).1
 have m1:MutH H1 a:=.inr ⟨_,s _ _ ha⟩
 have hnd:(a::(B++C)).Nodup:=by
  rw [← List.cons_append]
  refine List.nodup_append.mpr ⟨nd,ndC,fun x hx y' hy' hxy=>?_⟩
  subst hxy
  have hn:=hC x hy'
  rcases List.mem_cons.mp hx with rfl | hx
  ·exact nC hy'
  ·obtain ⟨o,ho⟩:=(Rps.mut ps hr x hx).some
   rw [hn] at ho;cases ho
 have hBC:∀ b ∈ B++C,own b=some i∨H b=none:=by
  intro b hb
  rcases List.mem_append.mp hb with hb | hb
  ·exact .inl (hB b hb)
  ·exact .inr (hC b hb)
 obtain ⟨h1,h2⟩:=I.turn (p:=.dct (ks++[key]) (ps++[p])) (o:=.dK ((ks++[key]).zip (xs++[v]))) (B:=B++C) hi s hσ ho (.inr ⟨_,ha⟩)
  (.mkD zd (by simp [hkl]) ((Rps.upd m1 ps nB (Rps.same s ps hr)).append (Rps.one (Rp.upd m1 p nC r)))) hnd hBC
 exact ⟨_,h1,h2⟩
noncomputable def zdy(i:Nat)(fk f:FE):FS:=fun env=>(f env).bind fun q=>(zA i env).bind fun l=>(fk env).bind fun k=>match l with
 | .dct ks ps=>(vF k).bind fun key=>if (!kS ks key && decide (ks.length<100000))=true then some (.nx (env.set i (some (.dct (ks++[key]) (ps++[q]))))) else none
 | _=>none
theorem zjf(i:Nat)(hi:i ∈ O)(hp:PS X st (zeX (uJ i) (tV X.K (ko O) G c2 fk) (tV X.K (ko O) G (.mv []) f))):VS X (ko O) G st (zdy i fk f):=hp.imp fun D σ H hq_=>by
 refine hq_.elim fun own env o I hf k=>?_
 unfold zdy at hf
 replace hf:=Option.bind_eq_some_iff.mp hf;obtain ⟨q,hq,hf⟩:=hf
 replace hf:=Option.bind_eq_some_iff.mp hf;obtain ⟨l,hl,hf⟩:=hf
 replace hf:=Option.bind_eq_some_iff.mp hf;obtain ⟨kk,hk,hf⟩:=hf
 cases l<;>first | (cases hf;done) | skip
 rename_i ks ps
 dsimp only at hf
 replace hf:=Option.bind_eq_some_iff.mp hf;obtain ⟨key,hkey,hf⟩:=hf
 split at hf
 case isFalse=>cases hf
 rename_i hc
 cases hf
 simp only [Bool.and_eq_true,Bool.not_eq_true',decide_eq_true_eq] at hc
 obtain ⟨a0,xs0,hσ,ha,_,_⟩:=VI.newK (p:=.non) (v:=.non) (C:=[]) hi I hl hc.1 (Same.refl _) .mkN .nil (by simp)
 refine (.in I hq fun v H1 A s1 r1 c1=>⟨.ref a0,hσ,.in (I.grow s1) hk fun y H2 B s2 r2 _=>?_⟩)
 have s12:=s1.trans s2
 obtain ⟨a,xs,hσ',ha',hxl,own',g1,g2⟩:=VI.newK (p:=q) (v:=v) (C:=A) hi I hl hc.1 s12 (Rp.same s2 q r1) c1.1 fun d hd=>(c1.2 d hd).elim id fun ⟨_,z,_⟩=>nomatch z
 rw [hσ] at hσ'
 cases hσ'
 refine ⟨a0,_,rfl,by rw [kM hkey r2];exact DPut.k (s12 _ _ ha') (by rw [List.length_zip,sizeLine_eq];omega),k _ _ _ g1 g2⟩
noncomputable def uZ(i:Nat)(fk f:FE):FS:=fun env=>(zA i env).bind fun l=>(fk env).bind fun k=>match l with
 | .dct ks ps=>if ks.length<100000 then (vF k).bind fun key=>match kIx ks key with
   | some j=>match ps[j]? with
    | some (.lst qs)=>(f env).bind fun q=>if qs.length<100000 then some (.nx (env.set i (some (.dct ks (ps.set j (.lst (qs++[q]))))))) else none
    | _=>none
   | none=>(f (env.set i (some (.dct (ks++[key]) (ps++[PV.lst []]))))).bind fun q=>some (.nx ((env.set i (some (.dct (ks++[key]) (ps++[PV.lst []])))).set i (some (.dct (ks++[key]) ((ps++[PV.lst []]).set ps.length (.lst [q])))))) else none
 | _=>none
theorem zfJ(i:Nat)(hi:i ∈ O)(hp:PS X st (zbp (tBM X.K "list" kJ (zkx (uJ i) (tV X.K (ko O) G c fk) (tV X.K (ko O) G (.mv []) (wF zI))) (qi (tV X.K (ko O) G (.mv []) f) zea)))):VS X (ko O) G st (uZ i fk f):=hp.imp fun D σ H hq_=>by
 refine hq_.elim fun own env o I hf k=>?_
 unfold uZ at hf
 replace hf:=Option.bind_eq_some_iff.mp hf;obtain ⟨l,hl,hf⟩:=hf
 replace hf:=Option.bind_eq_some_iff.mp hf;obtain ⟨kk,hk,hf⟩:=hf
 cases l<;>first | (cases hf;done) | skip
 rename_i ks ps
 dsimp only at hf
 split at hf
 case isFalse=>cases hf
 rename_i hkl
 replace hf:=Option.bind_eq_some_iff.mp hf;obtain ⟨key,hkey,hf⟩:=hf
 -- the arguments of setdefault
 obtain ⟨a,xs,B,hσ,ha,hkps,hr,nd,ho,hB⟩:=zcI hi I hl
 have hxl:=hr.length
 refine ⟨.ref a,hσ,a,rfl,.inl ⟨_,.inl ha⟩,.in I hk fun y H1 A1 s1 r1 _=>(.in (I.grow s1) rfl fun z H2 A2 s2 r2 c2=>?_)⟩
 have s12:=s1.trans s2
 have hy:=kM hkey r1
 refine ⟨ks.zip xs,key,s12 _ _ ha,hy,by rw [List.length_zip,sizeLine_eq];omega,fun v hv=>?_,fun hv=>?_⟩
 ·-- it is there
  rw [zcx (by omega)] at hv
  replace hv:=Option.bind_eq_some_iff.mp hv;obtain ⟨j,hj,hv⟩:=hv
  rw [hj] at hf
  dsimp only at hf
  split at hf
  case h_2=>cases hf
  rename_i qs hqs
  replace hf:=Option.bind_eq_some_iff.mp hf;obtain ⟨q,hq,hf⟩:=hf
  split at hf
  case isFalse=>cases hf
  rename_i hlen
  cases hf
  obtain ⟨a',xs',b,ys,B',hσ',ha',hx,hxl',_,hb,hr',nb,ndB,turn⟩:=VI.turnDi hi I hl hqs
  rw [hσ] at hσ'
  cases hσ'
  rw [ha] at ha'
  have ez:xs=xs':=by
   have e:ks.zip xs=ks.zip xs':=HO.dK.inj (Option.some.inj ha')
   have h1:=congrArg (List.map Prod.snd) e
   rwa [List.map_snd_zip (by omega),List.map_snd_zip (by omega)] at h1
  subst ez
  rw [hx] at hv
  cases hv
  refine ⟨.inl ⟨rfl,ys,SqL.of (s12 _ _ hb)⟩,.in (I.grow s12) hq fun v H3 C s3 r3 c3=>?_⟩
  have s13:=s12.trans s3
  refine ⟨b,ys,v,rfl,rfl,s13 _ _ hb,by rw [← hr'.length,sizeLine_eq];omega,?_⟩
  have fr0:∀ d ∈ C,H d=none:=fun d hd=>s12.free ((c3.2 d hd).elim id fun ⟨_,z,_⟩=>nomatch z)
  obtain ⟨own',h1,h2⟩:=turn H3 (qs++[q]) (ys++[v]) (B'++C) s13 ((Rps.same s13 _ hr').append (Rps.one r3)) (List.nodup_append.mpr ⟨ndB,c3.1,fun d hd d' hd' e=>by
    subst e
    obtain ⟨o,ho⟩:=(Rps.mut _ hr' d hd).some
    rw [fr0 d hd'] at ho;cases ho⟩)
   (fun z=>by
    rcases List.mem_append.mp z with z | z
    ·exact nb z
    ·have:=fr0 b z
     rw [hb] at this;cases this)
   (fun d hd=>(List.mem_append.mp hd).imp id (fr0 d))
  exact k _ _ _ h1 h2
 ·-- it is new
  have hj:kIx ks key=none:=by
   cases hj:kIx ks key with
   | none=>rfl
   | some j=>
    rw [zcx (by omega),hj,Option.bind_some] at hv
    have:=zif hj
    rw [List.getElem?_eq_none_iff] at hv
    omega
  rw [hj] at hf
  dsimp only at hf
  have hn:=zdt hj
  have fr2:∀ d ∈ A2,H d=none:=fun d hd=>s1.free ((c2.2 d hd).elim id fun ⟨_,z,_⟩=>nomatch z)
  obtain ⟨a',xs',hσ',ha',hxl',own1,I1,x1⟩:=VI.newK (p:=.lst []) (v:=z) (C:=A2) hi I hl hn s12 r2 c2.1 fr2
  rw [hσ] at hσ'
  cases hσ'
  rw [ha] at ha'
  have ez:xs=xs':=by
   have e:ks.zip xs=ks.zip xs':=HO.dK.inj (Option.some.inj ha')
   have h1:=congrArg (List.map Prod.snd) e
   rwa [List.map_snd_zip (by omega),List.map_snd_zip (by omega)] at h1
  subst ez
  generalize hH3:upd H2 a (HO.dK (wn (ks.zip xs) key z))=H3 at I1 x1
  generalize he1:env.set i (some (.dct (ks++[key]) (ps++[PV.lst []])))=env1 at I1 hf
  replace hf:=Option.bind_eq_some_iff.mp hf;obtain ⟨q,hq,hf⟩:=hf
  cases hf
  have il:i<env.length:=(List.getElem?_eq_some_iff.mp (wW hl)).1
  have hl1:zA i env1=some (.dct (ks++[key]) (ps++[PV.lst []])):=by
   rw [← he1];unfold zA;rw [List.getElem?_set,if_pos rfl,if_pos il];rfl
  have hqs:(ps++[PV.lst []])[ps.length]?=some (.lst []):=by simp
  obtain ⟨a'',xs'',b,ys,B',hσ'',ha'',hx,hxl'',_,hb,hr',nb,ndB,turn⟩:=VI.turnDi hi I1 hl1 hqs
  rw [hσ] at hσ''
  cases hσ''
  -- the list just made
  have e0:wn (ks.zip xs) key z=(ks++[key]).zip (xs++[z]):=by
   rw [zaN (by omega)]
   unfold wp
   rw [hn,if_neg Bool.false_ne_true]
  have ha3:H3 a=some (.dK ((ks++[key]).zip (xs++[z]))):=by rw [← hH3,zd,e0]
  rw [ha3] at ha''
  have ez:xs++[z]=xs'':=by
   have e:(ks++[key]).zip (xs++[z])=(ks++[key]).zip xs'':=HO.dK.inj (Option.some.inj ha'')
   have h1:=congrArg (List.map Prod.snd) e
   rwa [List.map_snd_zip (by simp;omega),List.map_snd_zip (by rw [hxl''];simp;omega)] at h1
  subst ez
  have hzb:z=.ref b:=by
   rw [hxl,List.getElem?_concat_length] at hx
   exact Option.some.inj hx
  subst hzb
  have hq0:ys=[]:=by have:=hr'.length;cases ys with | nil=>rfl | cons _ _=>simp at this
  subst hq0
  have eB:=hr'.inv0.2
  subst eB
  refine ⟨.inl ⟨rfl,[],SqL.of hb⟩,own1,env1,q,I1,hq,fun v H4 C s4 r4 c4=>?_⟩
  refine ⟨b,[],v,rfl,rfl,s4 _ _ hb,by rw [sizeLine_eq];simp,?_⟩
  have fr4:∀ d ∈ C,H3 d=none:=fun d hd=>(c4.2 d hd).elim id fun ⟨_,z,_⟩=>nomatch z
  obtain ⟨own',h1,h2⟩:=turn H4 [q] [v] C s4 (Rps.one r4) c4.1 (fun z=>by have:=fr4 b z;rw [hb] at this;cases this) (fun d hd=>.inr (fr4 d hd))
  exact k _ _ _ h1 (x1.trans h2)
noncomputable def zcD(fk f:FE):FE:=fun env=>(fk env).bind fun k=>(f env).bind fun q=>(vF k).map fun key=>.dct [key] [q]
theorem zgN{ek ev:Expr}{pos:Pos}(hk:VE X κ G c ek fk)(hv:VE X κ G (.mv []) ev f):VE X κ G (.mv []) (.Dict [some ek] [ev] pos) (zcD fk f):=
 (zjI (zhy hk hv zjB) rfl rfl (by simp) (by simp)).imp fun σ H Q hq_=>by
 refine hq_.elim fun own env p I hf k=>?_
 unfold zcD at hf
 replace hf:=Option.bind_eq_some_iff.mp hf;obtain ⟨kk,hkk,hf⟩:=hf
 replace hf:=Option.bind_eq_some_iff.mp hf;obtain ⟨q,hq,hf⟩:=hf
 cases hkey:vF kk with
 | none=>rw [hkey] at hf;cases hf
 | some key=>
  rw [hkey] at hf
  cases hf
  intro a ha
  have s0:Same H (upd H a (.dK [])):=ya (Same.refl _) ha
  refine (.in (I.grow s0) hkk fun y H1 A1 s1 r1 _=>(.in ((I.grow s0).grow s1) hq fun v H2 A2 s2 r2 c2=>?_))
  have h2a:H2 a=some (.dK []):=s2 _ _ (s1 _ _ zd)
  have hy:=kM hkey r1
  refine ⟨h2a,[(key,v)],by rw [hy];rfl,by simp,?_⟩
  have e:kn [] [(key,v)]=[key].zip [v]:=rfl
  rw [e]
  have fr:∀ d ∈ A2,H1 d=none:=fun d hd=>(c2.2 d hd).elim id fun ⟨_,z,_⟩=>nomatch z
  have nA:a ∉ A2:=fun z=>by have:=fr a z;rw [s1 _ _ zd] at this;cases this
  have m2:MutH H2 a:=.inr ⟨_,h2a⟩
  have sH:Same H (upd H2 a (.dK ([key].zip [v]))):=fun b o hb=>by
   rw [zk (by rintro rfl;rw [ha] at hb;cases hb)]
   exact s2 _ _ (s1 _ _ (s0 _ _ hb))
  refine k _ _ (a::A2) sH (.mkD zd rfl (Rps.one (Rp.upd m2 q nA r2))) ⟨List.nodup_cons.mpr ⟨nA,c2.1⟩,fun d hd=>.inl ?_⟩
  rcases List.mem_cons.mp hd with rfl | hd
  ·exact ha
  ·exact s0.free (s1.free (fr d hd))
noncomputable def zfq(k i:Nat):FS:=fun env=>(zA i env).bind fun l=>match l with | .lst (q::ps)=>if (zw q && isDatas ps)=true then some (.nx ((env.set i (some (.lst ps))).set k (some q))) else none | _=>none
theorem zjg(k i:Nat)(hi:i ∈ O)(hk:k ∉ O)(hp:PS X st (qj (tBM X.K "list" zhq (uJ i) (qi (tC (.int 0)) zea)) (jb k))):VS X (ko O) G st (zfq k i):=hp.imp fun D σ H hq_=>by
 refine hq_.elim fun own env o I hf kk=>?_
 unfold zfq at hf
 replace hf:=Option.bind_eq_some_iff.mp hf;obtain ⟨l,hl,hf⟩:=hf
 split at hf
 case h_2=>cases hf
 rename_i q ps
 split at hf
 case isFalse=>cases hf
 rename_i hd
 cases hf
 rw [Bool.and_eq_true] at hd
 obtain ⟨a,xs,B,hσ,ha,hr,nd,ho,hB⟩:=j4 hi I hl
 obtain ⟨y,ys,A1,A2,rfl,rfl,r1,r2⟩:=hr.inv
 have e1:=Rp.data q hd.1 r1
 have e2:=Rps.data ps hd.2 r2
 subst e1 e2
 have m1:MutH H a:=.inl ⟨_,ha⟩
 refine ⟨.ref a,hσ,.inl ⟨rfl,y::ys,SqL.of ha⟩,a,y::ys,0,0,y,rfl,rfl,ha,by decide,by decide,by simp [seqIndex?],rfl,?_⟩
 obtain ⟨h1,h2⟩:=I.turn (p:=.lst ps) (o:=.lst ys) (B:=[]) hi (Same.refl _) hσ ho m1 (.mkL zd (Rps.upd m1 _ (by simp) r2)) (by simp) (by simp)
 exact kk _ _ _ (h1.set_sh (zau hk) (Rp.upd m1 q (by simp) r1) (by simp)) h2
noncomputable def zcS(d k x:PV):Option PV:=match d with
 | .dct ks ps=>(vF k).map fun key=>(ue ks ps key).getD x
 | _=>none
noncomputable def zfs(fd fk fx:FE):FE:=fun env=>(fd env).bind fun d=>(fk env).bind fun k=>(fx env).bind fun x=>zcS d k x
theorem zjj{o e f':Expr}{apos cpos:Pos}(hu:X.A.units+1<cLine)(ho:VE X κ G .sh o fd)(he:VE X κ G c1 e fk)(hf:VE X κ G .sh f' fx)(m:M2 X o "get" apos e f' cpos):VE X κ G .sh (.Call (.Attribute o "get" apos) [e,f'] [] cpos) (zfs fd fk fx):=
 (zdd hu ho he hf m).imp fun σ H Q hq_=>by
 refine hq_.elim fun own env z I h k=>?_
 unfold zfs at h
 replace h:=Option.bind_eq_some_iff.mp h;obtain ⟨d,hd,h⟩:=h
 replace h:=Option.bind_eq_some_iff.mp h;obtain ⟨kk,hk,h⟩:=h
 replace h:=Option.bind_eq_some_iff.mp h;obtain ⟨x,hx,h⟩:=h
 unfold zcS at h
 split at h
 case h_2=>cases h
 rename_i ks ps
 cases hkey:vF kk with
 | none=>rw [hkey] at h;cases h
 | some key=>
  rw [hkey] at h;cases h
  refine (.in I hd fun v H1 A s1 r1 cA=>?_)
  obtain ⟨a,ys,B,e1,h1,hl,rfl,g⟩:=r1.D
  refine ⟨a,e1,.inl ⟨_,.inl h1⟩,.in (I.grow s1) hk fun y H2 _ s2 r2 _=>(.in ((I.grow s1).grow s2) hx fun w H3 A3 s3 r3 c3=>?_)⟩
  have s23:=s2.trans s3
  have hy:=kM hkey r2
  rw [hy]
  refine ⟨_,DGet.k (s23 _ _ h1),?_⟩
  cases hg:ue ks ps key with
  | none=>
   rw [qZ g hl hg]
   refine k _ _ A3 (s1.trans s23) ?_ c3
   show Rp X.K H3 ((ue ks ps key).getD x) w A3
   rw [hg];exact r3
  | some p=>
   obtain ⟨v,C,h3,h4,h5⟩:=j5 g hg
   rw [h3]
   refine k _ _ C (s1.trans s23) ?_ fun d hd=>cA d (List.mem_cons_of_mem _ (h5.subset hd))
   show Rp X.K H3 ((ue ks ps key).getD x) v C
   rw [hg];exact Rp.same s23 p h4
end
section
variable {K:PySem.W.Frag} {H:Hp}
theorem zfh{ks:List Key}{k:Key}{j:Nat}(h:kIx ks k=some j):ks[j]?=some k:=by
 unfold kIx at h
 obtain ⟨h1,h2,_⟩:=List.findIdx?_eq_some_iff_getElem.mp h
 rw [List.getElem?_eq_getElem h1,of_decide_eq_true h2]
end
end F
namespace L2
open PySem PySem.Spec PyProof.Rows
theorem ziS:bootBuiltins "set"=some (.type "set"):=by decide +kernel
theorem zgs(ns:List Int):∀ i,i≤ns.length->∀ k,k ∈ firstMet (fun j=>ns.getD j 0) i ↔ k ∈ ns.take i:=by
 intro i hi k
 have h:=firstMet_any (fun j=>ns.getD j 0) i k
 have e1:((firstMet (fun j=>ns.getD j 0) i).any (· == k)=true) ↔ k ∈ firstMet (fun j=>ns.getD j 0) i:=by
  rw [List.any_eq_true]
  exact ⟨fun ⟨x,hx,e⟩=>by rw [← (beq_iff_eq.mp e)];exact hx,fun hx=>⟨k,hx,beq_self_eq_true k⟩⟩
 have e2:(((List.range i).map fun j=>ns.getD j 0).any (· == k)=true) ↔ k ∈ ns.take i:=by
  have:((List.range i).map fun j=>ns.getD j 0)=ns.take i:=by
   apply List.ext_getElem?
   intro t
   rw [List.getElem?_map,List.getElem?_take]
   by_cases ht:t<i
   ·rw [List.getElem?_range ht,if_pos ht,List.getElem?_eq_getElem (by omega)]
    simp [List.getD,show t<ns.length by omega]
   ·rw [List.getElem?_eq_none (by simpa using ht),if_neg ht];rfl
  rw [this,List.any_eq_true]
  exact ⟨fun ⟨x,hx,e⟩=>by rw [← (beq_iff_eq.mp e)];exact hx,fun hx=>⟨k,hx,beq_self_eq_true k⟩⟩
 rw [← e1,← e2,h]
theorem jB(val:Nat->Int):∀ i,(firstMet val i).Nodup
 | 0=>by rw [firstMet_zero];exact .nil
 | i+1=>by
  rw [firstMet_succ]
  have ih:=jB val i
  unfold step_dedup
  split
  ·exact ih
  ·rename_i h
   refine List.nodup_append.mpr ⟨ih,by simp,fun a ha b hb e=>?_⟩
   rw [List.mem_singleton.mp hb] at e
   subst e
   exact h (by rw [List.any_eq_true];exact ⟨_,ha,beq_self_eq_true _⟩)
theorem len_le_of(xs:List Int):∀ ys:List Int,xs.Nodup->(∀ x ∈ xs,x ∈ ys)->xs.length≤ys.length:=by
 induction xs with
 | nil=>intro ys _ _;exact Nat.zero_le _
 | cons x xs ih=>
  intro ys nd h
  rw [List.nodup_cons] at nd
  have hx:=h x List.mem_cons_self
  have:=ih (ys.erase x) nd.2 fun y hy=>by
   have hne:y≠x:=fun e=>nd.1 (e ▸ hy)
   exact (List.mem_erase_of_ne hne).mpr (h y (List.mem_cons_of_mem _ hy))
  rw [List.length_erase_of_mem hx] at this
  have hp:0<ys.length:=List.length_pos_of_mem hx
  simp only [List.length_cons]
  omega
end L2
namespace F
open PySem PySem.Spec PyProof.Rows L2
end F
namespace L2
open PySem PySem.Spec PyProof.Rows
end L2
namespace F
open PySem PySem.Spec PyProof.Rows L2
noncomputable def zcw:List Key->Option (List Int)
 | []=>some []
 | .inl n::r=>(zcw r).map fun ns=>n::ns
 | _=>none
@[simp] theorem zds:∀ ns:List Int,zcw (ns.map Sum.inl)=some ns
 | []=>rfl
 | n::ns=>by rw [List.map_cons,zcw,zds ns];rfl
end F
namespace L2
open PySem PySem.Spec PyProof.Rows
end L2
namespace F
open PySem PySem.Spec PyProof.Rows L2
section
variable {X:Cx} {κ:Nat->Option Nat} {G:Hp} {O:List Nat} {st:Stmt} {c c1 c2:Cat} {f fk fa fb:FE} {a b e:Expr} {es:List Expr} {pos:Pos}
theorem Rp.mkP{K:PySem.W.Frag}{H:Hp}{a:Addr}{ns:List Int}(h:H a=some (.lst (ns.map V.int))):Rp K H (.pen a ns) (.ref a) [a]:=by unfold Rp;exact ⟨rfl,rfl,h⟩
theorem VI.startM{K:PySem.W.Frag}{H:Hp}{N:List Str}{ps:List PV}{ws:List V}{A:List Addr}{a:Addr}{ns:List Int}(h0:0 ∈ O)(hk:∀ i,i<ps.length->i+1 ∉ O)(ha:H a=some (.lst (ns.map V.int)))(r:Rps K H ps ws A)(hA:a ∉ A):
  VI K (ko O) (fun b=>if b=a then none else H b) (fun b=>if b=a then some 0 else none) ((.pen a ns::ps).map some++List.replicate (N.length - (ps.length+1)) none) (L2.start N (.ref a::ws)) H:=by
 have hl:=r.length
 refine ⟨by simp [L2.start,hl],fun i p e=>?_,fun b l z=>?_,fun b o z=>?_⟩
 ·cases i with
  | zero=>
   cases e
   refine ⟨.ref a,[a],rfl,.mkP ha,fun z=>?_,fun l z=>⟨by simp,fun b hb=>?_⟩⟩
   ·rw [vE h0] at z;cases z
   ·rw [vE h0] at z;cases z
    rw [List.mem_singleton.mp hb,if_pos rfl]
  | succ i=>
   rw [List.map_cons,List.cons_append,List.getElem?_cons_succ] at e
   by_cases hi:i<ps.length
   ·rw [List.getElem?_append_left (by simpa using hi),List.getElem?_map] at e
    cases q:ps[i]? with
    | none=>rw [q] at e;cases e
    | some p'=>
     rw [q] at e
     have:p'=p:=by simpa using e
     subst this
     obtain ⟨v,C,h1,h2,h3⟩:=r.get q
     refine ⟨v,C,?_,h2,fun _ b hb=>if_neg (fun (z:b=a)=>hA (z ▸ h3.subset hb)),fun l z=>?_⟩
     ·unfold L2.start
      rw [List.map_cons,List.cons_append,List.getElem?_cons_succ,List.getElem?_append_left (by rw [List.length_map,← hl];exact hi),List.getElem?_map,h1];rfl
     ·rw [zau (hk i hi)] at z;cases z
   ·rw [List.getElem?_append_right (by simpa using hi),List.getElem?_replicate] at e
    split at e<;>cases e
 ·split at z
  ·rename_i e;cases z;subst e;exact ⟨if_pos rfl,.inl ⟨_,ha⟩⟩
  ·cases z
 ·show H b=some o
  by_cases e:b=a
  ·rw [if_pos e] at z;cases z
  ·rw [if_neg e] at z;exact z
noncomputable def zks(l:Nat)(own:Addr->Option Nat)(H:Hp)(own':Addr->Option Nat)(H':Hp):Prop:=∀ b o,own b≠some l->H b=some o->own' b=own b/\H' b=some o
noncomputable def zfa:PV->Option (List Int)
 | .pen _ ns=>some ns
 | .lst qs=>vH qs
 | _=>none
noncomputable def zhD:PV->List Int->PV
 | .pen a _,ns=>.pen a ns
 | _,ns=>.lst (ns.map .int)
theorem VI.penC{K:PySem.W.Frag}{own:Addr->Option Nat}{env:En}{σ:St}{H:Hp}{i l:Nat}{p:PV}{ns:List Int}(hκ:κ i=some l)(hu:∀ j,κ j=some l->j=i)(I:VI K κ G own env σ H)(hf:zA i env=some p)(hn:zfa p=some ns):
  ∃ a,σ[i]?=some (some (.ref a))/\H a=some (.lst (ns.map V.int))/\own a=some l/\(∀ b ms,p=.pen b ms->b=a)/\∀ H1 H' ns',Same H H1->(∀ b o,b≠a->H1 b=some o->H' b=some o)->H' a=some (.lst (List.map V.int ns'))->VI K κ G own (env.set i (some (zhD p ns'))) σ H'/\zks l own H own H':=by
 obtain ⟨v,A,h1,h2,_,h3⟩:=I.slot i _ (wW hf)
 obtain ⟨nd,hA⟩:=h3 l hκ
 obtain ⟨a,rfl,rfl,ha,hp,hput⟩:∃ a,v=.ref a/\A=[a]/\H a=some (.lst (ns.map V.int))/\(∀ b ms,p=.pen b ms->b=a)/\∀ (H':Hp) (ns':List Int),H' a=some (.lst (ns'.map V.int))->Rp K H' (zhD p ns') (.ref a) [a]:=by
  unfold zfa at hn
  split at hn
  ·rename_i a ms
   cases hn
   obtain ⟨rfl,rfl,h4⟩:=h2.P
   exact ⟨a,rfl,rfl,h4,fun b ms z=>by cases z;rfl,fun H' ns' h=>.mkP h⟩
  ·rename_i qs
   have:=uE hn
   subst this
   obtain ⟨a,xs,B,rfl,h4,rfl,g⟩:=h2.L
   have e1:=uw g
   subst e1
   have e2:=Rps.data _ (kP ns) g
   subst e2
   exact ⟨a,rfl,rfl,h4,fun b ms z=>(nomatch z),fun H' ns' h=>.mkL h (kQ ns')⟩
  ·cases hn
 have oa:=hA a List.mem_cons_self
 refine ⟨a,h1,ha,oa,hp,fun H1 H' ns' s sb ha'=>?_⟩
 have ma:MutH H1 a:=.inl ⟨_,s _ _ ha⟩
 have sm:Same (upd H1 a (.lst (ns'.map V.int))) H':=fun b o e=>by
  by_cases hb:b=a
  ·subst hb;rw [zd] at e;cases e;exact ha'
  ·rw [zk hb] at e;exact sb b o hb e
 refine ⟨⟨by rw [List.length_set];exact I.len,fun j q e=>?_,fun b l' e=>?_,fun b o e=>?_⟩,fun b o hb e=>⟨rfl,?_⟩⟩
 ·rw [List.getElem?_set] at e
  by_cases hij:i=j
  ·rw [if_pos hij] at e
   subst hij
   split at e
   ·cases e
    refine ⟨.ref a,[a],h1,hput H' ns' ha',fun z=>?_,fun l' z=>?_⟩
    ·rw [hκ] at z;cases z
    ·rw [hκ] at z;cases z;exact ⟨nd,hA⟩
   ·cases e
  ·rw [if_neg hij] at e
   obtain ⟨v',A',g1,g2,g3,g4⟩:=I.slot j q e
   refine ⟨v',A',g1,Rp.same sm q (Rp.upd ma q (fun z=>?_) (Rp.same s q g2)),g3,g4⟩
   cases hk:κ j with
   | none=>have:=g3 hk a z;rw [oa] at this;cases this
   | some l'=>
    have:=(g4 l' hk).2 a z
    rw [oa] at this
    cases this
    exact hij (hu j hk).symm
 ·obtain ⟨g1,g2⟩:=I.own b l' e
  refine ⟨g1,?_⟩
  by_cases hb:b=a
  ·subst hb;exact .inl ⟨_,ha'⟩
  ·rcases g2.same s with ⟨xs,z⟩ | ⟨xs,z⟩
   ·exact .inl ⟨xs,sb b _ hb z⟩
   ·exact .inr ⟨xs,sb b _ hb z⟩
 ·have hb:b≠a:=fun z=>by rw [z,(I.own a l oa).1] at e;cases e
  exact sb b o hb (s _ _ (I.same _ _ e))
 ·exact sb b o (fun z=>hb (by rw [z];exact oa)) (s _ _ e)
open Classical in
noncomputable abbrev FI:=En->Option (Int × En)
noncomputable def tVi(K:PySem.W.Frag)(κ:Nat->Option Nat)(G:Hp)(l:Nat)(f:FI):TE:=fun σ H Q=>∃ own env i e',VI K κ G own env σ H/\f env=some (i,e')/\∀ H' own',VI K κ G own' e' σ H'->zks l own H own' H'->Q (.int i) H'
theorem tVi.in{K:PySem.W.Frag}{l:Nat}{σ:St}{H:Hp}{Q:VK}{f:FI}{own:Addr->Option Nat}{env e':En}{i:Int}(I:VI K κ G own env σ H)(hf:f env=some (i,e'))(k:∀ H' own',VI K κ G own' e' σ H'->zks l own H own' H'->Q (.int i) H'):tVi K κ G l f σ H Q:=⟨own,env,i,e',I,hf,k⟩
theorem tVi.elim{K:PySem.W.Frag}{l:Nat}{σ:St}{H:Hp}{Q:VK}{f:FI}{C:Prop}(h:tVi K κ G l f σ H Q)(k:∀ own env i e',VI K κ G own env σ H->f env=some (i,e')->(∀ H' own',VI K κ G own' e' σ H'->zks l own H own' H'->Q (.int i) H')->C):C:=
 let ⟨own,env,i,e',I,hf,q⟩:=h
 k own env i e' I hf q
noncomputable abbrev FB:=En->Option (Bool × En)
end
end F
namespace F
open PySem
namespace Tab
noncomputable def leaps(mask:Nat):Nat->Nat × Nat->Nat × Nat
 | 0,z=>z
 | n+1,z=>leaps mask n (SetTable.leap mask z.1 z.2)
theorem zbz(mask:Nat):∀ (a b:Nat) (z:Nat × Nat),leaps mask (a+b) z=leaps mask b (leaps mask a z)
 | 0,b,z=>by rw [Nat.zero_add];rfl
 | a+1,b,z=>by rw [Nat.succ_add];exact zbz mask a b _
theorem zby(mask:Nat):∀ (n:Nat) (z:Nat × Nat),(leaps mask n z).2=z.2 / 32 ^ n
 | 0,z=>by simp [leaps]
 | n+1,z=>by
  unfold leaps
  rw [zby mask n]
  show z.2 / 32 / 32 ^ n=_
  rw [Nat.div_div_eq_div_mul,Nat.pow_succ,Nat.mul_comm]
theorem zdq(mask:Nat):∀ (n:Nat) (z:Nat × Nat),z.1≤mask->(leaps mask n z).1≤mask
 | 0,z,h=>h
 | n+1,z,h=>zdq mask n _ (Nat.le_of_lt_succ (Nat.mod_lt _ (Nat.succ_pos _)))
noncomputable def jW(mask:Nat):Nat->Nat->Nat
 | 0,i=>i
 | n+1,i=>jW mask n ((i * 5+1) % (mask+1))
theorem zcX(mask:Nat):∀ (n i:Nat),leaps mask n (i,0)=(jW mask n i,0)
 | 0,i=>rfl
 | n+1,i=>by
  show leaps mask n ((i * 5+1+0 / 32) % (mask+1),0 / 32)=_
  rw [Nat.zero_div,Nat.add_zero,zcX mask n];rfl
theorem jL(mask:Nat):∀ (a b i:Nat),jW mask (a+b) i=jW mask b (jW mask a i)
 | 0,b,i=>by rw [Nat.zero_add];rfl
 | a+1,b,i=>by rw [Nat.succ_add];exact jL mask a b _
noncomputable def Full(mask:Nat):Prop:=jW mask (mask+1) 0=0/\∀ j,j≤mask->∃ a,a≤mask/\jW mask a 0=j
noncomputable def zhM(mask:Nat):Nat->Nat->List Nat
 | 0,_=>[]
 | n+1,i=>i::zhM mask n ((i * 5+1) % (mask+1))
theorem zbv(mask:Nat):∀ (n i j:Nat),j ∈ zhM mask n i->∃ a,a<n/\jW mask a i=j
 | 0,i,j,h=>by cases h
 | n+1,i,j,h=>by
  rcases List.mem_cons.mp h with rfl | h
  ·exact ⟨0,Nat.succ_pos _,rfl⟩
  ·obtain ⟨a,ha,e⟩:=zbv mask n _ j h
   exact ⟨a+1,Nat.succ_lt_succ ha,e⟩
theorem zcA{mask:Nat}(h1:jW mask (mask+1) 0=0)(h2:((List.range (mask+1)).all fun j=>(zhM mask (mask+1) 0).contains j)=true):Full mask:=by
 refine ⟨h1,fun j hj=>?_⟩
 have:=List.all_eq_true.mp h2 j (List.mem_range.mpr (Nat.lt_succ_of_le hj))
 obtain ⟨a,ha,e⟩:=zbv mask (mask+1) 0 j (List.contains_iff_mem.mp this)
 exact ⟨a,Nat.le_of_lt_succ ha,e⟩
theorem full7:Full 7:=zcA (by decide +kernel) (by decide +kernel)
theorem full31:Full 31:=zcA (by decide +kernel) (by decide +kernel)
theorem full127:Full 127:=zcA (by decide +kernel) (by decide +kernel)
theorem Full.to{mask:Nat}(F:Full mask){i j:Nat}(hi:i≤mask)(hj:j≤mask):∃ m,m≤mask/\jW mask m i=j:=by
 obtain ⟨a,ha,ea⟩:=F.2 i hi
 obtain ⟨b,hb,eb⟩:=F.2 j hj
 by_cases h:a≤b
 ·refine ⟨b - a,by omega,?_⟩
  rw [← ea,← jL,show a+(b - a)=b by omega,eb]
 ·refine ⟨mask+1+b - a,by omega,?_⟩
  rw [← ea,← jL,show a+(mask+1+b - a)=mask+1+b by omega,jL,F.1,eb]
theorem Full.leaps{mask:Nat}(F:Full mask){i p j:Nat}(hi:i≤mask)(hp:p<2 ^ 64)(hj:j≤mask):∃ n,n<SetTable.turns mask/\(Tab.leaps mask n (i,p)).1=j:=by
 have hz:(Tab.leaps mask 13 (i,p)).2=0:=by
  rw [zby]
  exact Nat.div_eq_of_lt (Nat.lt_of_lt_of_le hp (by decide))
 obtain ⟨m,hm,e⟩:=F.to (zdq mask 13 (i,p) hi) hj
 refine ⟨13+m,by show _<mask+15;omega,?_⟩
 rw [zbz]
 have:Tab.leaps mask 13 (i,p)=((Tab.leaps mask 13 (i,p)).1,0):=Prod.ext rfl hz
 rw [this,zcX,e]
theorem zfC(h:Int):SetTable.bits h<2 ^ 64:=by
 unfold SetTable.bits
 have:=Int.emod_lt_of_pos h (show (0:Int)<2 ^ 64 by decide)
 have:=Int.emod_nonneg h (show (2 ^ 64:Int)≠0 by decide)
 omega
theorem kj{mask i:Nat}(hi:i≤mask):i≤SetTable.runEnd mask i/\SetTable.runEnd mask i≤mask/\SetTable.runEnd mask i≤i+9:=by
 unfold SetTable.runEnd
 split<;>omega
theorem zkc{mask:Nat}{owner:Array (Option Nat)}{j:Nat}(hj:owner.getD j (some 0)=none):∀ (n fuel i p:Nat),n<fuel->i≤mask->(leaps mask n (i,p)).1=j->∃ j',SetTable.layClean.free mask owner fuel i p=some j'/\j'≤mask/\owner.getD j' (some 0)=none:=by
 intro n
 induction n with
 | zero=>
  intro fuel i p hf hi e
  obtain ⟨f,rfl⟩:=Nat.exists_eq_succ_of_ne_zero (Nat.ne_of_gt hf)
  have e':i=j:=e
  subst e'
  have hr:=kj hi
  unfold SetTable.layClean.free
  cases h:(List.range (SetTable.runEnd mask i+1 - i)).find? fun k=>(owner.getD (i+k) (some 0)).isNone with
  | none=>
   have:=List.find?_eq_none.mp h 0 (List.mem_range.mpr (by omega))
   rw [Nat.add_zero,hj] at this
   exact absurd rfl this
  | some k=>
   have h1:=List.mem_range.mp (List.mem_of_find?_eq_some h)
   have h2:=List.find?_some h
   exact ⟨i+k,rfl,by omega,Option.isNone_iff_eq_none.mp h2⟩
 | succ n ih=>
  intro fuel i p hf hi e
  obtain ⟨f,rfl⟩:=Nat.exists_eq_succ_of_ne_zero (Nat.ne_of_gt (Nat.lt_of_le_of_lt (Nat.zero_le _) hf))
  have hr:=kj hi
  unfold SetTable.layClean.free
  cases h:(List.range (SetTable.runEnd mask i+1 - i)).find? fun k=>(owner.getD (i+k) (some 0)).isNone with
  | some k=>
   have h1:=List.mem_range.mp (List.mem_of_find?_eq_some h)
   have h2:=List.find?_some h
   exact ⟨i+k,rfl,by omega,Option.isNone_iff_eq_none.mp h2⟩
  | none=>exact ih f _ _ (by omega) (Nat.le_of_lt_succ (Nat.mod_lt _ (Nat.succ_pos _))) e
theorem ziu:∀ (l:List (Option Nat)) (j k:Nat),l[j]?=some none->((l.set j (some k)).filterMap id).Perm (k::l.filterMap id)
 | [],j,k,h=>by simp at h
 | x::l,0,k,h=>by
  have:x=none:=by simpa using h
  subst this
  exact .refl _
 | x::l,j+1,k,h=>by
  have ih:=ziu l j k (by simpa using h)
  rw [List.set_cons_succ]
  cases x with
  | none=>simpa using ih
  | some y=>
   simp only [List.filterMap_cons,id]
   exact (ih.cons y).trans (.swap _ _ _)
theorem zfo:∀ (l:List (Option Nat)),(l.filterMap id).length<l.length->∃ j,j<l.length/\l[j]?=some none
 | [],h=>by simp at h
 | none::l,h=>⟨0,by simp,rfl⟩
 | some y::l,h=>by
  obtain ⟨j,h1,h2⟩:=zfo l (by simpa using h)
  exact ⟨j+1,by simpa using h1,by simpa using h2⟩
structure Laid (mask:Nat) (owner:Array (Option Nat)) (k:Nat):Prop where
 size:owner.size=mask+1
 perm:(owner.toList.filterMap id).Perm (List.range k).reverse
theorem u5{owner:Array (Option Nat)}{j:Nat}{d:Option Nat}:owner.getD j d=owner.toList[j]?.getD d:=by
 rw [Array.getD_eq_getD_getElem?,Array.getElem?_toList]
theorem zia {mask : Nat} (F : Full mask) : ∀ (hs : List Int) (owner : Array (Option Nat)) (k : Nat), Laid mask owner k → k + hs.length ≤ mask → ∃ owner', hs.foldl (fun acc h => do
      let (owner, k) ← acc
      let j ← SetTable.layClean.free mask owner (SetTable.turns mask) (SetTable.bits h % (mask + 1)) (SetTable.bits h)
      pure (owner.setIfInBounds j (some k), k + 1)) (some (owner, k)) = some (owner', k + hs.length) ∧ Laid mask owner' (k + hs.length)
  | [], owner, k, L, hk => ⟨owner, rfl, L⟩
  | h :: hs, owner, k, L, hk => by
    rw [List.length_cons] at hk
    have hlen : (owner.toList.filterMap id).length = k := by rw [L.perm.length_eq]; simp
    obtain ⟨j0, hj0, hj1⟩ := zfo owner.toList (by rw [hlen, Array.length_toList, L.size]; omega)
    rw [Array.length_toList, L.size] at hj0
    have hi : SetTable.bits h % (mask + 1) ≤ mask := Nat.le_of_lt_succ (Nat.mod_lt _ (Nat.succ_pos _))
    obtain ⟨n, hn, e⟩ := F.leaps (j := j0) hi (zfC h) (by omega)
    obtain ⟨j, f1, f2, f3⟩ := zkc (mask := mask) (owner := owner) (j := j0) (by rw [u5, hj1]; rfl) n _ _ _ hn hi e
    have hjs : j < owner.size := by rw [L.size]; omega
    have hjn : owner.toList[j]? = some none := by
      rw [u5] at f3
      cases q : owner.toList[j]? with
      | none => rw [q] at f3; cases f3
      | some x => rw [q] at f3; exact congrArg some f3
    have L' : Laid mask (owner.setIfInBounds j (some k)) (k + 1) := by
      refine ⟨by rw [Array.size_setIfInBounds]; exact L.size, ?_⟩
      rw [Array.toList_setIfInBounds, List.range_succ, List.reverse_append]
      exact (ziu _ j k hjn).trans (L.perm.cons k)
    obtain ⟨owner', g1, g2⟩ := zia F hs _ (k + 1) L' (by omega)
    refine ⟨owner', ?_, by rw [List.length_cons, show k + (hs.length + 1) = k + 1 + hs.length by omega]; exact g2⟩
    rw [List.foldl_cons, List.length_cons, show k + (hs.length + 1) = k + 1 + hs.length by omega, ← g1]
    congr 1
    show (do let j ← SetTable.layClean.free mask owner _ _ _; pure (owner.setIfInBounds j (some k), k + 1)) = _
    rw [f1]; rfl
theorem zdr{mask:Nat}(F:Full mask){hashes:Array Int}(hn:hashes.size≤mask):∃ owner,SetTable.layClean mask hashes=some owner/\Laid mask owner hashes.size:=by
 have L0:Laid mask (Array.replicate (mask+1) none) 0:=⟨by simp,by
  have:(Array.replicate (mask+1) (none:Option Nat)).toList.filterMap id=[]:=by
   rw [Array.toList_replicate,List.filterMap_eq_nil_iff]
   intro a ha
   rw [List.eq_of_mem_replicate ha];rfl
  rw [this];exact .refl _⟩
 obtain ⟨owner,h1,h2⟩:=zia F hashes.toList _ 0 L0 (by rw [Array.length_toList];omega)
 rw [Nat.zero_add,Array.length_toList] at h1 h2
 refine ⟨owner,?_,h2⟩
 unfold SetTable.layClean
 rw [← Array.foldl_toList,h1];rfl
noncomputable def zeO(xs:Array Nat):Prop:=xs.toList.Pairwise (·<·)
structure Good (t:SetTable) (n:Nat) (led:Bool):Prop where
 full:Full t.mask
 size:t.place.size=n
 room:n≤t.mask
 dm:t.dummies=#[]
 rise:zeO t.place
 le:∀ j ∈ t.place.toList,j≤t.mask
 led:t.led=led
 plain:t.plain=true
theorem Good.fits{t:SetTable}{n:Nat}{led:Bool}(g:Good t n led):t.fits n=true:=by
 unfold SetTable.fits SetTable.fill
 rw [g.dm,g.size]
 simp [g.room]
theorem laid_ok{mask finger moves:Nat}{led plain:Bool}{hashes:Array Int}(F:Full mask)(hn:hashes.size≤mask)(hp:plain=true):∃ t order,SetTable.laid mask finger moves led plain hashes=some (t,order)/\order.toList.Perm (List.range hashes.size)/\Good t hashes.size led/\t.mask=mask:=by
 obtain ⟨owner,h1,L⟩:=zdr F hn
 let live:=(List.range (mask+1)).filterMap fun j=>(owner.getD j none).map (j,·)
 have hs:live.map (·.2)=owner.toList.filterMap id:=by
  have e1:live.map (·.2)=(List.range (mask+1)).filterMap fun j=>owner.getD j none:=by
   rw [List.map_filterMap]
   congr 1
   funext j
   cases owner.getD j none<;>rfl
  have e2:owner.toList=(List.range (mask+1)).map fun j=>owner.getD j none:=by
   apply List.ext_getElem?
   intro j
   rw [List.getElem?_map]
   by_cases hj:j<mask+1
   ·rw [List.getElem?_range hj,Option.map_some,u5]
    have:j<owner.toList.length:=by rw [Array.length_toList,L.size];exact hj
    rw [List.getElem?_eq_getElem this];rfl
   ·rw [List.getElem?_eq_none (by rw [Array.length_toList,L.size];omega),List.getElem?_eq_none (by rw [List.length_range];omega)];rfl
  rw [e1]
  conv=>rhs;rw [e2,List.filterMap_map]
  rfl
 have hp2:(live.map (·.2)).Perm (List.range hashes.size):=by rw [hs];exact L.perm.trans (List.reverse_perm _)
 have hl:live.length=hashes.size:=by have:=hp2.length_eq;simpa using this
 have hr:(live.map (·.1)).Pairwise (·<·):=by
  rw [List.pairwise_map]
  refine List.Pairwise.filterMap _ (fun a a' hlt b hb b' hb'=>?_) List.pairwise_lt_range
  obtain ⟨x,_,rfl⟩:=Option.map_eq_some_iff.mp hb
  obtain ⟨y,_,rfl⟩:=Option.map_eq_some_iff.mp hb'
  exact hlt
 have hle:∀ j ∈ live.map (·.1),j≤mask:=fun j hj=>by
  obtain ⟨z,hz,rfl⟩:=List.mem_map.mp hj
  obtain ⟨a,ha,hb⟩:=List.mem_filterMap.mp hz
  obtain ⟨x,_,rfl⟩:=Option.map_eq_some_iff.mp hb
  have:=List.mem_range.mp ha
  show a≤mask
  omega
 refine ⟨{ mask,place:=(live.map (·.1)).toArray,dummies:=#[],finger,led,moves,plain },(live.map (·.2)).toArray,?_,by simpa using hp2,⟨F,by simpa using hl,hn,rfl,by unfold zeO;simpa using hr,by simpa using hle,rfl,hp⟩,rfl⟩
 unfold SetTable.laid
 rw [h1];rfl
theorem ziU{xs:Array Nat}{j:Nat}(hr:zeO xs):∀ (fuel lo hi:Nat),lo≤hi->hi≤xs.size->hi - lo≤fuel->(∀ i x,i<lo->xs[i]?=some x->x<j)->(∀ i x,hi≤i->xs[i]?=some x->j≤x)->
  SetTable.below.go xs j fuel lo hi≤xs.size/\(∀ i x,i<SetTable.below.go xs j fuel lo hi->xs[i]?=some x->x<j)/\∀ i x,SetTable.below.go xs j fuel lo hi≤i->xs[i]?=some x->j≤x:=by
 have mono:∀ a b x y,a<b->xs[a]?=some x->xs[b]?=some y->x<y:=fun a b x y hab ha hb=>by
  rw [← Array.getElem?_toList] at ha hb
  obtain ⟨h1,e1⟩:=List.getElem?_eq_some_iff.mp ha
  obtain ⟨h2,e2⟩:=List.getElem?_eq_some_iff.mp hb
  rw [← e1,← e2]
  exact List.pairwise_iff_getElem.mp hr a b h1 h2 hab
 intro fuel
 induction fuel with
 | zero=>
  intro lo hi h1 h2 h3 h4 h5
  unfold SetTable.below.go
  obtain rfl:lo=hi:=by omega
  exact ⟨h2,h4,h5⟩
 | succ fuel ih=>
  intro lo hi h1 h2 h3 h4 h5
  unfold SetTable.below.go
  by_cases hlt:lo<hi
  ·rw [if_pos hlt]
   dsimp only
   have hm:(lo+hi) / 2<xs.size:=by omega
   have hg:xs[(lo+hi) / 2]?=some (xs.getD ((lo+hi) / 2) j):=by
    rw [Array.getD_eq_getD_getElem?,getElem?_pos xs _ hm];rfl
   generalize hx:xs.getD ((lo+hi) / 2) j=x at hg
   split
   ·rename_i hc
    exact ih _ _ (by omega) h2 (by omega) (fun i y hi' hy=>by
     by_cases e:i=(lo+hi) / 2
     ·rw [e,hg] at hy;cases hy;exact hc
     ·exact Nat.lt_trans (mono i _ y x (by omega) hy hg) hc) h5
   ·rename_i hc
    exact ih _ _ (by omega) (by omega) (by omega) h4 (fun i y hi' hy=>by
     by_cases e:i=(lo+hi) / 2
     ·rw [e,hg] at hy;cases hy;omega
     ·have:=mono _ i x y (by omega) hg hy;omega)
  ·rw [if_neg hlt]
   obtain rfl:lo=hi:=by omega
   exact ⟨h2,h4,h5⟩
theorem below_ok{xs:Array Nat}(hr:zeO xs)(j:Nat):SetTable.below xs j≤xs.size/\(∀ i x,i<SetTable.below xs j->xs[i]?=some x->x<j)/\∀ i x,SetTable.below xs j≤i->xs[i]?=some x->j≤x:=
 ziU hr _ 0 xs.size (Nat.zero_le _) (Nat.le_refl _) (by omega) (fun i x h=>absurd h (Nat.not_lt_zero _)) fun i x h e=>by
  rw [getElem?_neg xs i (by omega)] at e;cases e
theorem zdv{xs:Array Nat}{j:Nat}(hr:zeO xs)(hj:xs[SetTable.below xs j]?≠some j):zeO (SetTable.insertAt xs (SetTable.below xs j) j):=by
 obtain ⟨b1,b2,b3⟩:=below_ok hr j
 unfold zeO
 rw [SetTable.toList_insertAt,List.pairwise_append,List.pairwise_cons]
 refine ⟨hr.sublist (List.take_sublist _ _),⟨fun y hy=>?_,hr.sublist (List.drop_sublist _ _)⟩,fun x hx y hy=>?_⟩
 ·obtain ⟨i,hi⟩:=List.mem_iff_getElem?.mp hy
  rw [List.getElem?_drop,Array.getElem?_toList] at hi
  have h1:=b3 _ _ (Nat.le_add_right _ _) hi
  by_cases e:y=j
  ·subst e
   cases i with
   | zero=>exact absurd hi hj
   | succ i=>
    have hb:SetTable.below xs y<xs.size:=by
     have:=(Array.getElem?_eq_some_iff.mp hi).1;omega
    have h2:=b3 _ _ (Nat.le_refl _) (getElem?_pos xs _ hb)
    have h3:=List.pairwise_iff_getElem.mp hr (SetTable.below xs y) (SetTable.below xs y+(i+1)) (by rw [Array.length_toList];exact hb) (by rw [Array.length_toList];exact (Array.getElem?_eq_some_iff.mp hi).1) (by omega)
    rw [Array.getElem_toList,Array.getElem_toList] at h3
    have h4:=(Array.getElem?_eq_some_iff.mp hi).2
    omega
  ·omega
 ·have hxj:x<j:=by
   obtain ⟨i,hi⟩:=List.mem_iff_getElem?.mp hx
   rw [List.getElem?_take] at hi
   split at hi
   ·rename_i h;rw [Array.getElem?_toList] at hi;exact b2 i x h hi
   ·cases hi
  rcases List.mem_cons.mp hy with rfl | hy
  ·exact hxj
  ·obtain ⟨i,hi⟩:=List.mem_iff_getElem?.mp hy
   rw [List.getElem?_drop,Array.getElem?_toList] at hi
   have h1:=b3 _ _ (Nat.le_add_right _ _) hi
   omega
theorem zed{t:SetTable}(hd:t.dummies=#[]){j:Nat}(h:j ∉ t.place.toList):t.slot j=.empty:=by
 unfold SetTable.slot
 dsimp only
 rw [if_neg,hd]
 ·rfl
 ·intro e
  have:=beq_iff_eq.mp e
  rw [← Array.getElem?_toList] at this
  exact h (List.mem_of_getElem? this)
theorem zhf{t:SetTable}{j:Nat}(h:t.slot j=.empty):t.place[SetTable.below t.place j]?≠some j:=fun e=>by
 unfold SetTable.slot at h
 dsimp only at h
 rw [if_pos (beq_iff_eq.mpr e)] at h
 cases h
theorem qr{t:SetTable}(hd:t.dummies=#[])(j:Nat):t.slot j≠.dummy:=fun h=>by
 unfold SetTable.slot at h
 dsimp only at h
 split at h
 ·cases h
 ·rw [hd] at h;cases h
noncomputable def zct(t:SetTable)(P:SetTable.Probe):SetTable.Probe:={ P with j:=(SetTable.leap t.mask P.i P.perturb).1,more:=SetTable.runEnd t.mask (SetTable.leap t.mask P.i P.perturb).1 - (SetTable.leap t.mask P.i P.perturb).1,i:=(SetTable.leap t.mask P.i P.perturb).1,perturb:=(SetTable.leap t.mask P.i P.perturb).2 }
section
variable {t:SetTable} {hashAt:Nat->Int} {h:Int}
theorem zfn(f:Nat)(P:SetTable.Probe):SetTable.probe.go t hashAt h (f+1) P=match t.slot P.j with
  | .empty=>some (.empty P.j P.dummy)
  | .dummy=>SetTable.probe.go t hashAt h f (t.advance { P with dummy:=some P.j })
  | .live i=>if hashAt i == h then some (.candidate P.j i (t.advance P)) else SetTable.probe.go t hashAt h f (t.advance P):=rfl
theorem zkR(hd:t.dummies=#[])(hA:∀ i,(hashAt i == h)=false):∀ (m fuel:Nat) (P:SetTable.Probe),P.more=m->m<fuel->P.j+m≤t.mask->
  (∃ j,SetTable.probe.go t hashAt h fuel P=some (.empty j P.dummy)/\t.slot j=.empty/\j≤t.mask)∨SetTable.probe.go t hashAt h fuel P=SetTable.probe.go t hashAt h (fuel - (m+1)) (zct t P):=by
 intro m
 induction m with
 | zero=>
  intro fuel P hm hf hj
  obtain ⟨f,rfl⟩:=Nat.exists_eq_succ_of_ne_zero (Nat.ne_of_gt hf)
  rw [Nat.succ_eq_add_one,zfn]
  cases hs:t.slot P.j with
  | empty=>exact .inl ⟨P.j,rfl,hs,by omega⟩
  | dummy=>exact absurd hs (qr hd _)
  | live i=>
   right
   dsimp only
   rw [hA i,if_neg Bool.false_ne_true]
   have:t.advance P=zct t P:=by
    unfold SetTable.advance
    rw [if_neg (by omega)];rfl
   rw [this];rfl
 | succ m ih=>
  intro fuel P hm hf hj
  obtain ⟨f,rfl⟩:=Nat.exists_eq_succ_of_ne_zero (Nat.ne_of_gt (Nat.lt_of_le_of_lt (Nat.zero_le _) hf))
  rw [Nat.succ_eq_add_one,zfn]
  cases hs:t.slot P.j with
  | empty=>exact .inl ⟨P.j,rfl,hs,by omega⟩
  | dummy=>exact absurd hs (qr hd _)
  | live i=>
   dsimp only
   rw [hA i,if_neg Bool.false_ne_true]
   have:t.advance P={ P with j:=P.j+1,more:=m }:=by
    unfold SetTable.advance
    rw [if_pos (by omega),hm];rfl
   rw [this]
   rcases ih f { P with j:=P.j+1,more:=m } rfl (by omega) (by show P.j+1+m≤t.mask;omega) with h1 | h1
   ·exact .inl h1
   ·right
    rw [h1,show f+1 - (m+1+1)=f - (m+1) by omega];rfl
theorem zhx(hd:t.dummies=#[])(hA:∀ i,(hashAt i == h)=false){j0:Nat}(h0:t.slot j0=.empty):∀ (n fuel:Nat) (P:SetTable.Probe),P.j=P.i->P.more=SetTable.runEnd t.mask P.i - P.i->P.i≤t.mask->10 * n+10≤fuel->(leaps t.mask n (P.i,P.perturb)).1=j0->
  ∃ j,SetTable.probe.go t hashAt h fuel P=some (.empty j P.dummy)/\t.slot j=.empty/\j≤t.mask:=by
 intro n
 induction n with
 | zero=>
  intro fuel P h1 h2 h3 h4 h5
  obtain ⟨f,rfl⟩:=Nat.exists_eq_succ_of_ne_zero (show fuel≠0 by omega)
  have e:P.j=j0:=h1.trans h5
  unfold SetTable.probe.go
  rw [e,h0]
  exact ⟨j0,rfl,h0,by omega⟩
 | succ n ih=>
  intro fuel P h1 h2 h3 h4 h5
  have hr:=kj h3
  rcases zkR hd hA P.more fuel P rfl (by omega) (by omega) with h6 | h6
  ·exact h6
  ·rw [h6]
   exact ih _ (zct t P) rfl rfl (Nat.le_of_lt_succ (Nat.mod_lt _ (Nat.succ_pos _))) (by omega) h5
end
theorem znS:∀ (mask:Nat) (l:List Nat),l.Pairwise (·<·)->l.length≤mask->∃ j,j≤mask/\j ∉ l:=by
 intro mask l hr hl
 refine Classical.byContradiction fun hn=>?_
 have sub:∀ j ∈ List.range (mask+1),j ∈ l:=fun j hj=>Classical.byContradiction fun h=>hn ⟨j,Nat.le_of_lt_succ (List.mem_range.mp hj),h⟩
 have nd:((List.range (mask+1)).map Int.ofNat).Nodup:=by
  rw [List.nodup_iff_pairwise_ne,List.pairwise_map]
  exact List.pairwise_lt_range.imp fun h e=>by have:=Int.ofNat.inj e;omega
 have:=L2.len_le_of _ (l.map Int.ofNat) nd fun x hx=>by
  obtain ⟨j,hj,rfl⟩:=List.mem_map.mp hx
  exact List.mem_map.mpr ⟨j,sub j hj,rfl⟩
 rw [List.length_map,List.length_map,List.length_range] at this
 omega
theorem zdx{t:SetTable}{n:Nat}{led:Bool}(g:Good t n led)(h:Int):∃ j,t.freeSlot h=some (j,false)/\t.slot j=.empty/\j≤t.mask:=by
 obtain ⟨j0,h0,h1⟩:=znS t.mask t.place.toList g.rise (by rw [Array.length_toList,g.size];exact g.room)
 have hi:SetTable.bits h % (t.mask+1)≤t.mask:=Nat.le_of_lt_succ (Nat.mod_lt _ (Nat.succ_pos _))
 obtain ⟨m,hm,e⟩:=g.full.leaps (j:=j0) hi (zfC h) h0
 obtain ⟨j,e1,e2,e3⟩:=zhx (t:=t) (hashAt:=fun _=>h+1) (h:=h) g.dm (fun _=>beq_eq_false_iff_ne.mpr (by omega)) (zed g.dm h1) m (10 * SetTable.turns t.mask) (t.probeStart h) rfl rfl hi (by omega) e
 refine ⟨j,?_,e2,e3⟩
 unfold SetTable.freeSlot SetTable.probe
 rw [e1];rfl
theorem zkY{t:SetTable}{n:Nat}{led:Bool}(g:Good t n led)(hn:n+1≤t.mask){j:Nat}(hs:t.slot j=.empty)(hj:j≤t.mask):Good (t.put j).1 (n+1) led/\(t.put j).1.mask=t.mask:=by
 have hd:(t.put j).1.dummies=#[]:=by
  unfold SetTable.put
  dsimp only
  rw [g.dm];rfl
 refine ⟨⟨g.full,?_,hn,hd,zdv g.rise (zhf hs),fun k hk=>?_,g.led,g.plain⟩,rfl⟩
 ·show (SetTable.insertAt t.place (SetTable.below t.place j) j).size=n+1
  have:=(SetTable.insertAt_perm t.place (SetTable.below t.place j) j).length_eq
  rw [Array.length_toList,Array.length_toList,Array.size_push,g.size] at this
  exact this
 ·have hk':k ∈ (SetTable.insertAt t.place (SetTable.below t.place j) j).toList:=hk
  rw [(SetTable.insertAt_perm t.place (SetTable.below t.place j) j).mem_iff,Array.toList_push] at hk'
  rcases List.mem_append.mp hk' with h | h
  ·exact g.le k h
  ·rw [List.mem_singleton.mp h];exact hj
theorem layNew_ok{t:SetTable}{n:Nat}{led:Bool}{es:Array (Int × Value)}(g:Good t n led)(hn:n+1≤t.mask)(he:es.size=n)(h:Int)(x:Value):∃ es' t',layNew t es h x=(es',t',false,false)/\Good t' (n+1) led/\t'.mask=t.mask/\es'.toList.Perm (es.push (h,x)).toList:=by
 obtain ⟨j,e1,e2,e3⟩:=zdx g h
 obtain ⟨g',hm⟩:=zkY g hn e2 e3
 have hp:=layNew_perm t es h x
 have hsz:(SetTable.insertAt es (t.put j).2 (h,x)).size=n+1:=by
  have:=(SetTable.insertAt_perm es (t.put j).2 (h,x)).length_eq
  rw [Array.length_toList,Array.length_toList,Array.size_push,he] at this
  exact this
 have hf:=g'.fits
 rw [← hsz] at hf
 have hl:layNew t es h x=(SetTable.insertAt es (t.put j).2 (h,x),(t.put j).1,false,false):=by
  unfold layNew
  rw [e1]
  show (_,SetTable.orStandIn (t.put j).1 (SetTable.insertAt es (t.put j).2 (h,x)).size,false,!(t.put j).1.fits (SetTable.insertAt es (t.put j).2 (h,x)).size)=_
  unfold SetTable.orStandIn
  rw [hf];rfl
 rw [hl] at hp
 exact ⟨_,_,hl,g',hm,hp⟩
theorem relay_ok{t:SetTable}{n wanted:Nat}{led:Bool}{es:Array (Int × Value)}(g:Good t n led)(F:Full (SetTable.sizeAbove wanted - 1))(he:es.size=n)(hn:n≤SetTable.sizeAbove wanted - 1):∃ es' t',relayAll t es wanted=(es',t',false)/\Good t' n led/\t'.mask=SetTable.sizeAbove wanted - 1/\es'.toList.Perm es.toList:=by
 obtain ⟨t',order,h1,h2,h3,h4⟩:=laid_ok (finger:=t.finger) (moves:=t.movedTo (SetTable.sizeAbove wanted - 1)) (led:=t.led) (plain:=t.plain) (hashes:=es.map (·.1)) F (by rw [Array.size_map,he];exact hn) g.plain
 rw [Array.size_map,he] at h2 h3
 rw [g.led] at h3
 have hp:=relayAll_perm t es wanted
 have hz:(order.filterMap (es[·]?)).size=n:=by
  have e:=(h2.filterMap (es[·]?))
  rw [← he,filterMap_getElem?_range] at e
  have:=e.length_eq
  rw [← he,← Array.length_toList,Array.toList_filterMap,this,Array.length_toList]
 have hl:relayAll t es wanted=(order.filterMap (es[·]?),t',false):=by
  unfold relayAll SetTable.relaid
  rw [h1]
  dsimp only
  rw [if_pos]
  rw [hz,h3.fits]
  unfold coversAll
  rw [he,List.isPerm_iff.mpr h2];rfl
 rw [hl] at hp
 exact ⟨_,_,hl,h3,h4,hp⟩
end Tab
end F
namespace F
open PySem PySem.Spec PyProof.Rows
noncomputable def elN(e:Int × Value):Int:=numOf e.2
structure SetTb (prog:Program) (w:World) (es:Array (Int × Value)) (t:SetTable) (L:List Int) (led:Bool):Prop where
 el:ElemsOf (intKind prog w) es.toList
 perm:(es.toList.map elN).Perm L
 good:Tab.Good t es.size led
 mask:t.mask=7∨t.mask=31∨t.mask=127
 nf:es.size * 5<t.mask * 3
noncomputable def SetI(prog:Program)(w:World)(h:Heap)(a:Addr)(L:List Int)(led:Bool):Prop:=∃ o es ep t,h.get? a=some o/\o.ExactSet/\o.data=.set es ep t/\SetTb prog w es t L led
section
variable {prog:Program} {w:World} {A:Around} {E:Value->Shared->Prop} {s:Shared}
theorem zii{k:Int}{e:Int × Value}(h:(∃ k,(intKind prog w).is k e.2=true/\e.1=(intKind prog w).hash k)/\e.2.scannable=true):(intKind prog w).is k e.2=true ↔ elN e=k:=by
 obtain ⟨⟨k',h1,_⟩,_⟩:=h
 obtain ⟨t,e1⟩:=Value.isInt_shape h1
 constructor
 ·intro h2
  obtain ⟨t',e2⟩:=Value.isInt_shape h2
  unfold elN;rw [e2];rfl
 ·intro h2
  unfold elN at h2
  rw [e1] at h2 ⊢
  have:k'=k:=h2
  subst this
  exact intKind_is _ _ _ _
theorem SetTb.size{es:Array (Int × Value)}{t:SetTable}{L:List Int}{led:Bool}(b:SetTb prog w es t L led):es.size=L.length:=by
 have:=b.perm.length_eq
 rw [List.length_map,Array.length_toList] at this
 exact this
theorem SetTb.mem{es:Array (Int × Value)}{t:SetTable}{L:List Int}{led:Bool}(b:SetTb prog w es t L led)(k:Int):k ∈ L ↔ ∃ e ∈ es.toList,(intKind prog w).is k e.2=true:=by
 rw [← b.perm.mem_iff,List.mem_map]
 exact ⟨fun ⟨e,h1,h2⟩=>⟨e,h1,(zii (b.el e h1)).mpr h2⟩,fun ⟨e,h1,h2⟩=>⟨e,h1,(zii (b.el e h1)).mp h2⟩⟩
theorem zbq{h:Heap}{a:Addr}{o:Obj}{es es':Array (Int × Value)}{ep:Nat}{t t':SetTable}(ho:h.get? a=some o)(hd:o.data=.set es ep t):(h.update a (Obj.putSet es' t')).get? a=some { o with data:=.set es' (ep+1) t' }:=by
 have:=Heap.get?_update_self (Obj.putSet es' t') ho (by rw [putSet_of es' t' hd];rfl)
 rw [putSet_of es' t' hd] at this;exact this
theorem zdP{a:Addr}{L:List Int}{led:Bool}{n:Int}{tk:Tok}{Q:Bool->Shared->Prop}(hS:SetI prog w s.heap a L led)(hl:L.length<63)
  (h:∀ h' b,Heap.SameBut a s.heap h'->SetI prog w h' a (if n ∈ L then L else L++[n]) led->Q b { s with heap:=h' }):wpAny (model prog w) A (setAddHashed a (.int n tk) ((intKind prog w).hash n)) Q E s:=by
 obtain ⟨o,es,ep,t,ho,hex,hd,B⟩:=hS
 have hf:=B.good.fits
 have hsz:=B.size
 have hb:es.size<scanBound:=by show es.size<4096;omega
 have hkey:=intKind_is prog w n tk
 unfold setAddHashed setAddHashedIn
 refine wpAny_holding (wpAny_bind (wpAny_setState_of ho hd hf ?_))
 dsimp only
 rw [byScan_of (knd:=intKind prog w) rfl hb B.el]
 simp only [↓reduceIte]
 unfold setAddByScan
 refine wpAny_bind ?_
 refine wpAny_bind (wpAny_rule ?_)
 refine wpAny_bind (wpAny_setScan_of hkey ho hd hf B.el ?_)
 cases hr:List.findIdx? (fun e=>(intKind prog w).is n e.2) es.toList with
 | some j=>
  dsimp only
  obtain ⟨hj,hpj,_⟩:=List.findIdx?_eq_some_iff_getElem.mp hr
  have hn:n ∈ L:=(B.mem n).mpr ⟨_,List.getElem_mem hj,hpj⟩
  refine wpAny_pure (wpAny_pure ?_)
  have:=h s.heap false (Heap.SameBut.refl a s.heap) (by rw [if_pos hn];exact ⟨o,es,ep,t,ho,hex,hd,B⟩)
  exact this
 | none=>
  dsimp only
  have hn:n ∉ L:=fun z=>by
   obtain ⟨e,he,hp⟩:=(B.mem n).mp z
   have:=List.findIdx?_eq_none_iff.mp hr e he
   rw [hp] at this;exact Bool.noConfusion this
  obtain ⟨es1,t1,e1,g1,m1,p1⟩:=Tab.layNew_ok (es:=es) B.good (by have:=B.nf;rcases B.mask with h | h | h<;>omega) rfl ((intKind prog w).hash n) (.int n tk)
  rw [e1]
  dsimp only
  refine wpAny_bind (wpAny_pure ?_)
  rw [g1.plain,if_pos rfl]
  refine wpAny_bind ?_
  rw [hashByValue_scannable 8 (show (Value.int n tk).scannable=true from rfl)]
  refine wpAny_pure ?_
  simp only [show plainKind (Value.int n tk)=true from rfl,if_true]
  rw [Array.toList_push] at p1
  have hz1:es1.size=es.size+1:=by
   have:=p1.length_eq
   rw [Array.length_toList,List.length_append,Array.length_toList,List.length_singleton] at this
   exact this
  have el1:ElemsOf (intKind prog w) es1.toList:=(B.el.push hkey rfl).perm p1
  have pm1:(es1.toList.map elN).Perm (L++[n]):=(p1.map elN).trans (by rw [List.map_append];exact B.perm.append_right _)
  have hb1:es1.size<scanBound:=by show es1.size<4096;omega
  show wpAny _ _ (storeSet a es1 t1 >>= _) _ _ _
  refine wpAny_bind (wpAny_storeSet_of ho hd ?_ (fits_of_scanBound hb1))
  have ho1:=zbq (es':=es1) (t':=t1) ho hd
  have hsb1:=Heap.SameBut.update s.heap a (Obj.putSet es1 t1)
  have hfill:t1.fill=es.size+1:=by unfold SetTable.fill;rw [g1.size,g1.dm];rfl
  have good1:Tab.Good t1 es1.size led:=by rw [hz1];exact g1
  by_cases hT:t1.tooFull=true
  ·have hT':(es.size+1) * 5 ≥ t.mask * 3:=by
    unfold SetTable.tooFull at hT
    rw [hfill,m1] at hT
    exact of_decide_eq_true hT
   have hnf:=B.nf
   obtain ⟨hF,hmk,hn5⟩:Tab.Full (SetTable.sizeAbove (SetTable.grown es1.size) - 1)/\(SetTable.sizeAbove (SetTable.grown es1.size) - 1=7∨SetTable.sizeAbove (SetTable.grown es1.size) - 1=31∨SetTable.sizeAbove (SetTable.grown es1.size) - 1=127)/\es1.size * 5<(SetTable.sizeAbove (SetTable.grown es1.size) - 1) * 3:=by
    rcases B.mask with h7 | h7 | h7
    ·have:es1.size=5:=by omega
     rw [this]
     have e:SetTable.sizeAbove (SetTable.grown 5) - 1=31:=by decide
     rw [e]
     exact ⟨Tab.full31,.inr (.inl rfl),by decide⟩
    ·have:es1.size=19:=by omega
     rw [this]
     have e:SetTable.sizeAbove (SetTable.grown 19) - 1=127:=by decide
     rw [e]
     exact ⟨Tab.full127,.inr (.inr rfl),by decide⟩
    ·omega
   obtain ⟨es2,t2,e2,g2,m2,p2⟩:=Tab.relay_ok good1 hF rfl (by omega)
   rw [hT,e2]
   simp only [Bool.not_false,Bool.and_self,if_true]
   refine wpAny_bind (wpAny_pure ?_)
   have hz2:es2.size=es1.size:=by
    have:=p2.length_eq
    rw [Array.length_toList,Array.length_toList] at this
    exact this
   refine wpAny_bind (wpAny_storeSet_of ho1 rfl ?_ (fits_of_scanBound (by rw [hz2];exact hb1)))
   refine wpAny_pure ?_
   refine wpAny_pure (h _ true (hsb1.trans (Heap.SameBut.update _ a _)) ?_)
   rw [if_neg hn]
   exact ⟨_,es2,_,t2,zbq ho1 rfl,hex,rfl,el1.perm p2,(p2.map elN).trans pm1,by rw [hz2];exact g2,by rw [m2];exact hmk,by rw [hz2,m2];exact hn5⟩
  ·have hT':¬ (es.size+1) * 5 ≥ t.mask * 3:=fun z=>hT (by
    unfold SetTable.tooFull
    rw [hfill,m1]
    exact decide_eq_true z)
   rw [Bool.eq_false_iff.mpr hT]
   simp only [Bool.not_false,Bool.and_false,Bool.false_eq_true,if_false]
   refine wpAny_pure ?_
   refine wpAny_pure (h _ true hsb1 ?_)
   rw [if_neg hn]
   exact ⟨_,es1,_,t1,ho1,hex,rfl,el1,pm1,good1,by rw [m1];exact B.mask,by rw [hz1,m1];omega⟩
theorem SetI.keep{h h':Heap}{a:Addr}{L:List Int}{led:Bool}(x:SetI prog w h a L led)(k:∀ o,h.get? a=some o->h'.get? a=some o):SetI prog w h' a L led:=by
 obtain ⟨o,es,ep,t,ho,r⟩:=x
 exact ⟨o,es,ep,t,k o ho,r⟩
theorem SetI.fresh{h:Heap}{a:Addr}{led:Bool}(ho:h.get? a=some { cls:=.type "set",dict:=none,data:=.set #[] 0 (.fresh 0 0 led) }):SetI prog w h a [] led:=
 ⟨_,#[],0,_,ho,⟨rfl,rfl,rfl⟩,rfl,fun e he=>by simp at he,.refl _,⟨Tab.full7,rfl,Nat.zero_le _,rfl,List.Pairwise.nil,fun j hj=>by simp [SetTable.fresh] at hj,rfl,rfl⟩,.inl rfl,by show 0 * 5<7 * 3;decide⟩
theorem zhX(val:Nat->Int):∀ (n i:Nat),i≤n->(firstMet val i).length≤(firstMet val n).length:=by
 intro n
 induction n with
 | zero=>intro i hi;rw [Nat.le_zero.mp hi];exact Nat.le_refl _
 | succ n ih=>
  intro i hi
  by_cases e:i=n+1
  ·rw [e];exact Nat.le_refl _
  ·refine Nat.le_trans (ih i (by omega)) ?_
   rw [firstMet_succ,step_length]
   split<;>omega
theorem zbW{R:Result->Shared->Prop}{I:Addr}{fp wr:List Addr}{G:Array GenState->Array GenState->Prop}{n:Nat}{P:Nat->Value->Prop}{St:Nat->Shared->Prop}{led:Bool}(W:WalksS prog w A.in1 I fp wr G n P St)(S:Addr)(hSf:S ∉ fp)
  (val:Nat->Int)(hval:∀ i v,P i v->∃ t,v=.int (val i) t)(hb:(firstMet val n).length<63):
  ∀ (k i:Nat) (s:Shared),n - i=k->i≤n->St i s->SetI prog w s.heap S (firstMet val i) led->
   (∀ s',Moved (S::wr) G s s'->SetI prog w s'.heap S (firstMet val n) led->R (.ok (.ret .none)) s')->
   codeAny (model prog w) A (.builtin "set.update.loop" ⟨[.ref S,.ref I],[]⟩) R s:=by
 have hSw:S ∉ wr:=fun h=>hSf (W.sub _ h)
 have hsub:∀ b ∈ wr,b ∈ S::wr:=fun b hb=>List.mem_cons_of_mem _ hb
 intro k
 induction k with
 | zero=>
  intro i s hk hi hst hS hR
  have hin:i=n:=by omega
  subst hin
  refine codeAny_builtin F.entry_set_update_loop ?_
  rw [Around.under_plainId F.plain_set_update_loop _]
  show wpAny _ A.in1 (pyNext (.ref I) >>= _) _ _ s
  refine wpAny_bind (W.done s _ _ hst fun s' hm=>?_)
  show wpAny _ A.in1 (ret Value.none) _ _ s'
  exact wpAny_pure (hR s' (hm.mono hsub) (hS.keep fun o ho=>hm.heap S o hSw ho))
 | succ k ih=>
  intro i s hk hi hst hS hR
  have hlt:i<n:=by omega
  refine codeAny_builtin F.entry_set_update_loop ?_
  rw [Around.under_plainId F.plain_set_update_loop _]
  show wpAny _ A.in1 (pyNext (.ref I) >>= _) _ _ s
  refine wpAny_bind (W.item i s _ _ hlt hst fun v s' hP hst' hm=>?_)
  obtain ⟨t,rfl⟩:=hval i v hP
  have hS':=hS.keep fun o ho=>hm.heap S o hSw ho
  show wpAny _ A.in1 (holding [Value.int (val i) t] (setAdd S (.int (val i) t)) >>= _) _ _ s'
  refine wpAny_bind (wpAny_holding ?_)
  unfold setAdd
  refine wpAny_holding ?_
  refine wpAny_bind ((intKind prog w).pyHash (k:=val i) (intKind_is _ _ _ _) ?_)
  have hstep:firstMet val (i+1)=if val i ∈ firstMet val i then firstMet val i else firstMet val i++[val i]:=by
   rw [firstMet_succ]
   unfold step_dedup
   have e:((firstMet val i).any (· == val i)=true) ↔ val i ∈ firstMet val i:=by
    rw [List.any_eq_true]
    exact ⟨fun ⟨x,hx,e⟩=>by rw [← (beq_iff_eq.mp e)];exact hx,fun hx=>⟨_,hx,beq_self_eq_true _⟩⟩
   by_cases c:val i ∈ firstMet val i
   ·rw [if_pos (e.mpr c),if_pos c]
   ·rw [if_neg (fun z=>c (e.mp z)),if_neg c]
  have hroom:=zhX val n i hi
  refine zdP (s:={ s' with toks:=s'.toks+1 }) hS' (by omega) fun h' _ hsb hS2=>?_
  rw [← hstep] at hS2
  refine wpAny_pure ⟨plainId_quiet F.plain_set_update_loop _,ih (i+1) _ (by omega) hlt (W.frame _ s' _ _ hst' (Nat.le_succ _) fun b hb o e=>?_) hS2 fun s'' hm'' hS''=>?_⟩
  ·rw [hsb.2 b (fun h:b=S=>hSf (by rw [← h];exact hb))];exact e
  ·refine hR s'' (Moved.trans W.gtrans ((hm.mono hsub).then_heap (Nat.le_succ _) fun b o hb e=>?_) hm'') hS''
   rw [hsb.2 b (fun h:b=S=>hb (by rw [h];exact List.mem_cons_self))];exact e
theorem zhS(a:Value){Q₁:Value->Shared->Prop}
  (h:Q₁ (.ref s.heap.objs.size) { s with heap:=s.heap.push { cls:=.type "set",dict:=none,data:=.set #[] 0 (.fresh 0 0 (!w.params.followText "set-order")) } }):
  codeAny (model prog w) A (.call (.builtin "set.__new__") ⟨[.type "set",a],[]⟩) (wants Q₁ E) s:=by
 refine codeAny_of_tree ?_
 show wpAny _ A.in1 (do checkBuiltinCall "set.__new__" ⟨[.type "set",a],[]⟩;again (.builtin "set.__new__" ⟨[.type "set",a],[]⟩)) _ _ s
 refine wpAny_bind (wpAny_of_eq (PySem.F.newCall_set_1 a) (wpAny_pure ⟨plainId_quiet PySem.F.plain_set_new _,codeAny_builtin PySem.F.entry_set_new ?_⟩))
 rw [Around.under_plainId PySem.F.plain_set_new _]
 unfold Builtin.«set.__new__» Builtin.Frozenset.newClass
 have hsub:=sub_set_self
 obtain ⟨hp,g,d,tk,os⟩:=s
 dsimp only
 wp_walk
 refine wpAny_askSetting (wpAny_pure ?_)
 dsimp only
 simp only [newObj]
 refine wpAny_bind (wpAny_alloc (wpAny_pure ?_))
 exact wpAny_pure h
theorem zgA{l:Addr}{items:Array Value}{ns:List Int}{Q:Value->Shared->Prop}
  (hh:A.handled=none)(hl:s.heap.IsList l items)(hi:IntsAre items.toList ns)(hb:(firstMet (fun i=>ns.getD i 0) items.size).length<63)
  (h:∀ (h':Heap) (tk:Nat),SetI prog w h' s.heap.objs.size (firstMet (fun i=>ns.getD i 0) items.size) (!w.params.followText "set-order")->
   (∀ b o,b<s.heap.objs.size->s.heap.get? b=some o->h'.get? b=some o)->Q (.ref s.heap.objs.size) { s with heap:=h',toks:=tk }):
  wpAny (model prog w) A (call (.type "set") [.ref l]) Q E s:=by
 generalize hled:(!w.params.followText "set-order")=led at h
 let o0:Obj:={ cls:=.type "set",dict:=none,data:=.set #[] 0 (.fresh 0 0 led) }
 obtain ⟨c,tl,hmro⟩:=PySem.F.called_set.mro
 have hmade:=PySem.F.called_set.made
 have hsub:=PySem.F.called_set.sub
 refine wpAny_call (codeAny_of_tree ?_)
 show wpAny _ _ (callAny (.type "set") _) _ _ _
 refine wpAny_pure ⟨Code.quiet_builtin _ (by decide +kernel),codeAny_builtin PySem.F.entry_type_call ?_⟩
 rw [Around.under_plain (weight_type_call_type "set" [.ref l] []) rfl]
 have h1:=PySem.F.called_set.notType
 have h2:=PySem.F.called_set.canCreate
 have hct:=PySem.F.typeCall_set_1 (.ref l)
 repeat (any_goals (first | assumption | wp_step))
 refine codeAny_mono (zhS (.ref l) (E:=E) (Q₁:=fun obj s₁=>obj=.ref s.heap.objs.size/\s₁={ s with heap:=s.heap.push o0 }) ⟨rfl,by rw [hled]⟩) fun r s₁ hr=>?_
 cases r with
 | error e=>exact hr
 | ok fl=>
  cases fl with
  | ret obj=>
   obtain ⟨rfl,rfl⟩:=hr
   have hS:(s.heap.push o0).get? s.heap.objs.size=some o0:=Heap.get?_push_size _ rfl
   have hT:Shared.TypeIs { s with heap:=s.heap.push o0 } (.ref s.heap.objs.size) "set":=⟨_,hS,rfl⟩
   have hli:=PySem.F.called_set.init.lookup
   have hbi:=PySem.F.called_set.init.bind (.ref s.heap.objs.size)
   repeat (any_goals (first | assumption | wp_step))
   refine codeAny_mono (codeAny_call_builtin (R:=wants (fun r s₂=>r=.none/\∃ h' tk,s₂={ s with heap:=h',toks:=tk }/\
     SetI prog w h' s.heap.objs.size (firstMet (fun i=>ns.getD i 0) items.size) led/\(∀ b o,b<s.heap.objs.size->s.heap.get? b=some o->h'.get? b=some o)) E) PySem.F.called_set.init.plain PySem.F.entry_set_init (check_set_init_1 hT ?_)) fun r₂ s₂ hr₂=>?_
   ·obtain ⟨ol,hol,hcl,nl,hdl⟩:=hl
    obtain ⟨ocls,odict,odata,oslots⟩:=ol
    simp only at hcl hdl
    subst hcl;subst hdl
    have hol':(s.heap.push o0).get? l=some { cls:=.type "list",dict:=odict,data:=.seq items nl,slots:=oslots }:=Heap.get?_push_of_some _ hol
    have hsls:=PySem.F.sub_list_set
    have hslf:=PySem.F.sub_list_frozenset
    have hne:(Value.type "list" == Value.type "dict")=false:=by decide
    have hl1:(s.heap.push o0).IsList l items:=⟨_,hol',rfl,nl,rfl⟩
    unfold Builtin.«set.__init__» noKeywords Builtin.Frozenset.updateFrom
    generalize hPI:pyIter=PI
    wp_walk
    subst hPI
    refine wpAny_pyIter_list hl1 ?_
    refine wpAny_bind (wpAny_runValue ?_)
    have hlS:l<s.heap.objs.size:=Heap.lt_size hol
    have hh3:A.in1.in1.in1.handled=none:=by simp [hh]
    have hneI:l≠(s.heap.push o0).objs.size:=by
     rw [Heap.size_push];exact Nat.ne_of_lt (Nat.lt_succ_of_lt hlS)
    have hSf:s.heap.objs.size ∉ [(s.heap.push o0).objs.size,l]:=by
     rw [Heap.size_push];simp only [List.mem_cons,List.mem_singleton,List.not_mem_nil,or_false,not_or]
     exact ⟨Nat.ne_of_lt (Nat.lt_succ_self _),Nat.ne_of_gt hlS⟩
    have hval:∀ (i:Nat) (v:Value),items[i]?=some v->∃ t,v=.int ((fun i=>ns.getD i 0) i) t:=fun i v hv=>
     IntsAre.int_at hi i v (by rw [Array.getElem?_toList];exact hv)
    refine zbW ((Walks.list hh3 _ l hneI items).toS) s.heap.objs.size hSf (fun i=>ns.getD i 0) hval hb (items.size - 0) 0 _ (by omega) (Nat.zero_le _)
     ⟨⟨_,Heap.get?_push_size _ rfl,rfl,rfl⟩,(hl1.push _)⟩ (SetI.fresh (Heap.get?_push_of_some _ hS)) ?hR
    case hR=>
     intro s' hm hS'
     obtain ⟨h',g',d',tk',os'⟩:=s'
     have eg:g'=s.gens:=hm.gens
     have ed:d'=s.drawn:=hm.drawn
     have eo:os'=s.os:=hm.os
     subst eg;subst ed;subst eo
     show wpAny _ _ _ _ _ _
     refine wpAny_pure ?_
     show wpAny _ _ (ret Value.none) _ _ _
     refine wpAny_pure ⟨rfl,h',tk',rfl,hS',fun b o hb e=>?_⟩
     have hb1:b≠s.heap.objs.size:=Nat.ne_of_lt hb
     have hb2:b≠(s.heap.push o0).objs.size:=by
      rw [Heap.size_push];exact Nat.ne_of_lt (Nat.lt_succ_of_lt hb)
     exact hm.heap b o (by simp only [List.mem_cons,List.mem_singleton,List.not_mem_nil,or_false,not_or];exact ⟨hb1,hb2⟩) (Heap.get?_push_of_some _ (Heap.get?_push_of_some _ e))
   ·cases r₂ with
    | error e=>exact hr₂
    | ok fl₂=>
     cases fl₂ with
     | ret r=>
      obtain ⟨rfl,h',tk,rfl,hS',hk'⟩:=hr₂
      repeat (any_goals (first | assumption | wp_step))
      exact h _ _ hS' hk'
     | _=>exact hr₂.elim
  | _=>exact hr.elim
end
end F
namespace F
open PySem PySem.Spec PyProof.Rows PySem.W
theorem jV:Slot "set" "__iter__" "set.__iter__":=
 .of (owner:="set") (n:="__iter__") (by rw [typeLookup_type,builtinLookup_eq_fast];kernel_rfl) (by decide +kernel) (by decide +kernel) (by decide +kernel)
  (by first | exact .inl (by decide +kernel) | exact .inr (by decide +kernel)) (by rw [isSubtype_type];kernel_rfl)
theorem zaI:entryFor table "set.__iter__"=some Builtin.«frozenset.__iter__»:=entryFor_alias (id':="frozenset.__iter__") (by kernel_rfl) rfl (by decide +kernel) (by kernel_rfl)
theorem zbm(a:Value):argsOk "set.__iter__" ⟨[a],[]⟩:=by unfold argsOk;kernel_rfl
theorem slot_si_next:Slot "set_iterator" "__next__" "set_iterator.__next__":=
 .of (owner:="set_iterator") (n:="__next__") (by rw [typeLookup_type,builtinLookup_eq_fast];kernel_rfl) (by decide +kernel) (by decide +kernel) (by decide +kernel)
  (by first | exact .inl (by decide +kernel) | exact .inr (by decide +kernel)) (by rw [isSubtype_type];kernel_rfl)
theorem jd:entryFor table "set_iterator.__next__"=some Builtin.«set_iterator.__next__»:=entryFor_of_tree (by kernel_rfl)
theorem kc(a:Value):argsOk "set_iterator.__next__" ⟨[a],[]⟩:=by unfold argsOk;kernel_rfl
theorem kE:Slot "set_iterator" "__iter__" "set_iterator.__iter__":=
 .of (owner:="set_iterator") (n:="__iter__") (by rw [typeLookup_type,builtinLookup_eq_fast];kernel_rfl) (by decide +kernel) (by decide +kernel) (by decide +kernel)
  (by first | exact .inl (by decide +kernel) | exact .inr (by decide +kernel)) (by rw [isSubtype_type];kernel_rfl)
theorem zbj:entryFor table "set_iterator.__iter__"=some Builtin.«dict_keyiterator.__iter__»:=entryFor_alias (id':="dict_keyiterator.__iter__") (by kernel_rfl) rfl (by decide +kernel) (by kernel_rfl)
theorem zcL(a:Value):argsOk "set_iterator.__iter__" ⟨[a],[]⟩:=by unfold argsOk;kernel_rfl
noncomputable def IsSI(h:Heap)(it a:Addr)(slot i n ep:Nat):Prop:=∃ o,h.get? it=some o/\o.cls=.type "set_iterator"/\o.data=.fields #[.int slot 0,.int i 0,.ref a,.int n 0,.int ep 0]
noncomputable def SetAt(h:Heap)(a:Addr)(es:Array (Int × Value))(ep:Nat)(t:SetTable):Prop:=∃ o,h.get? a=some o/\o.ExactSet/\o.data=.set es ep t
theorem zbC{α:Type}:∀ (l:List α) (k:Nat) (h:k<l.length),(l[k]::l.eraseIdx k).Perm l
 | x::l,0,_=>.refl _
 | x::l,k+1,h=>by
  rw [List.eraseIdx_cons_succ,List.getElem_cons_succ]
  exact (List.Perm.swap x _ _).trans (List.Perm.cons x (zbC l k (Nat.lt_of_succ_lt_succ h)))
theorem zeZ{α:Type}(next:Nat->Nat):∀ (fuel k:Nat) (left:List α) (out:Array α),left.length=fuel->(pickOrder.go next fuel k left out).toList.Perm (out.toList++left)
 | 0,k,left,out,h=>by
  rw [List.length_eq_zero_iff.mp h,List.append_nil]
  exact .refl _
 | fuel+1,k,left,out,h=>by
  have hlt:next k % left.length<left.length:=Nat.mod_lt _ (by omega)
  unfold pickOrder.go
  rw [List.getElem?_eq_getElem hlt]
  dsimp only
  refine (zeZ next fuel (k+1) _ _ (by rw [List.length_eraseIdx_of_lt hlt];omega)).trans ?_
  rw [Array.toList_push,List.append_assoc]
  refine List.Perm.append_left _ ?_
  rw [List.singleton_append]
  exact zbC _ _ hlt
theorem zfV{α:Type}(next:Nat->Nat)(xs:Array α):(pickOrder next xs).toList.Perm xs.toList:=by
 have:=zeZ next xs.size 0 xs.toList #[] (by rw [Array.length_toList])
 simpa [pickOrder] using this
section
variable {prog:Program} {w:World} {A:Around} {E:Value->Shared->Prop} {s:Shared} {a:Addr} {es:Array (Int × Value)} {ep:Nat} {t:SetTable}
noncomputable def vG(w:World)(a:Addr)(es:Array (Int × Value))(ep:Nat):Array (Int × Value):=if w.params.followText "set-order"=true then pickOrder (w.params.setOrder a ep) es else es
theorem its_perm:(vG w a es ep).toList.Perm es.toList:=by
 unfold vG
 split
 ·exact zfV _ _
 ·exact .refl _
theorem kN:(vG w a es ep).size=es.size:=by
 have:=(its_perm (w:=w) (a:=a) (es:=es) (ep:=ep)).length_eq
 rw [Array.length_toList,Array.length_toList] at this
 exact this
noncomputable def xU(w:World)(t:SetTable):Nat->Nat
 | 0=>0
 | i+1=>if w.params.followText "set-order"=true then 0 else t.place.getD i 0+1
theorem zeK{n:Nat}{led:Bool}(g:Tab.Good t n led)(hw:¬ w.params.followText "set-order"=true){i:Nat}(hi:i≤n):SetTable.below t.place (xU w t i)=i:=by
 obtain ⟨b1,b2,b3⟩:=Tab.below_ok g.rise (xU w t i)
 have hsz:=g.size
 cases i with
 | zero=>
  refine Nat.le_zero.mp (Nat.le_of_not_lt fun h=>?_)
  have h0:0<t.place.size:=by omega
  have:=b2 0 _ h (getElem?_pos t.place 0 h0)
  exact Nat.not_lt_zero _ this
 | succ i=>
  have e:xU w t (i+1)=t.place.getD i 0+1:=if_neg hw
  have hi':i<t.place.size:=by omega
  have eg:t.place.getD i 0=t.place[i]:=by simp [Array.getD,hi']
  rw [e,eg] at b1 b2 b3 ⊢
  generalize hb:SetTable.below t.place (t.place[i]+1)=b at b1 b2 b3 ⊢
  have h1:i<b:=Nat.lt_of_not_le fun h=>by
   have:=b3 i _ h (getElem?_pos t.place i hi')
   omega
  refine Nat.le_antisymm (Nat.le_of_not_lt fun h=>?_) h1
  have hi2:i+1<t.place.size:=by omega
  have h2:=b2 (i+1) _ h (getElem?_pos t.place (i+1) hi2)
  have h3:=List.pairwise_iff_getElem.mp g.rise i (i+1) (by rw [Array.length_toList];exact hi') (by rw [Array.length_toList];exact hi2) (Nat.lt_succ_self i)
  rw [Array.getElem_toList,Array.getElem_toList] at h3
  omega
theorem zdl{led:Bool}{Q:Option (Value × Nat)->Shared->Prop}(hl:led=!w.params.followText "set-order")(hA:SetAt s.heap a es ep t)(g:Tab.Good t es.size led){i:Nat}(hi:i≤es.size)
  (h:Q ((vG w a es ep)[i]?.map fun e=>(e.2,xU w t (i+1))) s):wpAny (model prog w) A (setNext a (xU w t i) i ep) Q E s:=by
 obtain ⟨o,ho,hex,hd⟩:=hA
 unfold setNext
 refine wpAny_bind (wpAny_setState_of ho hd g.fits ?_)
 dsimp only
 unfold setsByText
 refine wpAny_bind (wpAny_bind (wpAny_askSetting (wpAny_pure ?_)))
 show wpAny _ _ (if w.params.followText "set-order"=true then _ else _) _ _ _
 by_cases hw:w.params.followText "set-order"=true
 ·rw [if_pos hw]
  rw [if_neg (by simp)]
  unfold setWalk
  refine wpAny_bind (wpAny_bind (wpAny_setState_of ho hd g.fits ?_))
  dsimp only
  unfold setsByText
  refine wpAny_bind (wpAny_bind (wpAny_askSetting (wpAny_pure ?_)))
  show wpAny _ _ (if w.params.followText "set-order"=true then _ else _) _ _ _
  rw [if_pos hw]
  refine wpAny_bind (wpAny_askSetting (wpAny_pure (wpAny_pure ?_)))
  have e1:vG w a es ep=pickOrder (w.params.setOrder a ep) es:=if_pos hw
  have e2:xU w t i=xU w t (i+1):=by
   have e3:∀ j,xU w t (j+1)=0:=fun j=>if_pos hw
   cases i with
   | zero=>rw [e3];rfl
   | succ i=>rw [e3,e3]
  rw [e1,← e2] at h
  exact h
 ·rw [if_neg hw]
  have hp:=g.plain
  have hled:t.led=true:=by rw [g.led,hl,Bool.eq_false_iff.mpr hw];rfl
  refine wpAny_ite_split (fun hc=>?_) (fun _=>?_)
  ·have:(!t.plain && decide (es.size > 1))=true:=hc
   rw [hp] at this
   cases this
  ·refine wpAny_bind ?_
   show wpAny _ _ (if (!t.led && !es.isEmpty)=true then unsupported "set:maker-not-led" else pure ()) _ _ _
   rw [hled]
   refine wpAny_pure (wpAny_pure ?_)
   have e1:vG w a es ep=es:=if_neg hw
   rw [e1] at h
   rw [zeK g hw hi]
   by_cases hlt:i<es.size
   ·have hlt':i<t.place.size:=by rw [g.size];exact hlt
    have e2:xU w t (i+1)=t.place[i]+1:=by
     refine (if_neg hw).trans ?_
     simp [Array.getD,hlt']
    rw [e2] at h
    rw [getElem?_pos es i hlt] at h ⊢
    rw [getElem?_pos t.place i hlt']
    exact h
   ·rw [getElem?_neg es i hlt] at h ⊢
    exact h
theorem IsSI.typeIs{it:Addr}{slot i n:Nat}(x:IsSI s.heap it a slot i n ep):s.TypeIs (.ref it) "set_iterator":=let ⟨o,ho,hc,_⟩:=x;⟨o,ho,hc⟩
theorem zig{led:Bool}{Q:Value->Shared->Prop}(hl:led=!w.params.followText "set-order")(hA:SetAt s.heap a es ep t)(g:Tab.Good t es.size led)
  (hQ:Q (.ref s.heap.objs.size) { s with heap:=s.heap.push { cls:=.type "set_iterator",data:=.fields #[.int 0 0,.int 0 0,.ref a,.int es.size 0,.int ep 0] } }):
  wpAny (model prog w) A (pyIter (.ref a)) Q E s:=by
 obtain ⟨o,ho,hex,hd⟩:=id hA
 have hT:s.TypeIs (.ref a) "set":=⟨o,ho,hex.1⟩
 refine wpAny_pyIter_slot hT jV (wpAny_call_entry jV hT zaI ?_ (zbm _))
 unfold Builtin.«frozenset.__iter__» Builtin.Frozenset.slot0 slotArgs
 simp only [List.isEmpty_nil,Bool.not_true,Bool.false_eq_true,↓reduceIte,bind_assoc,List.length_nil,bne_self_eq_false]
 unfold Builtin.Frozenset.addrOf Builtin.Frozenset.sizeOf setEntries setDrawn setsByText
 refine wpAny_bind (wpAny_pure ?_)
 refine wpAny_bind (wpAny_pure ?_)
 refine wpAny_bind (wpAny_bind (wpAny_bind (wpAny_setState_of ho hd g.fits (wpAny_pure (wpAny_pure ?_)))))
 refine wpAny_bind (wpAny_bind (wpAny_setState_of ho hd g.fits ?_))
 dsimp only
 refine wpAny_bind (wpAny_bind (wpAny_askSetting (wpAny_pure (wpAny_pure ?_))))
 refine wpAny_ite_split (fun hc=>?_) (fun _=>?_)
 ·have h2:=(Bool.and_eq_true_iff.mp hc).2
  have h3:(!t.plain && decide (es.size > 1))=true:=h2
  rw [g.plain] at h3
  cases h3
 ·refine wpAny_bind (wpAny_pure ?_)
  refine wpAny_bind (wpAny_setEpoch_of ho hd g.fits ?_)
  refine wpAny_bind (wpAny_newObj_type (wpAny_pure ⟨_,rfl,"set_iterator",_,⟨_,Heap.get?_push_size _ rfl,rfl⟩,slot_si_next.lookup,?_⟩))
  exact hQ
theorem zhi{it:Addr}{slot i n:Nat}{Q:Value->Shared->Prop}(hit:IsSI s.heap it a slot i n ep)(h:Q (.ref it) s):wpAny (model prog w) A (pyIter (.ref it)) Q E s:=by
 refine wpAny_pyIter_slot hit.typeIs kE (wpAny_call_entry kE hit.typeIs zbj ?_ (zcL _))
 show wpAny _ _ (ret (.ref it)) _ _ s
 exact wpAny_pure ⟨_,rfl,"set_iterator",_,hit.typeIs,slot_si_next.lookup,h⟩
theorem zih{it:Addr}{i:Nat}{led:Bool}{Q:Option Value->Shared->Prop}(hl:led=!w.params.followText "set-order")(hit:IsSI s.heap it a (xU w t i) i es.size ep)(hA:SetAt s.heap a es ep t)(g:Tab.Good t es.size led){x:Int × Value}(hx:(vG w a es ep)[i]?=some x)
  (hQ:∀ h',IsSI h' it a (xU w t (i+1)) (i+1) es.size ep->Heap.SameBut it s.heap h'->Q (some x.2) { s with heap:=h' }):wpAny (model prog w) A (pyNext (.ref it)) Q E s:=by
 obtain ⟨o,ho,hc,hd⟩:=id hit
 obtain ⟨oa,hoa,hexa,hda⟩:=id hA
 have hlt:i<es.size:=by
  rw [← kN (w:=w) (a:=a) (ep:=ep)]
  exact (Array.getElem?_eq_some_iff.mp hx).1
 unfold pyNext
 refine wpAny_bind (wpAny_attempt (wpAny_callSpecial?_slot (name:=Str.ofString "__next__") hit.typeIs slot_si_next
  (wpAny_call_entry slot_si_next hit.typeIs jd ?_ (kc _))))
 unfold Builtin.«set_iterator.__next__»
 refine wpAny_bind (wpAny_pure ?_)
 refine wpAny_bind (wpAny_fieldsOf ho hd ?_)
 dsimp only
 unfold setEntries
 refine wpAny_bind (wpAny_bind (wpAny_setState_of hoa hda g.fits (wpAny_pure ?_)))
 refine wpAny_ite_split (fun hcc=>?_) (fun _=>?_)
 ·simp at hcc
 ·simp only [Int.toNat_natCast]
  refine wpAny_bind (zdl hl hA g (Nat.le_of_lt hlt) ?_)
  rw [hx]
  show wpAny _ _ (setField (.ref it) 0 (rawInt (xU w t (i+1):Nat)) >>= _) _ _ _
  refine wpAny_bind (wpAny_setField ho hd (by simp) ?_)
  have ho1:=Heap.get?_update_self (Obj.mapFields (·.setIfInBounds 0 (rawInt (xU w t (i+1):Nat)))) ho (Obj.isFreed_of_fields (Obj.data_mapFields hd _))
  have hd1:=Obj.data_mapFields hd (·.setIfInBounds 0 (rawInt (xU w t (i+1):Nat)))
  refine wpAny_bind (wpAny_setField (s:={ s with heap:=s.heap.update it (Obj.mapFields (·.setIfInBounds 0 (rawInt (xU w t (i+1):Nat)))) }) ho1 hd1 (by simp) ?_)
  have ho2:=Heap.get?_update_self (Obj.mapFields (·.setIfInBounds 1 (rawInt ((i:Int)+1)))) ho1 (Obj.isFreed_of_fields (Obj.data_mapFields hd1 _))
  refine wpAny_pure ⟨_,rfl,wpAny_pure (hQ _ ⟨_,ho2,(Obj.cls_mapFields ..).trans ((Obj.cls_mapFields ..).trans hc),by rw [Obj.data_mapFields hd1];simp [rawInt]⟩ ((Heap.SameBut.update ..).trans (Heap.SameBut.update ..)))⟩
theorem zki{it:Addr}{i:Nat}{led:Bool}{Q:Option Value->Shared->Prop}(hh:A.handled=none)(hl:led=!w.params.followText "set-order")(hit:IsSI s.heap it a (xU w t i) i es.size ep)(hA:SetAt s.heap a es ep t)(g:Tab.Good t es.size led)(hi:i=es.size)
  (hQ:∀ h',Heap.ExtBut it s.heap h'->Q none { s with heap:=h' }):wpAny (model prog w) A (pyNext (.ref it)) Q E s:=by
 obtain ⟨o,ho,hc,hd⟩:=id hit
 obtain ⟨oa,hoa,hexa,hda⟩:=id hA
 unfold pyNext
 refine wpAny_bind (wpAny_attempt (wpAny_callSpecial?_slot (name:=Str.ofString "__next__") hit.typeIs slot_si_next
  (wpAny_call_entry slot_si_next hit.typeIs jd ?_ (kc _))))
 unfold Builtin.«set_iterator.__next__»
 refine wpAny_bind (wpAny_pure ?_)
 refine wpAny_bind (wpAny_fieldsOf ho hd ?_)
 dsimp only
 unfold setEntries
 refine wpAny_bind (wpAny_bind (wpAny_setState_of hoa hda g.fits (wpAny_pure ?_)))
 refine wpAny_ite_split (fun hcc=>?_) (fun _=>?_)
 ·simp at hcc
 ·simp only [Int.toNat_natCast]
  refine wpAny_bind (zdl hl hA g (Nat.le_of_eq hi) ?_)
  rw [getElem?_neg _ i (by rw [kN];omega)]
  show wpAny _ _ (setField (.ref it) 2 .none >>= _) _ _ _
  refine wpAny_bind (wpAny_setField ho hd (by simp) ?_)
  show wpAny _ _ (newExc (.type "StopIteration") [] >>= _) _ _ _
  refine wpAny_bind ?_
  simp only [newExc,newTuple]
  refine wpAny_bind (wpAny_newObj_type ?_ (by size_fits))
  refine wpAny_bind (m:=firstArgMember _ _) (wpAny_of_eq (a:=Value.none) (by first | rfl | (simp only [firstArgMember];rfl)) ?_)
  refine wpAny_newObj_type ?_ (by size_fits)
  simp only [raiseNew]
  refine wpAny_bind (wpAny_handled ?_)
  rw [show A.in1.handled=none from hh]
  refine wpAny_bind (wpAny_pure (wpAny_throw ?_))
  refine wpAny_bind (wpAny_isInstance (T:="StopIteration") (b:=true) ⟨_,Heap.get?_push_size _ rfl,rfl⟩ isSubtype_stop ?_)
  exact wpAny_pure (hQ _ (((Heap.SameBut.update ..).extBut.push _).push _))
theorem SetAt.at{h h':Heap}(x:SetAt h a es ep t)(e:∀ o,h.get? a=some o->h'.get? a=some o):SetAt h' a es ep t:=let ⟨o,ho,r⟩:=x;⟨o,e _ ho,r⟩
theorem IsSI.at{h h':Heap}{it:Addr}{slot i n:Nat}(x:IsSI h it a slot i n ep)(e:∀ o,h.get? it=some o->h'.get? it=some o):IsSI h' it a slot i n ep:=let ⟨o,ho,r⟩:=x;⟨o,e _ ho,r⟩
theorem zfI{led:Bool}(hh:A.handled=none)(hl:led=!w.params.followText "set-order")(g:Tab.Good t es.size led)(I:Addr)(hne:a≠I):
  PySem.Walks prog w A I [I,a] [I] es.size (fun i v=>∃ x,(vG w a es ep)[i]?=some x/\v=x.2) (fun i h=>IsSI h I a (xU w t i) i es.size ep/\SetAt h a es ep t) where
 sub:=fun b hb=>by simp at hb;simp [hb]
 frame:=fun _ _ _ st hk=>⟨st.1.at fun o e=>hk I (by simp) o e,st.2.at fun o e=>hk a (by simp) o e⟩
 item:=fun i s Q E hi st hQ=>by
  have hi':i<(vG w a es ep).size:=by rw [kN];exact hi
  refine zih hl st.1 st.2 g (getElem?_pos _ i hi') fun h' hit' hs'=>?_
  exact hQ _ h' s.toks ⟨_,getElem?_pos _ i hi',rfl⟩ ⟨hit',st.2.at fun o e=>by rw [hs'.2 a hne];exact e⟩ fun b o hb e=>hs'.extBut b o (fun h=>hb (by simp [h])) e
 done:=fun s Q E st hQ=>zki hh hl st.1 st.2 g rfl fun h' he'=>hQ h' s.toks fun b o hb e=>he' b o (fun h=>hb (by simp [h])) e
 self:=fun _ _ _ _ st hQ=>zhi st.1 hQ
theorem zim{Q:Bool->Shared->Prop}{r:Addr}(hT:s.TypeIs (.ref r) "set")(h:Q false s):wpAny (model prog w) A (Builtin.List.listLengthHint (.ref r)) Q E s:=by
 unfold Builtin.List.listLengthHint
 refine wpAny_bind (wpAny_specialOf hT PySem.F.slot_set_len.lookup ?_)
 generalize hid:("set.__len__":String)=id0
 wp_delta
 rw [show splitId id0=some ("set","__len__") from by subst hid;decide +kernel]
 subst hid
 refine wpAny_bind (wpAny_isInstance (T:="set") (b:=true) hT (by rw [isSubtype_type];kernel_rfl) ?_)
 refine wpAny_ite_split (fun hab=>absurd hab (by decide)) (fun _=>?_)
 refine wpAny_ite_split (fun _=>?_) (fun hab=>absurd (by decide +kernel) hab)
 refine wpAny_bind (wpAny_typeOf hT ?_)
 exact wpAny_pure h
theorem zjq{led:Bool}(hl:led=!w.params.followText "set-order")(g:Tab.Good t es.size led):KdlSrc prog w "set" a a es.size (fun i v=>∃ x,(vG w a es ep)[i]?=some x/\v=x.2) (fun h=>SetAt h a es ep t) where
 type:=fun _ ⟨o,ho,hex,_⟩=>⟨o,ho,hex.1⟩
 there:=fun _ ⟨o,ho,_⟩=>⟨Heap.lt_size ho,Heap.lt_size ho⟩
 keep:=fun _ _ hm hk=>hm.at fun o e=>hk a (.inl rfl) o e
 notList:=by decide
 notTuple:=by decide
 hint:=fun _ _ _ _ ⟨o,ho,hex,_⟩ hq=>zim ⟨o,ho,hex.1⟩ hq
 iter:=fun _ s hh hm=>⟨_,_,(fun _ _ hq=>zig hl hm g hq),zfI hh hl g _ (Nat.ne_of_lt (let ⟨o,ho,_⟩:=hm;Heap.lt_size ho)),⟨⟨_,Heap.get?_push_size _ rfl,rfl,rfl⟩,hm.at fun o e=>Heap.get?_push_of_some _ e⟩⟩
end
end F
namespace L2
open PySem PySem.Spec PyProof.Rows F
noncomputable def xX:List Int->List Int
 | []=>[]
 | n::r=>if n ∈ r then xX r else n::xX r
theorem mem_dedupL:∀ {ns:List Int} {k:Int},k ∈ xX ns ↔ k ∈ ns
 | [],k=>.rfl
 | n::r,k=>by
  unfold xX
  by_cases h:n ∈ r
  ·rw [if_pos h,mem_dedupL,List.mem_cons]
   exact ⟨.inr,fun z=>z.elim (fun e=>e ▸ h) id⟩
  ·rw [if_neg h,List.mem_cons,List.mem_cons,mem_dedupL]
theorem wO:∀ ns:List Int,(xX ns).Nodup
 | []=>.nil
 | n::r=>by
  unfold xX
  by_cases h:n ∈ r
  ·rw [if_pos h];exact wO r
  ·rw [if_neg h];exact List.nodup_cons.mpr ⟨fun z=>h (mem_dedupL.mp z),wO r⟩
theorem zhW(ns:List Int):(firstMet (fun j=>ns.getD j 0) ns.length).Perm (xX ns):=by
 refine (List.perm_ext_iff_of_nodup (jB _ _) (wO ns)).mpr fun k=>?_
 have:=zgs ns ns.length (Nat.le_refl _) k
 rw [List.take_length] at this
 rw [this,mem_dedupL]
noncomputable def zgV(K:PySem.W.Frag)(ta:TA):TE:=fun σ H Q=>ta σ H fun vs H1=>∃ p,∃ ns:List Int,vs=[.ref p]/\SqL K H1 p (ns.map V.int)/\(xX ns).length<63/\∀ (ns':List Int) l,ns'.Perm (xX ns)->ns'.Pairwise (·≤·)->H1 l=none->Q (.ref l) (upd H1 l (.lst (ns'.map V.int)))
theorem zfk{prog:Program}{w:World}:∀ {its:List (Int × Value)},ElemsOf (intKind prog w) its->IntsAre (its.map (·.2)) (its.map elN)
 | [],_=>.nil
 | e::r,h=>by
  obtain ⟨⟨k,h1,_⟩,_⟩:=h.head
  obtain ⟨t,e1⟩:=Value.isInt_shape h1
  have e2:elN e=k:=by unfold elN;rw [e1];rfl
  rw [List.map_cons,List.map_cons,e1,e2]
  exact .cons k t (zfk h.tail)
theorem zem{X:Cx}{e:Expr}{ta:TA}{p1 p2 pos pos2:Pos}(hc:X.calm=true)(hg:Gl X "sorted")(hm:X.mg "sorted"=none)(hg2:Gl X "set")(hm2:X.mg "set"=none)(ha:PA X [e] ta)
  (he:starEach [.Call (.Name "set" p2) [e] [] pos2] X.env=[(false,eval (.Call (.Name "set" p2) [e] [] pos2) X.env)]:=by rfl)(he2:starEach [e] X.env=[(false,eval e X.env)]:=by rfl):
  PE X (.Call (.Name "sorted" p1) [.Call (.Name "set" p2) [e] [] pos2] [] pos) (zgV X.K ta):=by
 intro pins s σ H Q I h
 refine wpAny_Call_Name_kw (uS I hg hm boot_sorted ?_)
 refine PyProof.Rows.callWith_builtin1 ?_ he rfl
 rw [he]
 show wpAny _ _ (spliced ((false,eval (.Call (.Name "set" p2) [e] [] pos2) X.env)::[])) _ _ s
 refine Calls.spliced_cons ?_
 refine wpAny_Call_Name_kw (uS I hg2 hm2 ziS ?_)
 refine PyProof.Rows.callWith_type1 (thn (ha pos2 pins s σ H _ I h) fun us s1 ⟨vs,H1,I1,r1,p,ns,ev,hx,hl,q⟩=>?_) he2 rfl
 subst ev
 cases r1 with
 | cons r rr=>
  cases rr
  cases r
  obtain ⟨its,v1,c1,_⟩:=I1.list hx
  have hia:IntsAre its.toArray.toList ns:=by simpa using zex v1
  have hlen:its.length=ns.length:=by have:=v1.length;simpa using this.symm
  have hmp:=zhW ns
  refine zgA (I1.ok.hd hc) c1.isList hia (by rw [List.size_toArray,hlen,hmp.length_eq];exact hl) fun h' tk hS kk=>?_
  have esz:its.toArray.size=ns.length:=by rw [List.size_toArray,hlen]
  rw [esz] at hS
  refine Calls.spliced_nil ?_
  obtain ⟨o,es,ep,tb,ho,hex,hd,B⟩:=hS
  have I2:Inv X pins σ H1 { s1 with heap:=h',toks:=tk }:=I1.kept (t':=tk) fun b u q=>kk b u (Heap.lt_size q) q
  have hsz:es.size<63:=by rw [B.size,hmp.length_eq];exact hl
  refine Calls.call_function_entry kind_sorted plain_sorted entry_sorted (args_sorted1 _) ?_
  unfold Builtin.«sorted»
  refine wpAny_bind (m:=checkCount "sorted" 1 1 _) (wpAny_pure ?_)
  refine wpAny_bind (PySem.W.kdu_collect (A:=X.A.in1) (s:={ s1 with heap:=h',toks:=tk }) (zjq (ep:=ep) rfl B.good) (I.ok.hd hc) ⟨o,ho,hex,hd⟩ (by rw [sizeLine_eq];omega) fun h2 tk2 acc hk hi=>?_)
  have hacc:acc.toList=(vG X.w s1.heap.objs.size es ep).toList.map (·.2):=by
   apply List.ext_getElem?
   intro j
   rw [List.getElem?_map,Array.getElem?_toList,Array.getElem?_toList]
   by_cases hj:j<es.size
   ·have hj':j<acc.size:=by rw [hi.1];exact hj
    obtain ⟨x,hx1,hx2⟩:=hi.2 j acc[j] (getElem?_pos acc j hj')
    rw [getElem?_pos acc j hj',hx1,hx2];rfl
   ·rw [getElem?_neg acc j (by rw [hi.1];exact hj),getElem?_neg _ j (by rw [kN];exact hj)];rfl
  have hel:ElemsOf (intKind X.prog X.w) (vG X.w s1.heap.objs.size es ep).toList:=B.el.perm its_perm
  have hia2:IntsAre acc.toList ((vG X.w s1.heap.objs.size es ep).toList.map elN):=by rw [hacc];exact zfk hel
  have hpm:((vG X.w s1.heap.objs.size es ep).toList.map elN).Perm (xX ns):=(its_perm.map elN).trans (B.perm.trans hmp)
  generalize ((vG X.w s1.heap.objs.size es ep).toList.map elN)=ms at hia2 hpm
  have hal:acc.toList.length<63:=by rw [Array.length_toList,hi.1];exact hsz
  refine wpAny_bind (wpAny_newList ?_ (by rw [sizeLine_eq];omega))
  have hoL:(h2.push (seqObj "list" acc.toList.toArray 0)).get? h2.objs.size=some (seqObj "list" acc.toList.toArray 0):=Heap.get?_push_size _ rfl
  refine wpAny_bind (wpAny_holding (wpAny_call_entry PyProof.Rows.slot_list_sort (s:={ s1 with heap:=h2.push (seqObj "list" acc.toList.toArray 0),toks:=tk2 }) ⟨_,hoL,rfl⟩ PyProof.Rows.entry_list_sort (list_sort_tree hoL hia2 (by omega) fun out ns' a1 a2 a3=>⟨_,rfl,?_⟩) (PyProof.Rows.args_list_sort _)))
  refine wpAny_pure ⟨_,rfl,?_⟩
  obtain ⟨e',he'⟩:∃ e',(sortedHeap (h2.push (seqObj "list" acc.toList.toArray 0)) h2.objs.size acc.toList out).get? h2.objs.size=some (seqObj "list" out e'):=sortedHeap_at hoL
  have I3:Inv X pins σ H1 { s1 with heap:=h2,toks:=tk2 }:=I2.kept (t':=tk2) hk
  have hn:=I3.hok.fresh (a:=h2.objs.size) (Nat.le_refl _)
  have hns':ns'.length<63:=by rw [a2.length_eq,hpm.length_eq];exact hl
  refine ⟨.ref h2.objs.size,_,I3.laid (h':=sortedHeap (h2.push (seqObj "list" acc.toList.toArray 0)) h2.objs.size acc.toList out) (o:=.lst (ns'.map V.int)) (t':=tk2) (fun b u hb=>?_) (Nat.le_refl _) ⟨by rw [List.length_map,sizeLine_eq];omega,out.toList,e',j9 a1,by simpa [seqObj] using he'⟩,rfl,q ns' _ (a2.trans hpm) a3 hn⟩
  have hlt:=Heap.lt_size hb
  rw [sortedHeap_old (Nat.ne_of_lt hlt) (by rw [size_push'];exact Nat.lt_succ_of_lt hlt)]
  exact Heap.get?_push_of_some _ hb
end L2
namespace F
open PySem PySem.Spec PyProof.Rows L2
noncomputable def jC(f:FA):FE:=fun env=>(f env).bind fun ps=>match ps with | [.lst qs]=>(vH qs).bind fun ns=>if (xX ns).length<63 then some (.lst ((qp (xX ns)).map .int)) else none | _=>none
theorem zdT{X:Cx}{κ:Nat->Option Nat}{G:Hp}{c:Cat}{e:Expr}{fs:FA}{p1 p2 pos pos2:Pos}(hc:X.calm=true)(hg:Gl X "sorted")(hm:X.mg "sorted"=none)(hg2:Gl X "set")(hm2:X.mg "set"=none)(ha:VA X κ G c [e] fs)
  (he:starEach [.Call (.Name "set" p2) [e] [] pos2] X.env=[(false,eval (.Call (.Name "set" p2) [e] [] pos2) X.env)]:=by rfl)(he2:starEach [e] X.env=[(false,eval e X.env)]:=by rfl):
  VE X κ G (.mv []) (.Call (.Name "sorted" p1) [.Call (.Name "set" p2) [e] [] pos2] [] pos) (jC fs):=(zem hc hg hm hg2 hm2 ha.1 he he2).imp fun σ H Q hq_=>by
 refine hq_.elim fun own env z I hf k=>?_
 unfold jC at hf
 replace hf:=Option.bind_eq_some_iff.mp hf;obtain ⟨qs,hp,hf⟩:=hf
 split at hf
 case h_2=>cases hf
 rename_i ps
 replace hf:=Option.bind_eq_some_iff.mp hf;obtain ⟨ns,hn,hf⟩:=hf
 split at hf
 case isFalse=>cases hf
 rename_i hl
 cases hf
 have hps:=uE hn
 subst hps
 refine (.in I hp fun vs H1 A s1 r1 _=>?_)
 obtain ⟨v,rfl,rv⟩:=xl r1
 obtain ⟨a,xs,B,rfl,h2,_,h4⟩:=rv.L
 have:=uw h4
 subst this
 refine ⟨a,ns,rfl,SqL.of h2,hl,fun ns' l p1 p2 hn'=>?_⟩
 have es:ns'=qp (xX ns):=zbr (p1.trans (uK _).symm) p2 (kD _)
 subst es
 have hl0:H l=none:=by
  cases hq:H l with
  | none=>rfl
  | some o=>rw [s1 _ _ hq] at hn';cases hn'
 exact k _ _ [l] (s1.trans (ya (Same.refl _) hn')) (.mkL zd (kQ _)) ⟨by simp,by simpa using hl0⟩
end F
namespace L2
open PySem PySem.Spec PyProof.Rows PySem.W
end L2
namespace F
open PySem PySem.Spec PyProof.Rows L2
noncomputable def zfu(i:Nat)(g:Int->Int->Int)(f:FE):FS:=fun env=>(zA i env).bind fun p=>(f env).bind fun q=>match p,q with
 | .int x,.int y=>some (.nx (env.set i (some (.int (g x y)))))
 | _,_=>none
section
variable {X:Cx} {κ:Nat->Option Nat} {G:Hp} {c:Cat} {f:FE} {st:Stmt}
theorem zjh {i : Nat} {g : Int → Int → Int} (hk : κ i = none) (h : PS X st (zmj i (tV X.K κ G c f) (ipI g))) : VS X κ G st (zfu i g f) := h.imp fun D σ H hq_ => by
  refine hq_.elim fun own env o I hf k => ?_
  unfold zfu at hf
  replace hf := Option.bind_eq_some_iff.mp hf; obtain ⟨p, hp, hf⟩ := hf
  replace hf := Option.bind_eq_some_iff.mp hf; obtain ⟨q, hq, hf⟩ := hf
  have e : env[i]? = some (some p) := by
    unfold zA at hp
    cases q : env[i]? with
    | none => rw [q] at hp; cases hp
    | some z => rw [q] at hp; have : z = some p := by simpa using hp
                rw [this]
  split at hf
  case h_2 => cases hf
  rename_i x y
  cases hf
  obtain ⟨v, A, h1, h2, _, _⟩ := I.slot i _ e
  obtain ⟨rfl, rfl⟩ := Rp.int_iff.mp h2
  refine ⟨_, h1, .in I hq fun w H' B s r hc => ?_⟩
  obtain ⟨rfl, rfl⟩ := Rp.int_iff.mp r
  exact ⟨x, y, rfl, rfl, k own _ H' ((I.grow s).set_sh hk (.mkI _) fun a ha => nomatch ha) (Ext.grow s)⟩
end
end F
namespace HT
open PySem PySem.Spec PyProof.Rows
end HT
namespace L2
open PySem PySem.Spec PyProof.Rows
end L2
namespace F
open PySem PySem.Spec PyProof.Rows L2
noncomputable def spR(K:PySem.W.Frag)(n:Nat)(Φ:List PV->Option PV):Sp:=fun vs H Q _=>∃ a ns ws ps A z,vs=.ref a::ws/\H a=some (.lst (List.map V.int ns))/\Rps K H ps ws A/\a ∉ A/\ps.length+1=n/\Φ (.lst (ns.map PV.int)::ps)=some z/\
 ∀ v H' C,(∀ b o,b≠a->H b=some o->H' b=some o)->Rp K H' z v C->C.Nodup->(∀ b ∈ C,b=a∨H b=none)->Q v H'
section
variable {X:Cx} {κ:Nat->Option Nat} {G:Hp} {O:List Nat} {st:Stmt} {es:List Expr} {pos:Pos}
theorem VI.bare{K:PySem.W.Frag}{σ:St}{H:Hp}{n:Nat}(hn:n=σ.length)(s:Same G H):VI K κ G (fun _=>none) (List.replicate n none) σ H:=
 ⟨by rw [List.length_replicate];exact hn,fun i p e=>(by rw [List.getElem?_replicate] at e;split at e<;>cases e),(fun _ _ z=>nomatch z),s⟩
noncomputable def zkG(i:Nat):FS:=fun env=>(zA i env).map fun p=>.rt p (List.replicate env.length none)
theorem zje(i:Nat){x:Str}{p:Pos}(hi:i ∈ O)(h:PE X (.Name x p) (uJ i)):VS X (ko O) G (.Return (some (.Name x p)) pos) (zkG i):=(zej h).imp fun D σ H hq_=>by
 refine hq_.elim fun own env o I hf k=>?_
 obtain ⟨p,hp,rfl⟩:=Option.map_eq_some_iff.mp hf
 obtain ⟨v,A,h1,h2,_,h3⟩:=I.slot i _ (wW hp)
 obtain ⟨nd,hA⟩:=h3 i (vE hi)
 exact ⟨v,h1,k v H A (fun _=>none) σ (VI.bare I.len I.same) h2 nd fun a ha=>⟨(I.own a i (hA a ha)).1,fun z=>nomatch z⟩⟩
theorem VI.startR{K:PySem.W.Frag}{H:Hp}{N:List Str}{ps:List PV}{ws:List V}{A:List Addr}{a:Addr}{ns:List Int}(h0:0 ∈ O)(hk:∀ i,i<ps.length->i+1 ∉ O)(ha:H a=some (.lst (ns.map V.int)))(r:Rps K H ps ws A)(hA:a ∉ A):
  VI K (ko O) (fun b=>if b=a then none else H b) (fun b=>if b=a then some 0 else none) ((.lst (ns.map PV.int)::ps).map some++List.replicate (N.length - (ps.length+1)) none) (L2.start N (.ref a::ws)) H:=by
 have h:=VI.startM (N:=N) h0 hk ha r hA
 refine ⟨by have:=h.len;simpa using this,fun i p e=>?_,h.own,h.same⟩
 cases i with
 | zero=>
  cases e
  refine ⟨.ref a,[a],rfl,.mkL ha (kQ _),fun z=>?_,fun l z=>⟨by simp,fun b hb=>?_⟩⟩
  ·rw [vE h0] at z;cases z
  ·rw [vE h0] at z;cases z
   rw [List.mem_singleton.mp hb,if_pos rfl]
 | succ i=>exact h.slot (i+1) p e
theorem zof{P:Program}{w:World}{K:PySem.W.Frag}{mg:Str->Option Value}{base:Heap}{x qual:Str}{st:Stmt}{f:Addr}{fd:FuncData}{N ps:List Str}{k n m:Nat}{g:FS}(O:List Nat)(hn:ps.length=n)(hm:N.length=m)(h0:0 ∈ O)(hO:∀ i ∈ O,i=0∨n≤i)(hF:Fun K x qual st f fd)(S:FnScope N ps (zS st))
  (body:∀ (cdv:Value) (A:Around) (outer:List PySem.Env) (s:Shared) (H G:Hp) (E:XK),Room k (A.deeper (envOfC qual (zS st) s.heap.objs.size f cdv))->VSs (zdH CX0 P w K mg base N qual (zS st) f cdv A outer s H E).nox (ko O) G (wf st) g):
  FnOk P w K mg base CX0 (k+1) f fd ps (spR K n (fnV m g)):=by
 subst hn hm
 refine hF.ok S (fun vs H Q E hq_=>?_) fun cdv A outer s H vs Q E hr hq_=>?_
 ·obtain ⟨a,ns,ws,qs,B,z,rfl,_,r,_,hl,_⟩:=hq_
  rw [List.length_cons,← r.length,hl]
 ·obtain ⟨a,ns,ws,qs,B,z,rfl,ha,r,hB,hl,hΦ,k⟩:=hq_
  refine ⟨_,body cdv A outer s H (fun b=>if b=a then none else H b) E hr,?_⟩
  unfold fnV at hΦ
  replace hΦ:=Option.bind_eq_some_iff.mp hΦ;obtain ⟨o,ho,hΦ⟩:=hΦ
  have hst:=VI.startR (K:=K) (N:=N) (ps:=qs) (ws:=ws) h0 (fun i hi z=>(hO _ z).elim (fun y=>nomatch y) fun y=>by omega) ha r hB
  refine ⟨_,_,o,hst,by rw [List.length_cons] at ho;exact ho,?_⟩
  have keep:∀ {own':Addr->Option Nat} {e:En} {σ':St} {H':Hp},VI K (ko O) (fun b=>if b=a then none else H b) own' e σ' H'->∀ b o,b≠a->H b=some o->H' b=some o:=fun I' b o hb e=>I'.same b o (by rw [if_neg hb];exact e)
  cases o with
  | rt p e=>
   cases hΦ
   exact fun v H' C own' σ' I' r' nd fr=>k v H' C (keep I') r' nd fun b hb=>by
    have q:(if b=a then none else H b)=none:=(fr b hb).1
    by_cases e:b=a
    ·exact .inl e
    ·rw [if_neg e] at q;exact .inr q
  | nx e=>
   cases hΦ
   exact fun own' σ' H' I' _=>k .non H' [] (keep I') .mkN .nil (by simp)
  | bk e=>cases hΦ
  | ct e=>cases hΦ
noncomputable def zfp(Φ:List PV->Option PV)(i:Nat)(fs:FA):FS:=fun env=>(zA i env).bind fun p=>(fs env).bind fun ps=>(zfa p).bind fun ns=>(Φ (.lst (ns.map PV.int)::ps)).map fun z=>.rt z (List.replicate env.length none)
theorem zjd{x y:Str}{k n:Nat}{ps:List Str}{Φ:List PV->Option PV}{p p' p2:Pos}{fs:FA}(i:Nat)(hi:i ∈ O)(hF:Fn X.prog X.w X.K X.mg X.base x k ps (spR X.K n Φ))(hr:Room k X.A)(hg:Gl X x)(hn:PE X (.Name y p') (uJ i))(ha:VA X (ko O) G .sh es fs)(hl:es.length+1=n:=by rfl)
  (hdb:(x == ("__debug__":Str))=false:=by decide)(he:starEach (.Name y p'::es) X.env=(false,eval (.Name y p') X.env)::starEach es X.env:=by rfl)(hpl:(backTo p2 (starEach es X.env)).any (·.1)=false:=by rfl):
  VS X (ko O) G (.Return (some (.Call (.Name x p) (.Name y p'::es) [] p2)) pos) (zfp Φ i fs):=(zej (zkC hF hr hg (yA hn ha.1 he) hdb he hpl)).imp fun D σ H hq_=>by
 refine hq_.elim fun own env o I hf k=>?_
 unfold zfp at hf
 replace hf:=Option.bind_eq_some_iff.mp hf;obtain ⟨q,hv,hf⟩:=hf
 replace hf:=Option.bind_eq_some_iff.mp hf;obtain ⟨qs,hp,hf⟩:=hf
 replace hf:=Option.bind_eq_some_iff.mp hf;obtain ⟨ns,hns,hf⟩:=hf
 obtain ⟨z,hz,rfl⟩:=Option.map_eq_some_iff.mp hf
 obtain ⟨a,hσ,hHa,ho,hpa,_⟩:=I.penC (vE hi) (fun j hj=>(qT hj).symm) hv hns
 refine ⟨.ref a,hσ,.in I hp fun vs H1 A s1 r1 hc=>⟨a,ns,vs,qs,A,z,by simp,s1 _ _ hHa,r1,fun y=>?_,by rw [ha.2 env qs hp];exact hl,hz,fun v H' C sb rz nd fr=>?_⟩⟩
 ·have:=hc a y
  rw [ho] at this;cases this
 ·have ga:=(I.own a i ho).1
  refine k v H' C (fun _=>none) σ (VI.bare I.len fun b o e=>sb b o (fun z=>by rw [z,ga] at e;cases e) (s1 _ _ (I.same _ _ e))) rz nd fun b hb=>⟨?_,fun z=>nomatch z⟩
  rcases fr b hb with e | e
  ·rw [e];exact ga
  ·exact I.same.free (s1.free e)
noncomputable def zfw(O':List Nat)(own:Addr->Option Nat):Addr->Option Nat:=fun a=>(own a).bind fun l=>if l ∈ O' then some l else none
theorem VI.drop{O':List Nat}{K:PySem.W.Frag}{own:Addr->Option Nat}{env:En}{σ:St}{H:Hp}(hO:∀ i ∈ O',i ∈ O)(I:VI K (ko O) G own env σ H):VI K (ko O') G (zfw O' own) env σ H:=by
 refine ⟨I.len,fun i p e=>?_,fun a l e=>?_,I.same⟩
 ·obtain ⟨v,A,h1,h2,h3,h4⟩:=I.slot i p e
  refine ⟨v,A,h1,h2,fun hk a ha=>?_,fun l hk=>?_⟩
  ·have ni:i ∉ O':=fun z=>by rw [vE z] at hk;cases hk
   unfold zfw
   by_cases hi:i ∈ O
   ·rw [(h4 i (vE hi)).2 a ha,Option.bind_some,if_neg ni]
   ·rw [h3 (zau hi) a ha];rfl
  ·have hl:=qT hk
   subst hl
   have hi:l ∈ O':=by
    unfold ko at hk
    split at hk
    ·assumption
    ·cases hk
   obtain ⟨nd,hA⟩:=h4 l (vE (hO l hi))
   refine ⟨nd,fun a ha=>?_⟩
   unfold zfw
   rw [hA a ha,Option.bind_some,if_pos hi]
 ·unfold zfw at e
  obtain ⟨l',h1,h2⟩:=Option.bind_eq_some_iff.mp e
  split at h2
  ·cases h2;exact I.own a _ h1
  ·cases h2
noncomputable def zft(g:FS):FS:=fun env=>(g env).bind fun o=>match o with | .rt p e=>some (.rt p (List.replicate e.length none)) | _=>none
theorem zgM{O':List Nat}{sts:List Stmt}{g:FS}(hO:∀ i ∈ O',i ∈ O)(h:VSs X (ko O') G sts g):VSs X (ko O) G sts (zft g):=PSs.imp h fun D σ H hq_=>by
 refine hq_.elim fun own env o I hf k=>?_
 unfold zft at hf
 replace hf:=Option.bind_eq_some_iff.mp hf;obtain ⟨o',ho,hf⟩:=hf
 split at hf
 case h_2=>cases hf
 rename_i p e
 cases hf
 exact ⟨_,_,_,I.drop hO,ho,fun v H' A own' σ' I' r nd fr=>k v H' A (fun _=>none) σ' (VI.bare I'.len I'.same) r nd fun a ha=>⟨(fr a ha).1,fun z=>nomatch z⟩⟩
end
end F
namespace F
open PySem PySem.Spec PyProof.Rows L2 PySem.W
inductive Df (K:PySem.W.Frag) (x:Str) (st:Stmt):Prop
 | mk {f:Addr} {oc:Value} {od:Option Addr} {kV dc pm:Value} {an:Option Addr} {cd ct:Value} {sl:Array (Option Value)} (a:nsIn K mainGlobals x=some (some (.ref f))) (l:K.lookup f=some ⟨oc,od,.func (fnOf x x (ud st) (wf st) (zS st) .none kV dc pm an cd ct),sl⟩) (c:codeIn K cd x=true) (k:keepIn K (.ref f)=true):Df K x st
theorem Df.fn{P:Program}{w:World}{K:PySem.W.Frag}{h:Heap}{mg:Str->Option Value}{base:Heap}{x:Str}{st:Stmt}{k:Nat}{ps:List Str}{sp:Sp}(d:Df K x st)(X:K.In h)(G:h.Ns mainGlobals mg)(ok:∀ f fd,Fun K x x st f fd->FnOk P w K mg base CX0 k f fd ps sp)
  (hb:∀ (kV doc pm:Value) (an:Option Addr) (cdv ct:Value) (us:List Value),us.length=ps.length->bindArgs (PySem.W.fnOf x x (ud st) (wf st) (zS st) .none kV doc pm an cdv ct) ⟨us,[]⟩=pure (ps.zip us)):Fn P w K mg base x k ps sp:=by
 obtain ⟨a,l,c,k⟩:=d
 have F:=zis (st:=st) l c k
 exact ⟨_,_,ok _ _ F,mg_of X G a,k,F.binds hb⟩
end F
namespace L2
open PySem PySem.Spec PyProof.Rows
end L2
namespace F
open PySem PySem.Spec PyProof.Rows L2
end F
namespace F
open PySem PySem.W PyProof.Rows
section
variable {O:KeyOrd} {key:Nat->O.α} {n:Nat} {α β:Type}
noncomputable def Ans(key:Nat->O.α)(n:Nat):KasT α->(α->Prop)->Prop
 | .ret a,P=>P a
 | .ask i j k,P=>(i<n/\j<n/\i≠j)/\Ans key n (k (O.blt (key i) (key j))) P
noncomputable def Kp(key:Nat->O.α)(p:Array Nat)(i:Nat):O.α:=key (p.getD i 0)
noncomputable def Up(key:Nat->O.α)(p:Array Nat)(k:Nat):Prop:=∀ i j,i≤j->j<k->O.kle (Kp key p i) (Kp key p j)
noncomputable def Dn(key:Nat->O.α)(p:Array Nat)(k:Nat):Prop:=∀ i j,i≤j->j<k->O.kle (Kp key p j) (Kp key p i)
structure Pm (n:Nat) (p:Array Nat):Prop where
 sz:p.size=n
 pm:p.toList.Perm (List.range n)
structure Fall (key:Nat->O.α) (n r:Nat) (x:Array Nat × Nat × Nat):Prop where
 pm:Pm n x.1
 lo:1≤x.2.1
 hi:x.2.1≤r
 dn:Dn key x.1 x.2.1
 q:x.2.2+1≤x.2.1
 eq:∀ i,x.2.1 - (x.2.2+1)≤i->i<x.2.1->Kp key x.1 i=Kp key x.1 (x.2.1 - 1)
end
end F
namespace HT
open PySem PySem.Spec PyProof.Rows
open PySem.AutoSeq1 (wpAny_loadPart')
open PySem.MeetsSeq PySem.MeetsSeq2 PySem.MeetsSeq3
end HT
namespace F
open PySem PySem.Spec PySem.W PyProof.Rows
structure Heads (h:Heap) (a:Addr) (vs:List Value) (hs:List Int):Prop where
 len:vs.length=hs.length
 at':∀ i,i<vs.length->∃ l items t m,vs.getD i Value.none=.ref l/\l≠a/\h.get? l=some { cls:=.type "list",dict:=none,data:=.seq items m,slots:=#[] }/\items[0]?=some (.int (hs.getD i 0) t)
 nd:hs.Nodup
end F
namespace L2
open PySem PySem.Spec PySem.W PyProof.Rows
structure HeadsV (H:Hp) (xs:List V) (hs:List Int):Prop where
 len:xs.length=hs.length
 at':∀ i,i<xs.length->∃ l r,xs[i]?=some (.ref l)/\H l=some (.lst (.int (hs.getD i 0)::r))
 nd:hs.Nodup
end L2
namespace F
open PySem PySem.Spec PyProof.Rows L2
end F
namespace HT
open PySem PySem.Spec PySem.W PyProof.Rows
open PySem.AutoSeq1 (wpAny_loadPart')
end HT
namespace L2
open PySem PySem.Spec PySem.W PyProof.Rows
end L2
namespace F
open PySem PySem.Spec PyProof.Rows L2
end F
namespace L2
open PySem PySem.Spec PySem.W PyProof.Rows
end L2
namespace F
open PySem PySem.Spec PyProof.Rows L2
end F
namespace F
open PySem PySem.Spec PyProof.Rows
namespace Tab
noncomputable def adv(t:SetTable):Nat->SetTable.Probe->SetTable.Probe
 | 0,P=>P
 | n+1,P=>adv t n (t.advance P)
noncomputable def In(t:SetTable)(P:SetTable.Probe):Prop:=P.j+P.more≤t.mask/\P.dummy=none
section
variable {t:SetTable} {h:Int}
inductive Meet (t:SetTable) (m:Nat) (P:SetTable.Probe):Option SetTable.Met->Prop
 | empty (j:Nat):t.slot j=.empty->j≤t.mask->Meet t m P (some (.empty j none))
 | cand (j i k:Nat) (next:SetTable.Probe):t.slot j=.live i->k<m->In t next->t.slot (adv t k next).j=.empty->Meet t m P (some (.candidate j i next))
end
end Tab
noncomputable def ElT(prog:Program)(w:World)(h:Heap)(e:Int × Value):Prop:=∃ b k,e.2=.ref b/\IsTupleKey (intKind prog w) h k b/\e.1=tupleKeyHash (intKind prog w) k
structure SetTt (prog:Program) (w:World) (h:Heap) (es:Array (Int × Value)) (t:SetTable) (L:List Value) (led:Bool):Prop where
 el:∀ e ∈ es.toList,ElT prog w h e
 perm:(es.toList.map (·.2)).Perm L
 good:Tab.Good t es.size led
 mask:t.mask=7∨t.mask=31∨t.mask=127
 nf:es.size * 5<t.mask * 3
noncomputable def zoC(prog:Program)(w:World)(h:Heap)(a:Addr)(L:List Value)(led:Bool):Prop:=∃ o es ep t,h.get? a=some o/\o.ExactSet/\o.data=.set es ep t/\SetTt prog w h es t L led
section
variable {prog:Program} {w:World} {A:Around} {E:Value->Shared->Prop} {s:Shared}
structure Tups (prog:Program) (w:World) (h0:Heap) (n:Nat) (ad:Nat->Addr) (key:Nat->List Int) (wr:List Addr):Prop where
 at':∀ i,i<n->IsTupleKey (intKind prog w) h0 (key i) (ad i)
 out:∀ i,i<n->ad i ∉ wr
 ne:∀ i j,i<j->j<n->key i≠key j
noncomputable def tl(ad:Nat->Addr)(n:Nat):List Value:=(List.range n).map fun j=>.ref (ad j)
end
end F
namespace F
open PySem PySem.Spec PySem.W PyProof.Rows
noncomputable def plt(a b:Int × Int):Prop:=a.1<b.1∨a.1=b.1/\a.2<b.2
instance (a b:Int × Int):Decidable (plt a b):=by unfold plt;infer_instance
structure PairsAt (h:Heap) (a:Addr) (vs:List Value) (ks:List (Int × Int)):Prop where
 len:vs.length=ks.length
 at':∀ i,i<vs.length->∃ l o items m t u,vs.getD i Value.none=.ref l/\l≠a/\h.get? l=some o/\o.cls=.type "tuple"/\o.data=.seq items m/\items.toList=[.int (ks.getD i (0,0)).1 t,.int (ks.getD i (0,0)).2 u]
 nd:ks.Nodup
end F
namespace F
end F
namespace L2
open PySem PySem.Spec PySem.W PyProof.Rows F
end L2
namespace F
open PySem PySem.Spec PyProof.Rows L2
end F
namespace F
open PySem L2
section
variable {env:En} {f fa fb fc:FE} {t u:FT} {fs:FA} {g h:FS} {p q:PV}
@[simp] theorem ug(i:Nat):zA i env=(env[i]?).join:=rfl
@[simp] theorem zko(p:PV):fC p env=some p:=rfl
@[simp] theorem yK(k:PV->PV->Option PV):fOp k fa fb env=(fa env).bind fun x=>(fb env).bind fun y=>k x y:=rfl
@[simp] theorem zfD(k:PV->Option PV):fUn k fa env=(fa env).bind k:=rfl
@[simp] theorem zcN:zx f env=(f env).bind fun p=>if zw p=true then some p else none:=rfl
@[simp] theorem qL:fT f env=(f env).bind wS:=rfl
@[simp] theorem zcP:zbi t u env=(t env).bind fun b=>if b=true then u env else some false:=rfl
@[simp] theorem znh:fOr t u env=(t env).bind fun b=>if b=true then some true else u env:=rfl
@[simp] theorem zlR:ziA t env=(t env).map fun b=>!b:=rfl
@[simp] theorem zoy:fIf t fa fb env=(t env).bind fun c=>if c=true then fa env else fb env:=rfl
@[simp] theorem zeL:zI env=some []:=rfl
@[simp] theorem zU:zC f fs env=(f env).bind fun p=>(fs env).map fun ps=>p::ps:=rfl
@[simp] theorem jH:yp fs env=(fs env).map .tup:=rfl
@[simp] theorem zlS:wF fs env=(fs env).map .lst:=rfl
@[simp] theorem zcO(Φ:List PV->Option PV):zJ Φ fs env=(fs env).bind Φ:=rfl
@[simp] theorem znk(k k':PV->PV->Option PV):zlG k k' fa fb fc env=(fa env).bind fun x=>(fb env).bind fun y=>(k x y).bind fun z=>(wS z).bind fun b=>if b=true then (fc env).bind fun w=>k' y w else some (.bl false):=rfl
@[simp] theorem znA:zmV fa fb env=(fa env).bind fun x=>(wS x).bind fun k=>if k=true then fb env else some (.bl false):=rfl
@[simp] theorem zlQ:zgm fa fb env=(fa env).bind fun x=>(wS x).bind fun k=>if k=true then some (.bl true) else fb env:=rfl
@[simp] theorem znz:zmU fa env=(fa env).bind fun x=>(wS x).map fun k=>.bl (!k):=rfl
@[simp] theorem zni:fNx env=some (.nx env):=rfl
@[simp] theorem zoA:fBk env=some (.bk env):=rfl
@[simp] theorem zoz:fCt env=some (.ct env):=rfl
@[simp] theorem vL:yq f env=(f env).map fun p=>.rt p env:=rfl
@[simp] theorem zny:zmT env=some (.rt .non env):=rfl
@[simp] theorem yc:wG t g h env=(t env).bind fun b=>if b=true then g env else h env:=rfl
@[simp] theorem zaW(i:Nat):zp i f env=(f env).map fun p=>.nx (env.set i (some p)):=rfl
@[simp] theorem ziY(b:PV->En->Option En):zgo b f env=(f env).bind fun p=>(b p env).map .nx:=rfl
@[simp] theorem yZ(b:PV->En->Option En):yt fs b g env=(fs env).bind fun ps=>xw b g ps env:=rfl
@[simp] theorem xC:zc f env=(f env).bind wk:=rfl
@[simp] theorem znx:zmS f env=(f env).bind fun p=>(wk p).bind fun ps=>if isDatas ps=true then some ps else none:=rfl
@[simp] theorem ziX(i:Nat):zL i p env=some (env.set i (some p)):=rfl
@[simp] theorem zok:wo env=some true:=rfl
@[simp] theorem znj:ky env=some (.dct [] []):=rfl
@[simp] theorem zma:ua env=some none:=rfl
@[simp] theorem zdN(n:Nat)(js:List Nat)(b:PV->En->Option En):fLC fs n js b t f env=(fs env).bind fun ps=>if ps.length≤100000 then (yk b t f ps (cE n js env)).map .lst else none:=rfl
theorem zH{e:En}(hg:g env=some (.nx e)):zW g h env=h e:=by unfold zW;rw [hg];rfl
theorem zcC{e:En}(hg:g env=some (.rt p e)):zW g h env=some (.rt p e):=by unfold zW;rw [hg];rfl
@[simp] theorem zke:zW g h env=(g env).bind fun o=>match o with | .nx e=>h e | o=>some o:=rfl
end
section
variable {i j:Int} {xs ys:List Int} {ps qs:List PV}
@[simp] theorem zaM:zw (.int i)=true:=rfl
@[simp] theorem znw{b:Bool}:zw (.bl b)=true:=rfl
@[simp] theorem zna{x:Str}:zw (.str x)=true:=rfl
@[simp] theorem znb:zw .non=true:=rfl
@[simp] theorem zdF:zw (.tup ps)=isDatas ps:=by simp [zw]
@[simp] theorem zlY:isDatas []=true:=rfl
@[simp] theorem zlL{p:PV}:isDatas (p::ps)=(zw p && isDatas ps):=by simp [isDatas]
@[simp] theorem j2:isDatas (xs.map PV.int)=true:=kP xs
@[simp] theorem zlZ:isDatas (ps++qs)=(isDatas ps && isDatas qs):=wD ps qs
@[simp] theorem zng{b:Bool}:wS (.bl b)=some b:=rfl
@[simp] theorem zlU:yX (.int i) (.int j)=some (.int (i+j)):=rfl
@[simp] theorem znO:wT (.int i) (.int j)=some (.int (i - j)):=rfl
@[simp] theorem zop:vLt (.int i) (.int j)=some (.bl (decide (i<j))):=rfl
@[simp] theorem zoq:vLe (.int i) (.int j)=some (.bl (decide (i≤j))):=rfl
@[simp] theorem zos:vGt (.int i) (.int j)=some (.bl (decide (j<i))):=rfl
@[simp] theorem zot:vGe (.int i) (.int j)=some (.bl (decide (j≤i))):=rfl
@[simp] theorem zmF:kC (.int i)=some (.int (-i)):=rfl
theorem zhU(h:IntMulOk i j):wU (.int i) (.int j)=some (.int (i * j)):=by simp [wU,h]
theorem zjU(h : -(2 ^ 64)<i/\i<2 ^ 64):IntMulOk i j:=.of_left (intBits_le_64 h.1 h.2)
theorem zjT(h : -(2 ^ 64)<j/\j<2 ^ 64):IntMulOk i j:=.of_right (intBits_le_64 h.1 h.2)
theorem uD(h : -(2 ^ 64)<i/\i<2 ^ 64):wU (.int i) (.int j)=some (.int (i * j)):=zhU (zjU h)
theorem zmH(h : -(2 ^ 64)<j/\j<2 ^ 64):wU (.int i) (.int j)=some (.int (i * j)):=zhU (zjT h)
theorem wN(h:0<j/\j<1073741824):y3 (.int i) (.int j)=some (.int (i / j)):=by simp [y3,h]
theorem yQ(h:0<j):yg (.int i) (.int j)=some (.int (i % j)):=by simp [yg,h]
@[simp] theorem zjt:wk (.lst ps)=some ps:=rfl
@[simp] theorem znq:wk (.fls ps)=some ps:=rfl
@[simp] theorem zeU:wk (.tup ps)=some ps:=rfl
@[simp] theorem zml:zeW (.lst ps)=some ps:=rfl
@[simp] theorem zhh:zeW (.tup ps)=some ps:=rfl
@[simp] theorem zcv:wM [.lst ps]=some (.int ps.length):=rfl
@[simp] theorem zns:wM [.fls ps]=some (.int ps.length):=rfl
@[simp] theorem znr:wM [.tup ps]=some (.int ps.length):=rfl
@[simp] theorem znt{ks:List Key}:wM [.dct ks ps]=some (.int ks.length):=rfl
@[simp] theorem zlX:jf [.lst ps]=if isDatas ps=true then some (.tup ps) else none:=rfl
@[simp] theorem zmJ:zku [.tup ps]=if isDatas ps=true then some (.lst ps) else none:=rfl
@[simp] theorem zmK:zku [.lst ps]=if isDatas ps=true then some (.lst ps) else none:=rfl
@[simp] theorem znV{b:Bool}:zfN [.bl b]=some (.int (if b then 1 else 0)):=rfl
@[simp] theorem zlz:vIx (.lst ps) (.int i)=atI ps i:=rfl
@[simp] theorem znU:vIx (.fls ps) (.int i)=atI ps i:=rfl
@[simp] theorem ix_tup:vIx (.tup ps) (.int i)=atI ps i:=rfl
theorem qX{α β:Type}(f:α->β)(l:List α)(i:Int):atI (l.map f) i=(atI l i).map f:=by
 unfold atI
 rw [List.length_map]
 cases ixN l.length i with
 | none=>rfl
 | some j=>simp
theorem wm{α:Type}{l:List α}{i:Int}(h0:0≤i)(h1:i<l.length):atI l i=l[i.toNat]?:=by
 unfold atI ixN
 rw [if_pos h0,if_pos h1];rfl
@[simp] theorem zbO{α:Type}{a:α}{l:List α}:atI (a::l) 0=some a:=by
 rw [wm (by decide) (by simp only [List.length_cons];omega)];rfl
@[simp] theorem zdM{α:Type}{a b:α}{l:List α}:atI (a::b::l) 1=some b:=by
 rw [wm (by decide) (by simp only [List.length_cons];omega)];rfl
@[simp] theorem znf{α:Type}{a b c:α}{l:List α}:atI (a::b::c::l) 2=some c:=by
 rw [wm (by decide) (by simp only [List.length_cons];omega)];rfl
@[simp] theorem zox{α:Type}{a b c d:α}{l:List α}:atI (a::b::c::d::l) 3=some d:=by
 rw [wm (by decide) (by simp only [List.length_cons];omega)];rfl
theorem kR(n:Int):∀ xs:List Int,inP (.int n) (xs.map PV.int)=decide (n ∈ xs)
 | []=>rfl
 | m::r=>by
  have ih:=kR n r
  unfold inP at ih ⊢
  rw [List.map_cons,List.any_cons,ih]
  by_cases e:m=n
  ·subst e;simp [eqS]
  ·have e':¬ n=m:=fun z=>e z.symm
   simp [eqS,e,e']
theorem kw(xs:List Int):(xs.map PV.int).all vJ=true:=by
 rw [List.all_map];exact List.all_eq_true.mpr fun _ _=>rfl
@[simp] theorem znX:vIn (.int i) (.lst (xs.map .int))=some (decide (i ∈ xs)):=by simp only [vIn,kw,kR];rfl
@[simp] theorem znY:vIn (.int i) (.fls (xs.map .int))=some (decide (i ∈ xs)):=by simp only [vIn,kw,kR];rfl
@[simp] theorem zik:vIn (.int i) (.tup (xs.map .int))=some (decide (i ∈ xs)):=by simp only [vIn,kw,kR];rfl
@[simp] theorem znu:vIn (.int i) (.tup [.int j,.int k])=some (decide (i=j∨i=k)):=by
 have:=zik (i:=i) (xs:=[j,k])
 simpa using this
@[simp] theorem inE{p q:PV}:vV p q=(vIn p q).map .bl:=rfl
@[simp] theorem znR{p q:PV}:xv p q=(vIn p q).map fun b=>.bl (!b):=rfl
@[simp] theorem zog:eqP (.int i) (.int j)=decide (i=j):=by
 unfold eqP wE PyData.eqv
 simp [Bool.beq_eq_decide_eq]
@[simp] theorem zoh:jy (.int i)=true:=by simp [jy,uy,wE,PyData.canLay0,PyData.depth]
@[simp] theorem zou:vEq (.int i) (.int j)=some (.bl (decide (i=j))):=by simp [vEq]
@[simp] theorem zoo:vNe (.int i) (.int j)=some (.bl (!decide (i=j))):=by simp [vNe]
end
section
variable {b:PV->En->Option En} {g:FS} {t:FT} {f:FE}
theorem zkd{ps:List PV}{env:En}(P:List PV->En->Prop)(h0:P [] env)
  (step:∀ pre p post e,ps=pre++p::post->P pre e->∃ e1 e2,b p e=some e1/\(g e1=some (.nx e2)∨g e1=some (.ct e2))/\P (pre++[p]) e2):∃ e,xw b g ps env=some (.nx e)/\P ps e:=by
 have go:∀ (post pre:List PV) (e:En),ps=pre++post->P pre e->∃ e',xw b g post e=some (.nx e')/\P ps e':=by
  intro post
  induction post with
  | nil=>intro pre e hp h;exact ⟨e,rfl,by rw [hp,List.append_nil];exact h⟩
  | cons p post ih=>
   intro pre e hp h
   obtain ⟨e1,e2,h1,h2,h3⟩:=step pre p post e hp h
   obtain ⟨e',h4,h5⟩:=ih (pre++[p]) e2 (by rw [hp,List.append_assoc];rfl) h3
   refine ⟨e',?_,h5⟩
   unfold xw
   rw [h1,Option.bind_some]
   rcases h2 with h2 | h2<;>(rw [h2,Option.bind_some];exact h4)
 exact go ps [] env rfl h0
theorem zbQ(P:En->Prop)(μ:En->Nat)(step:∀ e,P e->t e=some false∨(t e=some true/\∃ e',(g e=some (.nx e')∨g e=some (.ct e'))/\P e'/\μ e'<μ e)):
  ∀ (n:Nat) (env:En),P env->μ env<n->∃ e,fWh t g n env=some (.nx e)/\P e/\t e=some false
 | 0,_,_,h=>absurd h (Nat.not_lt_zero _)
 | n+1,env,hp,hm=>by
  unfold fWh
  rcases step env hp with h | ⟨h,e',h2,h3,h4⟩
  ·refine ⟨env,?_,hp,h⟩
   rw [h];rfl
  ·obtain ⟨e,h5,h6,h7⟩:=zbQ P μ step n e' h3 (by omega)
   refine ⟨e,?_,h6,h7⟩
   rw [h,Option.bind_some,if_pos rfl]
   rcases h2 with h2 | h2<;>(rw [h2,Option.bind_some];exact h5)
theorem zfy{env:En}(T:PV->Bool)(W:PV->PV):∀ (ps:List PV),(∀ p ∈ ps,∃ e,b p env=some e/\t e=some (T p)/\(T p=true->f e=some (W p)))->yk b t f ps env=some ((ps.filter T).map W)
 | [],_=>rfl
 | p::ps,h=>by
  obtain ⟨e,h1,h2,h3⟩:=h p List.mem_cons_self
  have ih:=zfy T W ps fun q hq=>h q (List.mem_cons_of_mem _ hq)
  unfold yk
  rw [h1,Option.bind_some,h2,Option.bind_some,ih]
  cases hT:T p with
  | true=>rw [if_pos rfl,h3 hT,Option.bind_some,List.filter_cons,if_pos hT];rfl
  | false=>rw [if_neg Bool.false_ne_true,List.filter_cons,if_neg (by rw [hT];exact Bool.false_ne_true)]
theorem uF{env:En}(T:Int->Bool)(W:Int->PV)(xs:List Int)(h:∀ n ∈ xs,∃ e,b (.int n) env=some e/\t e=some (T n)/\(T n=true->f e=some (W n))):yk b t f (xs.map PV.int) env=some ((xs.filter T).map W):=by
 have:=zfy (env:=env) (b:=b) (t:=t) (f:=f) (fun p=>match p with | .int n=>T n | _=>false) (fun p=>match p with | .int n=>W n | p=>p) (xs.map PV.int) (by
  intro p hp
  obtain ⟨n,hn,rfl⟩:=List.mem_map.mp hp
  exact h n hn)
 rw [this,List.filter_map,List.map_map]
 rfl
theorem zhn(lo:Int)(n:Nat):uA lo n=((List.range n).map fun (i:Nat)=>lo+(i:Int)).map PV.int:=by
 unfold uA;rw [List.map_map];rfl
theorem zho(n:Nat):uA 0 n=((List.range n).map fun (i:Nat)=>(i:Int)).map PV.int:=by
 rw [zhn];simp
end
theorem jv{t:FT}(i v:Nat)(mk:List Int->Option PV->En)(T:Int->Bool)
  (h1:∀ acc x y,(mk acc x).set v (some y)=mk acc (some y))(h2:∀ acc acc' x,(mk acc x).set i (some (.lst (acc'.map PV.int)))=mk acc' x)
  (h3:∀ acc x,(mk acc x)[i]?=some (some (.lst (acc.map PV.int))))(h4:∀ acc x,(mk acc x)[v]?=some x):
  ∀ (xs acc:List Int) (x:Option PV),(∀ n ∈ xs,∀ acc,t (mk acc (some (.int n)))=some (T n))->acc.length+xs.length≤1000->
   ∃ x',xw (zL v) (wG t (zf i (zx (zA v))) fNx) (xs.map PV.int) (mk acc x)=some (.nx (mk (acc++xs.filter T) x'))
 | [],acc,x,_,_=>⟨x,by simp [xw]⟩
 | n::xs,acc,x,ht,hl=>by
  simp only [List.length_cons] at hl
  have hn:=ht n List.mem_cons_self acc
  have hL:acc.length<100000:=by omega
  rw [List.map_cons]
  unfold xw
  rw [ziX,Option.bind_some,h1,yc,hn,Option.bind_some]
  cases hT:T n with
  | true=>
   obtain ⟨x',e⟩:=jv i v mk T h1 h2 h3 h4 xs (acc++[n]) (some (.int n)) (fun m hm=>ht m (List.mem_cons_of_mem _ hm)) (by simp only [List.length_append,List.length_singleton];omega)
   refine ⟨x',?_⟩
   have ha:zf i (zx (zA v)) (mk acc (some (.int n)))=some (.nx (mk (acc++[n]) (some (.int n)))):=by
    have:(acc.map PV.int++[PV.int n])=(acc++[n]).map PV.int:=by simp
    have hd:zx (zA v) (mk acc (some (.int n)))=some (.int n):=by simp [h4]
    have hv:zA i (mk acc (some (.int n)))=some (.lst (acc.map PV.int)):=by simp [h3]
    unfold zf
    rw [hv,Option.bind_some,hd,Option.bind_some]
    dsimp only
    rw [if_pos (by rw [List.length_map];exact hL),this,h2]
   rw [if_pos rfl,ha,Option.bind_some]
   dsimp only
   rw [e,List.filter_cons,if_pos hT,List.append_assoc]
   rfl
  | false=>
   obtain ⟨x',e⟩:=jv i v mk T h1 h2 h3 h4 xs acc (some (.int n)) (fun m hm=>ht m (List.mem_cons_of_mem _ hm)) (by omega)
   refine ⟨x',?_⟩
   rw [if_neg Bool.false_ne_true,zni,Option.bind_some]
   dsimp only
   rw [e,List.filter_cons,if_neg (by rw [hT];exact Bool.false_ne_true)]
noncomputable abbrev znC(L:List Int):PV:=.dct (L.map Sum.inl) (L.map fun _=>.bl true)
theorem u4(L:List Int)(p:Int):kS (L.map Sum.inl) (.inl p)=decide (p ∈ L):=by
 rw [Bool.eq_iff_iff,zio,decide_eq_true_eq]
 constructor
 ·intro h;obtain ⟨q,hq,e⟩:=List.mem_map.mp h;cases e;exact hq
 ·intro h;exact List.mem_map.mpr ⟨p,h,rfl⟩
@[simp] theorem znW{L:List Int}{p:Int}:vIn (.int p) (znC L)=some (decide (p ∈ L)):=by simp only [vIn,u4]
theorem w9:∀ xs:List Int,toPys (xs.map PV.int)=xs.map PyData.int
 | []=>rfl
 | x::r=>by rw [List.map_cons,toPys,w9 r];rfl
theorem jo:∀ xs:List Int,okPys (xs.map PV.int)=true
 | []=>rfl
 | x::r=>by rw [List.map_cons,okPys,jo r];rfl
theorem jE:∀ xs ys:List Int,PyData.eqvAll (xs.map PyData.int) (ys.map PyData.int)=decide (xs=ys)
 | [],[]=>rfl
 | [],_::_=>rfl
 | _::_,[]=>rfl
 | x::r,y::t=>by
  simp only [List.map_cons,PyData.eqvAll,PyData.eqv,jE r t]
  by_cases h:x=y<;>by_cases h':r=t<;>simp [h,h']
theorem zat:∀ xs:List Int,PyData.canLayAll0 (xs.map PyData.int)=true
 | []=>rfl
 | x::r=>by rw [List.map_cons,PyData.canLayAll0,zat r];rfl
theorem jz:∀ xs:List Int,PyData.depthAll (xs.map PyData.int)≤1
 | []=>by simp [PyData.depthAll]
 | x::r=>by
  have:=jz r
  rw [List.map_cons,PyData.depthAll,PyData.depth]
  omega
@[simp] theorem ziD{xs:List Int}:jy (.lst (xs.map PV.int))=true:=by
 have h1:=jz xs
 have h2:PyData.depth (.list (xs.map PyData.int))≤64:=by rw [PyData.depth];omega
 simp only [jy,uy,jo,wE,w9,PyData.canLay0,zat,h2,decide_true,Bool.and_self]
@[simp] theorem zmY{xs:List Int}:jy (.tup (xs.map PV.int))=true:=by
 have h1:=jz xs
 have h2:PyData.depth (.tuple (xs.map PyData.int))≤64:=by rw [PyData.depth];omega
 simp only [jy,uy,jo,wE,w9,PyData.canLay0,zat,h2,decide_true,Bool.and_self]
@[simp] theorem zkh{xs ys:List Int}:eqP (.lst (xs.map PV.int)) (.lst (ys.map PV.int))=decide (xs=ys):=by
 simp only [eqP,wE,w9,PyData.eqv,jE]
@[simp] theorem znv{xs ys:List Int}:eqP (.tup (xs.map PV.int)) (.tup (ys.map PV.int))=decide (xs=ys):=by
 simp only [eqP,wE,w9,PyData.eqv,jE]
theorem zlI{xs ys:List Int}:vEq (.lst (xs.map PV.int)) (.lst (ys.map PV.int))=some (.bl (decide (xs=ys))):=by simp only [vEq,ziD,zkh];rfl
theorem zlH{xs:List Int}:vEq (.lst (xs.map PV.int)) (.lst [])=some (.bl (decide (xs=[]))):=zlI (ys:=[])
theorem znd(xs:List Int):zbk (xs.map PV.int) none (some 1)=(xs.take 1).map PV.int:=by
 unfold zbk HT.sIx
 cases xs with
 | nil=>rfl
 | cons x r=>simp
end F
namespace F
open PySem PySem.Spec PyProof.Rows L2
theorem zbs{K:PySem.W.Frag}{H:Hp}:∀ ns:List Int,Rps K H (ns.map PV.int) (ns.map V.int) []
 | []=>.nil
 | n::ns=>by
  have:=Rps.cons (K:=K) (H:=H) (Rp.mkI n) (zbs ns)
  exact this
theorem zlr{K:PySem.W.Frag}{Φ:List PV->Option PV}{H:Hp}{a:Addr}{ns:List Int}(ho:zkq H)(hs:SqL K H a (ns.map V.int))(h:Φ [.fls (ns.map PV.int)]=some (.bl true)):spV K 1 Φ [.ref a] H (fun v _=>v=.bl true) (fun _ _ _=>False):=by
 have fz:Fz K H a (ns.map V.int):=by
  rcases hs with (hs | hs) | hs
  ·rcases ho a with z | ⟨o,xs,z⟩
   ·rw [hs] at z;cases z
   ·rw [hs] at z;cases z
  ·exact .inl hs
  ·exact .inr hs
 refine ⟨[.fls (ns.map PV.int)],[],.bl true,Rps.one (by unfold Rp;exact ⟨a,_,rfl,fz,zbs ns⟩),rfl,h,fun v H' C _ r _ _=>r.B.1⟩
end F
namespace F
open PySem L2
section
variable {env:En} {f fk:FE} {fs:FA}
@[simp] theorem zkn:zfr fs env=(fs env).bind fun ps=>if ps.length≤100000 then some (.lst ps) else none:=rfl
@[simp] theorem zcM:zbh fs env=(fs env).bind fun ps=>match ps with | [p,q]=>(wk p).bind fun xs=>(wk q).bind fun ys=>some ((List.zip xs ys).map fun z=>PV.tup [z.1,z.2]) | _=>none:=rfl
end
noncomputable def dF(L:List Int)(G:Int->PV):PV:=.dct (L.map Sum.inl) (L.map G)
section
variable {L:List Int} {G:Int->PV} {p:Int} {q x:PV}
@[simp] theorem zor:vIn (.int p) (dF L G)=some (decide (p ∈ L)):=by simp only [dF,vIn,u4]
@[simp] theorem znZ:vIn .non (dF L G)=some false:=rfl
@[simp] theorem znT:wM [dF L G]=some (.int L.length):=by simp [dF]
theorem zcE(h:p ∈ L):ue (L.map Sum.inl) (L.map G) (.inl p)=some (G p):=by
 unfold ue
 induction L with
 | nil=>cases h
 | cons a r ih=>
  rw [List.map_cons,List.map_cons,List.zip_cons_cons,List.find?_cons]
  by_cases e:a=p
  ·subst e;simp
  ·have:decide ((((Sum.inl a:Key),G a):Key × PV).1=Sum.inl p)=false:=decide_eq_false fun z=>e (Sum.inl.inj z)
   rw [this]
   exact ih ((List.mem_cons.mp h).resolve_left fun z=>e z.symm)
theorem zbF(h:p ∉ L):ue (L.map Sum.inl) (L.map G) (.inl p)=none:=by
 unfold ue
 induction L with
 | nil=>rfl
 | cons a r ih=>
  rw [List.map_cons,List.map_cons,List.zip_cons_cons,List.find?_cons]
  have e:¬ a=p:=fun z=>h (z ▸ List.mem_cons_self)
  have:decide ((((Sum.inl a:Key),G a):Key × PV).1=Sum.inl p)=false:=decide_eq_false fun z=>e (Sum.inl.inj z)
  rw [this]
  exact ih fun z=>h (List.mem_cons_of_mem _ z)
theorem zaw(h:p ∈ L):vIx (dF L G) (.int p)=some (G p):=zcE h
noncomputable def k8(L:List Int)(G:Int->PV):Prop:=∀ p ∈ L,zw (G p)=true
theorem zdE(h:k8 L G):isDatas (L.map G)=true:=by
 rw [vQ]
 intro y hy
 obtain ⟨a,ha,rfl⟩:=List.mem_map.mp hy
 exact h a ha
theorem zlE(hd:k8 L G)(hx:zw x=true):zjm (dF L G) (.int p) x=some (if p ∈ L then G p else x):=by
 simp only [dF,zjm,zdE hd,hx,Bool.and_self,if_true,vF,Option.map_some]
 by_cases h:p ∈ L
 ·rw [if_pos h,zcE h];rfl
 ·rw [if_neg h,zbF h];rfl
noncomputable def upF(G:Int->PV)(p:Int)(q:PV):Int->PV:=fun y=>if y=p then q else G y
@[simp] theorem wz:upF G p q p=q:=if_pos rfl
theorem uk{y:Int}(h:y≠p):upF G p q y=G y:=if_neg h
theorem zcf(hd:k8 L G)(hq:zw q=true)(hl:L.length<100000):qh (dF L G) (.int p) q=some (dF (if p ∈ L then L else L++[p]) (upF G p q)):=by
 simp only [dF,qh,zdE hd,hq,List.length_map,hl,decide_true,Bool.and_self,if_true]
 unfold wp
 rw [u4]
 by_cases h:p ∈ L
 ·rw [decide_eq_true h,if_pos rfl,if_pos h]
  congr 2
  clear h hl hd
  induction L with
  | nil=>rfl
  | cons a r ih=>
   simp only [List.map_cons,List.zipWith_cons_cons,ih]
   congr 1
   unfold upF
   by_cases e:a=p
   ·simp [e]
   ·simp [e]
 ·rw [decide_eq_false h,if_neg Bool.false_ne_true,if_neg h]
  simp only [List.map_append,List.map_cons,List.map_nil,wz]
  congr 3
  exact List.map_congr_left fun a ha=>(uk (show a≠p from fun z=>h (by rw [← z];exact ha))).symm
end
@[simp] theorem zoj(G:Int->PV):PV.dct [] []=dF [] G:=rfl
noncomputable def okB(d:Nat)(p:PV):Prop:=uy p=true/\(wE p).canLay0=true/\(wE p).depth≤d
theorem okB.mono{d e:Nat}{p:PV}(h:okB d p)(hd:d≤e):okB e p:=⟨h.1,h.2.1,Nat.le_trans h.2.2 hd⟩
theorem okB.ok{d:Nat}{p:PV}(h:okB d p)(hd:d≤64):jy p=true:=by
 have h3:(wE p).depth≤64:=Nat.le_trans h.2.2 hd
 simp [jy,h.1,h.2.1,h3]
theorem zcr(i:Int):okB 0 (.int i):=⟨rfl,rfl,by simp [wE,PyData.depth]⟩
theorem zcs(b:Bool):okB 0 (.bl b):=⟨rfl,rfl,by simp [wE,PyData.depth]⟩
theorem okB_non:okB 0 .non:=⟨rfl,rfl,by simp [wE,PyData.depth]⟩
theorem zcq{x:Str}(h:PyData.canLay0 (.str x)=true):okB 0 (.str x):=⟨rfl,h,by simp [wE,PyData.depth]⟩
theorem zlp{d:Nat}:∀ {ps:List PV},(∀ p ∈ ps,okB d p)->okPys ps=true/\PyData.canLayAll0 (toPys ps)=true/\PyData.depthAll (toPys ps)≤d
 | [],_=>⟨rfl,rfl,by simp [toPys,PyData.depthAll]⟩
 | p::ps,h=>by
  obtain ⟨h1,h2,h3⟩:=h p List.mem_cons_self
  obtain ⟨g1,g2,g3⟩:=zlp fun q hq=>h q (List.mem_cons_of_mem _ hq)
  refine ⟨by rw [okPys,h1,g1];rfl,by rw [toPys,PyData.canLayAll0,h2,g2];rfl,by rw [toPys,PyData.depthAll];omega⟩
theorem zjQ{d:Nat}{ps:List PV}(h:∀ p ∈ ps,okB d p):okB (d+1) (.lst ps):=by
 obtain ⟨h1,h2,h3⟩:=zlp h
 exact ⟨by rw [uy];exact h1,by rw [wE,PyData.canLay0];exact h2,by rw [wE,PyData.depth];omega⟩
theorem zcp{d:Nat}{ps:List PV}(h:∀ p ∈ ps,okB d p):okB (d+1) (.tup ps):=by
 obtain ⟨h1,h2,h3⟩:=zlp h
 exact ⟨by rw [uy];exact h1,by rw [wE,PyData.canLay0];exact h2,by rw [wE,PyData.depth];omega⟩
theorem zhR(xs:List Int):∀ p ∈ xs.map PV.int,okB 0 p:=fun p hp=>by
 obtain ⟨i,_,rfl⟩:=List.mem_map.mp hp;exact zcr i
theorem ziC{d:Nat}{p:PV}(h:okB d p):eqP p p=true:=PySem.SeqAt.eqv_refl _ h.2.1
theorem qR{d:Nat}{p:PV}(h:okB d p)(hd:d≤64):vNe p p=some (.bl false):=by simp [vNe,h.ok hd,ziC h]
section
variable {b:PV->En->Option En} {g:FS} {t:FT} {f:FE}
theorem yj{α:Type}{xs:List α}{hh:α->PV}{env:En}(P:List α->En->Prop)(h0:P [] env)
  (step:∀ pre a post e,xs=pre++a::post->P pre e->∃ e1 e2,b (hh a) e=some e1/\(g e1=some (.nx e2)∨g e1=some (.ct e2))/\P (pre++[a]) e2):∃ e,xw b g (xs.map hh) env=some (.nx e)/\P xs e:=by
 have go:∀ (post pre:List α) (e:En),xs=pre++post->P pre e->∃ e',xw b g (post.map hh) e=some (.nx e')/\P xs e':=by
  intro post
  induction post with
  | nil=>intro pre e hp h;exact ⟨e,rfl,by rw [hp,List.append_nil];exact h⟩
  | cons p post ih=>
   intro pre e hp h
   obtain ⟨e1,e2,h1,h2,h3⟩:=step pre p post e hp h
   obtain ⟨e',h4,h5⟩:=ih (pre++[p]) e2 (by rw [hp,List.append_assoc];rfl) h3
   refine ⟨e',?_,h5⟩
   rw [List.map_cons]
   unfold xw
   rw [h1,Option.bind_some]
   rcases h2 with h2 | h2<;>(rw [h2,Option.bind_some];exact h4)
 exact go xs [] env rfl h0
theorem zaE{α:Type}{hh:α->PV}(c:α->Bool)(W:α->PV)(P:En->Prop):∀ (xs:List α) (env:En),P env->
  (∀ a ∈ xs,∀ e,P e->∃ e1,b (hh a) e=some e1/\(c a=true->∃ e2,g e1=some (.rt (W a) e2))/\(c a=false->∃ e2,g e1=some (.nx e2)/\P e2))->
  match xs.find? c with
  | some a=>∃ e,xw b g (xs.map hh) env=some (.rt (W a) e)
  | none=>∃ e,xw b g (xs.map hh) env=some (.nx e)/\P e
 | [],env,h,_=>⟨env,rfl,h⟩
 | a::xs,env,h,step=>by
  obtain ⟨e1,h1,h2,h3⟩:=step a List.mem_cons_self env h
  rw [List.find?_cons]
  cases hc:c a with
  | true=>
   obtain ⟨e2,h4⟩:=h2 hc
   refine ⟨e2,?_⟩
   rw [List.map_cons]
   unfold xw
   rw [h1,Option.bind_some,h4];rfl
  | false=>
   obtain ⟨e2,h4,h5⟩:=h3 hc
   have ih:=zaE c W P xs e2 h5 fun a ha=>step a (List.mem_cons_of_mem _ ha)
   have e:xw b g ((a::xs).map hh) env=xw b g (xs.map hh) e2:=by
    rw [List.map_cons]
    conv=>lhs;unfold xw
    rw [h1,Option.bind_some,h4];rfl
   rw [e]
   exact ih
theorem yu{α:Type}{env:En}{hh:α->PV}(W:α->PV):∀ (xs:List α),(∀ a ∈ xs,∃ e,b (hh a) env=some e/\t e=some true/\f e=some (W a))->yk b t f (xs.map hh) env=some (xs.map W)
 | [],_=>rfl
 | a::xs,h=>by
  obtain ⟨e,h1,h2,h3⟩:=h a List.mem_cons_self
  have ih:=yu W xs fun q hq=>h q (List.mem_cons_of_mem _ hq)
  rw [List.map_cons]
  unfold yk
  rw [h1,Option.bind_some,h2,Option.bind_some,ih,if_pos rfl,h3,Option.bind_some];rfl
theorem k6{α:Type}{env:En}{hh:α->PV}(T:α->Bool)(W:α->PV):∀ (xs:List α),(∀ a ∈ xs,∃ e,b (hh a) env=some e/\t e=some (T a)/\(T a=true->f e=some (W a)))->yk b t f (xs.map hh) env=some ((xs.filter T).map W)
 | [],_=>rfl
 | a::xs,h=>by
  obtain ⟨e,h1,h2,h3⟩:=h a List.mem_cons_self
  have ih:=k6 T W xs fun q hq=>h q (List.mem_cons_of_mem _ hq)
  rw [List.map_cons]
  unfold yk
  rw [h1,Option.bind_some,h2,Option.bind_some,ih]
  cases hT:T a with
  | true=>rw [if_pos rfl,h3 hT,Option.bind_some,List.filter_cons,if_pos hT];rfl
  | false=>rw [if_neg Bool.false_ne_true,List.filter_cons,if_neg (by rw [hT];exact Bool.false_ne_true)]
end
theorem yB{fs:FA}{env:En}{i:Nat}{as:List PV}{p:PV}{Φ:List PV->Option PV}(h:fs env=some as)(h2:Φ as=some p):zp i (zJ Φ fs) env=some (.nx (env.set i (some p))):=by
 rw [zaW,zcO,h,Option.bind_some,h2];rfl
theorem zY{fs:FA}{env:En}{as:List PV}{p:PV}{Φ:List PV->Option PV}(h:fs env=some as)(h2:Φ as=some p):zJ Φ fs env=some p:=by
 rw [zcO,h,Option.bind_some,h2]
theorem yo{m:Nat}{g:FS}{ps:List PV}{p:PV}{e:En}(env:En)(he:ps.map some++List.replicate (m - ps.length) none=env)(h:g env=some (.rt p e)):fnV m g ps=some p:=by
 unfold fnV;rw [he,h];rfl
theorem zcd{fs:FA}{env:En}{j:Int}(h:fs env=some [.int j])(h1 : -1000000≤j)(h2:j≤1000000):vT fs env=some (uA 0 j.toNat):=by
 have hj:j<4611686018427387904/\-4611686018427387904≤j:=by omega
 unfold vT
 rw [h,Option.bind_some]
 simp [hj]
theorem zfj{n k:Nat}(h:k<n):ixN n (k:Int)=some k:=by
 unfold ixN
 rw [if_pos (by omega),if_pos (by omega)];rfl
theorem atI_nat{α:Type}{l:List α}{k:Nat}(h:k<l.length):atI l (k:Int)=some l[k]:=by
 rw [wm (by omega) (by omega)]
 simp [h]
end F
namespace CB
variable {F:List Int} {d:Int} {stop:Int->Bool} {pre:List Int} {ps:List (Int × Nat)} {f:Int}
theorem Runs.next(r:Runs0 F d stop pre ps)(nf:f ∉ pre){a:Nat}{x:Int × Nat}(ha:ps[a]?=some x)(hc:f - d ∈ zt d x.1 x.2):f=x.1+x.2 * d:=by
 obtain ⟨i,hi,e⟩:=mem_chain.mp hc
 by_cases h:i+1<x.2
 ·have:=(r.inn _ (List.mem_of_getElem? ha) (i+1) h).1
  rw [qq] at this
  exact absurd (by rwa [show f=x.1+(i * d+d) by omega]) nf
 ·have:x.2=i+1:=by omega
  rw [this,qq];omega
theorem Runs.len(r:Runs0 F d stop pre ps):ps.length≤pre.length:=by
 have:=congrArg List.length r.heads
 rw [List.length_map] at this
 rw [this]
 exact List.length_filter_le _ _
theorem Runs.len0(r:Runs0 F d stop pre ps)(hd:0<d){a:Nat}{x:Int × Nat}(ha:ps[a]?=some x):x.2≤pre.length:=by
 have:=zX (zt d x.1 x.2) pre (wl hd _ _) fun y hy=>by
  obtain ⟨i,hi,rfl⟩:=mem_chain.mp hy
  exact (r.inn x (List.mem_of_getElem? ha) i hi).1
 rwa [yb] at this
end CB
namespace Cb
open PySem L2 F CB PyProof.Rows
noncomputable def kX:FS:=(wG (fT (fOp vV (zA 5) (zA 3))) (zW (ui 3 (zA 4) (fOp vIx (zA 3) (zA 5)))
 (zeB 2 (fOp vIx (zA 3) (zA 4)) (jN (zx (zA 4))))) (zW (ui 3 (zA 4) (zJ wM (zC (zA 2) zI)))
 (zf 2 (wF (zC (zx (zA 4)) zI)))))
noncomputable def zez:FS:=(zW (zp 2 (wF zI))
 (zW (zp 3 ky)
 (zW (yt (zbh (zC (zA 0) (zC (zA 1) zI))) (xM 2 (zZ (zL 4) (zZ (zL 5) xN))) kX)
 (yq (fLC (zc (zA 2)) 1 [] (zL 0) wo (zJ jf (zC (zA 0) zI)))))))
noncomputable def uH:List PV->Option PV:=fnV 6 zez
noncomputable def ww:FS:=(yq (fIf (fT (fOp vEq (fOp yg (zA 1) (fOp vIx (zA 0) (fC (.int 0)))) (fC (.int 0)))) (fC .non) (fOp wT (zA 1) (fC (.int 1)))))
noncomputable def xE:List PV->Option PV:=fnV 2 ww
noncomputable def jq:FS:=(yq (zJ uH (zC (fOp vIx (zA 0) (fC (.int 2))) (zC (fLC (zc (fOp vIx (zA 0) (fC (.int 2)))) 1 [0] (zL 0) wo (zJ xE (zC (zA 1) (zC (zA 0) zI)))) zI))))
noncomputable def wg:List PV->Option PV:=fnV 1 jq
noncomputable def vk:FS:=(yq (fOp wT (zA 1) (fOp vIx (zA 0) (fC (.int 0)))))
noncomputable def xO:List PV->Option PV:=fnV 2 vk
noncomputable def vo:FS:=(yq (zJ uH (zC (fOp vIx (zA 0) (fC (.int 2))) (zC (fLC (zc (fOp vIx (zA 0) (fC (.int 2)))) 1 [0] (zL 0) wo (zJ xO (zC (zA 1) (zC (zA 0) zI)))) zI))))
noncomputable def xP:List PV->Option PV:=fnV 1 vo
noncomputable def zaB:FS:=(zW (zp 1 (fLC (zc (zJ wg (zC (zA 0) zI))) 1 [] (zL 0) wo (yp (zC (fC (.str "row")) (zC (zx (zA 0)) zI)))))
 (zW (zp 2 (fLC (zc (zJ xP (zC (zA 0) zI))) 1 [] (zL 0) wo (yp (zC (fC (.str "column")) (zC (zx (zA 0)) zI)))))
 (yq (fOp yX (zA 1) (zA 2)))))
noncomputable def xZ:List PV->Option PV:=fnV 3 zaB
noncomputable def v3:FS:=(ui 1 (zA 4) (fOp yX (zkf (zA 1) (zA 4) (yp zI)) (yp (zC (zA 2) zI))))
noncomputable def vz:FS:=(yt (zc (fOp vIx (zA 3) (fC (.int 1)))) (zL 4) v3)
noncomputable def u6:FS:=(zW (zp 1 ky)
 (zW (yt (jD (zC (zJ xZ (zC (zA 0) zI)) zI)) (xM 2 (zZ (zL 2) (zZ (zL 3) xN))) vz)
 (yq (zA 1))))
noncomputable def yH:List PV->Option PV:=fnV 5 u6
noncomputable def jt:FS:=(yq (fOp vIx (zJ yH (zC (zA 0) zI)) (zA 1)))
noncomputable def wA:List PV->Option PV:=fnV 2 jt
noncomputable def yr(d:Int)(stop:Int->Bool)(f:Int):PV:=if stop f=true then .non else .int (f - d)
noncomputable def xi(d:Int)(x:Int × Nat):PV:=.lst ((zt d x.1 x.2).map PV.int)
noncomputable def zcc(d:Int)(x:Int × Nat):PV:=.tup ((zt d x.1 x.2).map PV.int)
theorem zeY{F:List Int}{d:Int}{stop:Int->Bool}(hd:0<d)(rise:F.Pairwise (·<·))(hl:F.length≤1000):
  ∃ ps,uH [.tup (F.map PV.int),.lst (F.map (yr d stop))]=some (.lst (ps.map (zcc d)))/\Runs F d stop F ps:=by
 let mk:List (Int × Nat)->List Int->(Int->PV)->Option PV->Option PV->En:=fun ps pre G x y=>[some (.tup (F.map PV.int)),some (.lst (F.map (yr d stop))),some (.lst (ps.map (xi d))),some (dF pre G),x,y]
 obtain ⟨e,h1,ps,G,x,y,rfl,hr,hG⟩:=yj (b:=xM 2 (zZ (zL 4) (zZ (zL 5) xN))) (g:=kX) (xs:=F) (hh:=fun f=>PV.tup [.int f,yr d stop f]) (env:=mk [] [] (fun _=>.non) none none)
  (fun pre e=>∃ ps G x y,e=mk ps pre G x y/\Runs F d stop pre ps/\∀ f ∈ pre,∃ (k:Nat) (z:Int × Nat),G f=.int k/\ps[k]?=some z/\f ∈ zt d z.1 z.2)
  ⟨[],_,none,none,rfl,.nil,by simp⟩ (by
   rintro pre f post e hF ⟨ps,G,x,y,rfl,r,hG⟩
   have sub:∀ p ∈ pre,p ∈ F:=fun p hp=>by rw [hF];exact List.mem_append_left _ hp
   have lt:∀ p ∈ pre,p<f:=fun p hp=>by
    rw [hF,List.pairwise_append] at rise
    exact rise.2.2 p hp f List.mem_cons_self
   have gt:∀ p ∈ F,p<f->p ∈ pre:=fun p hp h=>by
    rw [hF,List.pairwise_append] at rise
    rw [hF] at hp
    rcases List.mem_append.mp hp with hp | hp
    ·exact hp
    ·rcases List.mem_cons.mp hp with rfl | hp
     ·omega
     ·have:=(List.pairwise_cons.mp rise.2.1).1 p hp;omega
   have nf:f ∉ pre:=fun h=>by have:=lt f h;omega
   have nd:pre.Nodup:=by
    rw [hF,List.pairwise_append] at rise
    exact xH rise.1
   have hD:k8 pre G:=fun p hp=>by obtain ⟨k,z,e,_⟩:=hG p hp;rw [e];rfl
   have hpl:pre.length<1000:=by rw [hF,List.length_append,List.length_cons] at hl;omega
   have hpsl:=Runs.len r.toRuns0
   refine ⟨mk ps pre G (some (.int f)) (some (yr d stop f)),?_⟩
   by_cases hin:stop f=false/\f - d ∈ pre
   ·-- it goes on
    obtain ⟨hs,hp⟩:=hin
    obtain ⟨k,z,e1,e2,e3⟩:=hG _ hp
    have hz:=Runs.next r.toRuns0 nf e2 e3
    have hst:yL F d stop f=false:=by simp [yL,hs,sub _ hp]
    obtain ⟨kl,kz⟩:=List.getElem?_eq_some_iff.mp e2
    refine ⟨mk (ps.set k (z.1,z.2+1)) (pre++[f]) (upF G f (.int k)) (some (.int f)) (some (yr d stop f)),by simp [xM,zZ,xN,mk],.inl ?_,_,_,_,_,rfl,r.ext hd sub nd lt hst e2 hz,?_⟩
    ·have ha:yr d stop f=.int (f - d):=by simp [yr,hs]
     have hput:=zcf (p:=f) (q:=.int k) hD rfl (show pre.length<100000 by omega)
     rw [if_neg nf] at hput
     have hzl:z.2≤1000:=by
      have h1:=Runs.len0 r.toRuns0 hd e2
      omega
     have hset:(ps.set k (z.1,z.2+1)).map (xi d)=(ps.map (xi d)).set k (.lst ((zt d z.1 z.2).map PV.int++[.int f])):=by
      rw [List.map_set]
      congr 1
      simp [xi,xz,← hz]
     have ht:fT (fOp vV (zA 5) (zA 3)) (mk ps pre G (some (.int f)) (some (yr d stop f)))=some true:=by simp [mk,ha,hp]
     unfold kX
     rw [yc,ht,Option.bind_some,if_pos rfl]
     rw [zH (e:=mk ps (pre++[f]) (upF G f (.int k)) (some (.int f)) (some (yr d stop f))) (by simp [mk,ui,ha,zaw hp,e1,hput])]
     have hk:ixN (ps.map (xi d)).length (k:Int)=some k:=zfj (by simpa using kl)
     have hg:(ps.map (xi d))[k]?=some (.lst ((zt d z.1 z.2).map PV.int)):=by simp [kl,kz,xi]
     have hi:fOp vIx (zA 3) (zA 4) (mk ps (pre++[f]) (upF G f (.int k)) (some (.int f)) (some (yr d stop f)))=some (.int k):=by simp [mk,zaw (L:=pre++[f]) (p:=f)]
     unfold zeB
     rw [hi]
     have hv:zA 2 (mk ps (pre++[f]) (upF G f (.int k)) (some (.int f)) (some (yr d stop f)))=some (.lst (ps.map (xi d))):=rfl
     rw [hv,Option.bind_some,Option.bind_some]
     simp only [kO,Option.bind_some,hk,hg]
     simp only [jN,mk,zcN,ug,List.getElem?_cons_succ,List.getElem?_cons_zero,Option.join_some,Option.bind_some,zaM,if_true,List.length_map,yb,show z.2<100000 by omega,Option.map_some,hset]
     rfl
    ·intro p hp'
     rcases List.mem_append.mp hp' with hp' | hp'
     ·obtain ⟨k',z',f1,f2,f3⟩:=hG p hp'
      refine ⟨k',if k'=k then (z.1,z.2+1) else z',by rw [uk (show p≠f from fun h=>nf (by rw [← h];exact hp'))];exact f1,?_,?_⟩
      ·rw [List.getElem?_set]
       by_cases hk:k=k'
       ·subst hk;simp [kl]
       ·rw [if_neg hk,if_neg (fun h=>hk h.symm)];exact f2
      ·split
       ·rename_i hk
        subst hk
        rw [e2] at f2;cases f2
        simp only [xz]
        exact List.mem_append_left _ f3
       ·exact f3
     ·rw [List.mem_singleton.mp hp']
      refine ⟨k,(z.1,z.2+1),wz,by rw [List.getElem?_set,if_pos rfl,if_pos kl],?_⟩
      simp only [xz,← hz];simp
   ·have hst:yL F d stop f=true:=by
     by_cases hs:stop f=false
     ·have:f - d ∉ F:=fun h=>hin ⟨hs,gt _ h (by omega)⟩
      simp [yL,this]
     ·simp [yL,hs]
    refine ⟨mk (ps++[(f,1)]) (pre++[f]) (upF G f (.int ps.length)) (some (.int f)) (some (yr d stop f)),by simp [xM,zZ,xN,mk],.inl ?_,_,_,_,_,rfl,r.new hd sub lt hst,?_⟩
    ·have hput:=zcf (p:=f) (q:=.int ps.length) hD rfl (show pre.length<100000 by omega)
     rw [if_neg nf] at hput
     have hno:vIn (yr d stop f) (dF pre G)=some false:=by
      unfold yr
      by_cases hs:stop f=true
      ·rw [if_pos hs];rfl
      ·rw [if_neg hs]
       have:f - d ∉ pre:=fun h=>hin ⟨by simpa using hs,h⟩
       simp [this]
     have hap:(ps.map (xi d))++[.lst [.int f]]=(ps++[(f,1)]).map (xi d):=by simp [xi,qW]
     unfold kX
     simp [mk,hno,ui,hput,zf,show ps.length<100000 by omega,hap]
    ·intro p hp'
     rcases List.mem_append.mp hp' with hp' | hp'
     ·obtain ⟨k',z',f1,f2,f3⟩:=hG p hp'
      exact ⟨k',z',by rw [uk (show p≠f from fun h=>nf (by rw [← h];exact hp'))];exact f1,by rw [List.getElem?_append_left (List.getElem?_eq_some_iff.mp f2).1];exact f2,f3⟩
     ·rw [List.mem_singleton.mp hp']
      exact ⟨ps.length,(f,1),wz,by simp,by simp [qW]⟩)
 refine ⟨ps,?_,hr⟩
 have hz:(List.zip (F.map PV.int) (F.map (yr d stop))).map (fun z=>PV.tup [z.1,z.2])=F.map fun f=>PV.tup [.int f,yr d stop f]:=by
  rw [List.zip_map',List.map_map];rfl
 have hpl:=Runs.len hr.toRuns0
 have hc:yk (zL 0) wo (zJ jf (zC (zA 0) zI)) (ps.map (xi d)) [none]=some (ps.map (zcc d)):=yu _ _ fun a _=>⟨_,rfl,rfl,by simp [xi,zcc]⟩
 unfold uH fnV zez
 rw [zH (e:=[some (.tup (F.map PV.int)),some (.lst (F.map (yr d stop))),some (.lst []),none,none,none]) (by simp)]
 rw [zH (e:=mk [] [] (fun _=>.non) none none) (by simp [mk];rfl)]
 rw [zH (e:=mk ps F G x y) (by rw [yZ,zcM];simp only [mk,zU,ug,zeL];simp [hz];exact h1)]
 simp [mk,show ps.length≤100000 by omega,cE,hc]
noncomputable abbrev flV(w h:Int)(F:List Int):PV:=.tup [.int w,.int h,.tup (F.map PV.int)]
noncomputable def xb(w:Int)(f:Int):Bool:=decide (f % w=0)
noncomputable def xq(_:Int):Bool:=false
theorem yx{w h:Int}{F:List Int}(fl:IsFloor w h F):F.length≤36:=by
 have h1:=fl.h1
 have wh:w * h≤6 * 6:=Int.mul_le_mul fl.w6 fl.h6 (by omega) (by omega)
 have:=zX F (zi w h) (xH fl.rise) fun p hp=>mem_places.mpr (fl.inn p hp)
 simp [zi] at this
 omega
theorem zcW{w h:Int}{F:List Int}(fl:IsFloor w h F):∃ ps,wg [flV w h F]=some (.lst (ps.map (zcc 1)))/\Runs F 1 (xb w) F ps:=by
 have hl:=yx fl
 obtain ⟨ps,h1,h2⟩:=zeY (d:=1) (stop:=xb w) (by decide) fl.rise (by omega)
 refine ⟨ps,?_,h2⟩
 have hw:0<w:=by have:=fl.w1;omega
 have hc:yk (zL 0) wo (zJ xE (zC (zA 1) (zC (zA 0) zI))) (F.map PV.int) [none,some (flV w h F)]=some (F.map (yr 1 (xb w))):=yu _ _ fun a _=>⟨_,rfl,rfl,by
  by_cases hz:a % w=0
  ·simp [xE,fnV,ww,yQ hw,hz,yr,xb]
  ·simp [xE,fnV,ww,yQ hw,hz,yr,xb]⟩
 simp [wg,fnV,jq,show F.length≤100000 by omega,cE,hc,h1]
theorem zaT{w h:Int}{F:List Int}(fl:IsFloor w h F):∃ ps,xP [flV w h F]=some (.lst (ps.map (zcc w)))/\Runs F w xq F ps:=by
 have hl:=yx fl
 have hw:0<w:=by have:=fl.w1;omega
 obtain ⟨ps,h1,h2⟩:=zeY (d:=w) (stop:=xq) hw fl.rise (by omega)
 refine ⟨ps,?_,h2⟩
 have hc:yk (zL 0) wo (zJ xO (zC (zA 1) (zC (zA 0) zI))) (F.map PV.int) [none,some (flV w h F)]=some (F.map (yr w xq)):=yu _ _ fun a _=>⟨_,rfl,rfl,by
  simp [xO,fnV,vk,yr,xq]⟩
 simp [xP,fnV,vo,show F.length≤100000 by omega,cE,hc,h1]
theorem zaL(d:Int)(x:Int × Nat):zw (zcc d x)=true:=by simp [zcc]
noncomputable def zm(w:Int)(rs cs:List (Int × Nat)):List (List Int):=rs.map (fun x=>zt 1 x.1 x.2)++cs.map (fun x=>zt w x.1 x.2)
noncomputable def yT(z:Str × List Int):PV:=.tup [.str z.1,.tup (z.2.map PV.int)]
noncomputable def zbY(w:Int)(rs cs:List (Int × Nat)):List (Str × List Int):=rs.map (fun x=>(Str.ofString "row",zt 1 x.1 x.2))++cs.map (fun x=>(Str.ofString "column",zt w x.1 x.2))
theorem zgZ(w:Int)(rs cs:List (Int × Nat)):(zbY w rs cs).map (·.2)=zm w rs cs:=by simp [zbY,zm,List.map_map,Function.comp_def]
structure Strips (w h:Int) (F:List Int) (rs cs:List (Int × Nat)):Prop where
 fl:IsFloor w h F
 rows:Runs F 1 (xb w) F rs
 cols:Runs F w xq F cs
theorem zfQ{w h:Int}{F:List Int}(fl:IsFloor w h F):∃ rs cs,xZ [flV w h F]=some (.lst ((zbY w rs cs).map yT))/\Strips w h F rs cs:=by
 obtain ⟨rs,h1,r1⟩:=zcW fl
 obtain ⟨cs,h2,r2⟩:=zaT fl
 refine ⟨rs,cs,?_,fl,r1,r2⟩
 have hl:=yx fl
 have l1:=Runs.len r1.toRuns0
 have l2:=Runs.len r2.toRuns0
 have c1:yk (zL 0) wo (yp (zC (fC (.str "row")) (zC (zx (zA 0)) zI))) (rs.map (zcc 1)) [none]=some (rs.map fun x=>yT ("row",zt 1 x.1 x.2)):=yu _ _ fun a _=>⟨_,rfl,rfl,by simp [zaL,yT];rfl⟩
 have c2:yk (zL 0) wo (yp (zC (fC (.str "column")) (zC (zx (zA 0)) zI))) (cs.map (zcc w)) [none]=some (cs.map fun x=>yT ("column",zt w x.1 x.2)):=yu _ _ fun a _=>⟨_,rfl,rfl,by simp [zaL,yT];rfl⟩
 unfold xZ fnV zaB
 rw [zH (e:=[some (flV w h F),some (.lst (rs.map fun x=>yT ("row",zt 1 x.1 x.2))),none]) (by simp [h1,show rs.length≤100000 by omega,cE,c1])]
 rw [zH (e:=[some (flV w h F),some (.lst (rs.map fun x=>yT ("row",zt 1 x.1 x.2))),some (.lst (cs.map fun x=>yT ("column",zt w x.1 x.2)))]) (by simp [h2,show cs.length≤100000 by omega,cE,c2])]
 have e:(zbY w rs cs).map yT=(rs.map fun x=>yT ("row",zt 1 x.1 x.2))++(cs.map fun x=>yT ("column",zt w x.1 x.2)):=by simp [zbY,List.map_map,Function.comp_def]
 rw [e]
 have d1:isDatas (rs.map fun x=>yT (Str.ofString "row",zt 1 x.1 x.2))=true:=wC _ (fun x=>by simp [yT]) rs
 have d2:isDatas (cs.map fun x=>yT (Str.ofString "column",zt w x.1 x.2))=true:=wC _ (fun x=>by simp [yT]) cs
 simp [yX,d1,d2,show rs.length+cs.length≤100000 by omega]
noncomputable def idx(ls:List (List Int))(f:Int):List Nat:=(List.range ls.length).filter fun k=>decide (f ∈ (ls[k]?).getD [])
theorem zil(ls:List (List Int))(z:List Int)(f:Int):idx (ls++[z]) f=idx ls f++(if f ∈ z then [ls.length] else []):=by
 unfold idx
 rw [List.length_append,List.length_singleton,List.range_succ,List.filter_append]
 congr 1
 ·refine List.filter_congr fun k hk=>?_
  have:=List.mem_range.mp hk
  rw [List.getElem?_append_left this]
 ·by_cases h:f ∈ z<;>simp [h]
theorem zaG{n k:Nat}{p:Nat->Bool}(hk:k<n)(h:∀ j,j<n->(p j=true ↔ j=k)):(List.range n).filter p=[k]:=by
 have e:(List.range n).filter p=(List.range n).filter (· == k):=List.filter_congr fun j hj=>by
  rw [Bool.eq_iff_iff,h j (List.mem_range.mp hj)];simp
 rw [e,List.filter_beq,List.nodup_range.count,if_pos (List.mem_range.mpr hk)];rfl
theorem zfm{A B:List (List Int)}{f:Int}{r c:Nat}(hr:r<A.length)(hc:c<B.length)(h1:∀ j,j<A.length->(f ∈ (A[j]?).getD [] ↔ j=r))(h2:∀ j,j<B.length->(f ∈ (B[j]?).getD [] ↔ j=c)):idx (A++B) f=[r,A.length+c]:=by
 unfold idx
 rw [List.length_append,List.range_add,List.filter_append,List.filter_map]
 have e1:(List.range A.length).filter (fun k=>decide (f ∈ ((A++B)[k]?).getD []))=[r]:=zaG hr fun j hj=>by
  rw [List.getElem?_append_left hj,decide_eq_true_eq];exact h1 j hj
 have e2:(List.range B.length).filter ((fun k=>decide (f ∈ ((A++B)[k]?).getD [])) ∘ fun x=>A.length+x)=[c]:=zaG hc fun j hj=>by
  simp only [Function.comp_apply,decide_eq_true_eq]
  rw [List.getElem?_append_right (Nat.le_add_right _ _),Nat.add_sub_cancel_left]
  exact h2 j hj
 rw [e1,e2];rfl
theorem Strips.pair{w h:Int}{F:List Int}{rs cs:List (Int × Nat)}(S:Strips w h F rs cs){f:Int}(hf:f ∈ F):∃ r c:Nat,idx (zm w rs cs) f=[r,c]/\r<rs.length/\rs.length≤c/\c<rs.length+cs.length:=by
 have nd:=xH S.fl.rise
 obtain ⟨r,hr,h1⟩:=Runs.one S.rows (fun _ h=>h) nd hf
 obtain ⟨c,hc,h2⟩:=Runs.one S.cols (fun _ h=>h) nd hf
 refine ⟨r,rs.length+c,?_,hr,by omega,by omega⟩
 have:=zfm (A:=rs.map fun x=>zt 1 x.1 x.2) (B:=cs.map fun x=>zt w x.1 x.2) (f:=f) (r:=r) (c:=c) (by simpa using hr) (by simpa using hc)
  (fun j hj=>by
   have hj':j<rs.length:=by simpa using hj
   rw [List.getElem?_eq_getElem hj,List.getElem_map]
   exact h1 j _ (List.getElem?_eq_getElem hj'))
  (fun j hj=>by
   have hj':j<cs.length:=by simpa using hj
   rw [List.getElem?_eq_getElem hj,List.getElem_map]
   exact h2 j _ (List.getElem?_eq_getElem hj'))
 rw [List.length_map] at this
 exact this
theorem Strips.sub{w h:Int}{F:List Int}{rs cs:List (Int × Nat)}(S:Strips w h F rs cs){z:List Int}(hz:z ∈ zm w rs cs):z.Nodup/\∀ f ∈ z,f ∈ F:=by
 unfold zm at hz
 rcases List.mem_append.mp hz with hz | hz
 ·obtain ⟨x,hx,rfl⟩:=List.mem_map.mp hz
  exact ⟨wl (by decide) _ _,fun f hf=>by obtain ⟨i,hi,rfl⟩:=mem_chain.mp hf;exact (S.rows.inn x hx i hi).1⟩
 ·obtain ⟨x,hx,rfl⟩:=List.mem_map.mp hz
  exact ⟨wl (by have:=S.fl.w1;omega) _ _,fun f hf=>by obtain ⟨i,hi,rfl⟩:=mem_chain.mp hf;exact (S.cols.inn x hx i hi).1⟩
noncomputable def j3(ls:List (List Int))(f:Int):PV:=.tup ((idx ls f).map fun (k:Nat)=>PV.int k)
theorem k5(l:List Nat):isDatas (l.map fun (k:Nat)=>PV.int k)=true:=wC _ (fun _=>rfl) l
theorem zcF{src:PV}{zs:List (Str × List Int)}{F:List Int}(hs:xZ [src]=some (.lst (zs.map yT)))(hz:∀ z ∈ zs,z.2.Nodup/\∀ f ∈ z.2,f ∈ F)(hF:F.Nodup)(hl:F.length≤1000)(hzl:zs.length≤1000):
  ∃ L G,yH [src]=some (dF L G)/\(∀ f,f ∈ L ↔ ∃ z ∈ zs,f ∈ z.2)/\∀ f ∈ L,G f=j3 (zs.map (·.2)) f:=by
 let mk:List Int->(Int->PV)->Option PV->Option PV->Option PV->En:=fun L G x y z=>[some src,some (dF L G),x,y,z]
 obtain ⟨e,h1,L,G,x,y,z,rfl,nd,mm,hG⟩:=yj (b:=xM 2 (zZ (zL 2) (zZ (zL 3) xN))) (g:=vz) (xs:=zs.zipIdx) (hh:=fun z=>PV.tup [.int (z.2:Int),yT z.1]) (env:=mk [] (fun _=>.non) none none none)
  (fun pre e=>∃ L G x y z,e=mk L G x y z/\L.Nodup/\(∀ f,f ∈ L ↔ ∃ z ∈ pre.map (·.1),f ∈ z.2)/\∀ f ∈ L,G f=j3 ((pre.map (·.1)).map (·.2)) f)
  ⟨[],_,none,none,none,rfl,.nil,by simp,by simp⟩ (by
   rintro pre ⟨a,n⟩ post e hpre ⟨L,G,x,y,z,rfl,nd,mm,hG⟩
   have hn:n=pre.length:=by
    have:=List.getElem?_zipIdx (l:=zs) (i:=0) (j:=pre.length)
    rw [hpre,List.getElem?_append_right (Nat.le_refl _),Nat.sub_self,List.getElem?_cons_zero] at this
    cases hq:zs[pre.length]? with
    | none=>rw [hq] at this;cases this
    | some q=>rw [hq] at this;simp at this;exact this.2
   have ha:a ∈ zs:=by
    have h:(a,n) ∈ zs.zipIdx:=by rw [hpre];simp
    have:=List.mem_map_of_mem (f:=Prod.fst) h
    rwa [List.zipIdx_map_fst] at this
   have hpz:∀ z ∈ pre.map (·.1),z ∈ zs:=fun z hzz=>by
    obtain ⟨q,hq,rfl⟩:=List.mem_map.mp hzz
    have h:q ∈ zs.zipIdx:=by rw [hpre];exact List.mem_append_left _ hq
    have:=List.mem_map_of_mem (f:=Prod.fst) h
    rwa [List.zipIdx_map_fst] at this
   obtain ⟨and,asub⟩:=hz a ha
   generalize hls:(pre.map (·.1)).map (·.2)=ls at hG
   have hln:ls.length=n:=by rw [← hls,hn];simp
   have mm0:∀ f,f ∈ L ↔ ∃ z ∈ ls,f ∈ z:=fun f=>by
    rw [mm f,← hls]
    exact ⟨fun ⟨z,h1,h2⟩=>⟨z.2,List.mem_map.mpr ⟨z,h1,rfl⟩,h2⟩,fun ⟨z,h1,h2⟩=>by obtain ⟨q,hq,rfl⟩:=List.mem_map.mp h1;exact ⟨q,hq,h2⟩⟩
   have lsub:∀ z ∈ ls,∀ f ∈ z,f ∈ F:=fun z hzz f hf=>by
    rw [← hls] at hzz
    obtain ⟨q,hq,rfl⟩:=List.mem_map.mp hzz
    exact (hz q (hpz q hq)).2 f hf
   obtain ⟨e',g1,L',G',z',rfl,nd',mm',hG'⟩:=yj (b:=zL 4) (g:=v3) (xs:=a.2) (hh:=PV.int) (env:=mk L G (some (.int n)) (some (yT a)) z)
    (fun q e=>∃ L G z,e=mk L G (some (.int n)) (some (yT a)) z/\L.Nodup/\(∀ f,f ∈ L ↔ (∃ z ∈ ls,f ∈ z)∨f ∈ q)/\∀ f ∈ L,G f=.tup ((idx ls f++if f ∈ q then [n] else []).map fun (k:Nat)=>PV.int k))
    ⟨L,G,z,rfl,nd,by simpa using mm0,fun f hf=>by rw [hG f hf];simp [j3]⟩ (by
     rintro q f post e hq ⟨L,G,z,rfl,nd,mm,hG⟩
     have hfa:f ∈ a.2:=by rw [hq];simp
     have nfq:f ∉ q:=by
      rw [hq,List.nodup_append] at and
      exact fun h=>and.2.2 f h f List.mem_cons_self rfl
     have Lsub:∀ f ∈ L,f ∈ F:=fun g hg=>by
      rcases (mm g).mp hg with ⟨z,h1,h2⟩ | h
      ·exact lsub z h1 g h2
      ·exact asub g (by rw [hq];exact List.mem_append_left _ h)
     have Ll:L.length≤1000:=Nat.le_trans (zX L F nd Lsub) hl
     have hD:k8 L G:=fun p hp=>by rw [hG p hp];simp only [zdF,k5]
     have hget:=zlE (p:=f) (x:=.tup []) hD rfl
     have hval:(if f ∈ L then G f else PV.tup [])=.tup ((idx ls f).map fun (k:Nat)=>PV.int k):=by
      by_cases h:f ∈ L
      ·rw [if_pos h,hG f h,if_neg nfq,List.append_nil]
      ·rw [if_neg h]
       have:idx ls f=[]:=by
        unfold idx
        rw [List.filter_eq_nil_iff]
        intro k hk hc
        have hk':=List.mem_range.mp hk
        rw [decide_eq_true_eq,List.getElem?_eq_getElem hk'] at hc
        exact h ((mm f).mpr (.inl ⟨_,List.getElem_mem hk',hc⟩))
       rw [this];rfl
     rw [hval] at hget
     have hput:=zcf (p:=f) (q:=.tup ((idx ls f++[n]).map fun (k:Nat)=>PV.int k)) hD (by simp only [zdF,k5]) (show L.length<100000 by omega)
     refine ⟨mk L G (some (.int n)) (some (yT a)) (some (.int f)),mk (if f ∈ L then L else L++[f]) (upF G f (.tup ((idx ls f++[n]).map fun (k:Nat)=>PV.int k))) (some (.int n)) (some (yT a)) (some (.int f)),rfl,.inl ?_,_,_,_,rfl,?_,?_,?_⟩
     ·have hil:(idx ls f).length≤ls.length:=by unfold idx;exact Nat.le_trans (List.length_filter_le _ _) (by simp)
      have hadd:yX (.tup ((idx ls f).map fun (k:Nat)=>PV.int k)) (.tup [.int n])=some (.tup ((idx ls f++[n]).map fun (k:Nat)=>PV.int k)):=by
       have nl:n≤1000:=by
        have:=congrArg List.length hpre
        rw [List.length_zipIdx,List.length_append,List.length_cons] at this
        omega
       simp [yX,k5,show (idx ls f).length+1≤100000 by omega]
      unfold v3 ui
      simp only [yK,zkf,mk,ug,jH,zU,zeL,List.getElem?_cons_succ,List.getElem?_cons_zero,Option.join_some,Option.bind_some,Option.map_some,hget,hadd,hput]
      rfl
     ·split
      ·exact nd
      ·rename_i h
       exact List.nodup_append.mpr ⟨nd,by simp,fun a ha b hb=>by rw [List.mem_singleton.mp hb];exact fun e=>h (e ▸ ha)⟩
     ·intro g
      rw [List.mem_append,List.mem_singleton,← or_assoc,← mm g]
      split
      ·rename_i h
       exact ⟨.inl,fun z=>z.elim id fun e=>e ▸ h⟩
      ·rw [List.mem_append,List.mem_singleton]
     ·intro g hg
      by_cases e:g=f
      ·subst e
       rw [wz,if_pos (by simp)]
      ·rw [uk e,hG g (by
        split at hg
        ·exact hg
        ·exact (List.mem_append.mp hg).resolve_right fun z=>e (List.mem_singleton.mp z))]
       have:(g ∈ q++[f]) ↔ g ∈ q:=by simp [e]
       simp only [this])
   refine ⟨mk L G (some (.int n)) (some (yT a)) z,mk L' G' (some (.int n)) (some (yT a)) z',by simp [xM,zZ,xN,mk],.inl ?_,_,_,_,_,_,rfl,nd',?_,?_⟩
   ·unfold vz
    rw [yZ]
    have:zc (fOp vIx (zA 3) (fC (.int 1))) (mk L G (some (.int n)) (some (yT a)) z)=some (a.2.map PV.int):=by simp [mk,yT]
    rw [this,Option.bind_some]
    exact g1
   ·intro f
    rw [mm' f,← hls]
    simp only [List.map_append,List.map_cons,List.map_nil,List.mem_append,List.mem_singleton,List.mem_map]
    constructor
    ·rintro (⟨z,⟨q,hq,rfl⟩,hf⟩ | hf)
     ·exact ⟨q,.inl hq,hf⟩
     ·exact ⟨a,.inr rfl,hf⟩
    ·rintro ⟨z,hz | rfl,hf⟩
     ·exact .inl ⟨z.2,⟨z,hz,rfl⟩,hf⟩
     ·exact .inr hf
   ·intro f hf
    rw [hG' f hf]
    simp only [List.map_append,List.map_cons,List.map_nil,j3]
    rw [hls,zil,hln,List.map_append])
 refine ⟨L,G,?_,fun f=>?_,fun f hf=>?_⟩
 ·unfold yH fnV u6
  rw [zH (e:=mk [] (fun _=>.non) none none none) (by simp [mk];rfl)]
  rw [zH (e:=mk L G x y z) (by
   rw [yZ]
   have:jD (zC (zJ xZ (zC (zA 0) zI)) zI) (mk [] (fun _=>.non) none none none)=some (zs.zipIdx.map fun z=>PV.tup [.int (z.2:Int),yT z.1]):=by
    simp [jD,mk,hs,jc,List.zipIdx_map,List.map_map,Function.comp_def]
   rw [this,Option.bind_some]
   exact h1)]
  simp [mk]
 ·rw [mm f,List.zipIdx_map_fst]
 ·rw [hG f hf,List.zipIdx_map_fst]
theorem Strips.lens{w h:Int}{F:List Int}{rs cs:List (Int × Nat)}(S:Strips w h F rs cs):rs.length≤36/\cs.length≤36:=by
 have:=yx S.fl
 have l1:=Runs.len S.rows.toRuns0
 have l2:=Runs.len S.cols.toRuns0
 omega
theorem ql(w:Int)(rs cs:List (Int × Nat)):(zm w rs cs).length=rs.length+cs.length:=by simp [zm]
theorem ziK{w h:Int}{F:List Int}(fl:IsFloor w h F):∃ rs cs,Strips w h F rs cs/\xZ [flV w h F]=some (.lst ((zbY w rs cs).map yT))/\
  ∃ L G,yH [flV w h F]=some (dF L G)/\(∀ f,f ∈ L ↔ f ∈ F)/\∀ f ∈ F,G f=j3 (zm w rs cs) f:=by
 obtain ⟨rs,cs,h1,S⟩:=zfQ fl
 refine ⟨rs,cs,S,h1,?_⟩
 have hz:∀ z ∈ zbY w rs cs,z.2.Nodup/\∀ f ∈ z.2,f ∈ F:=fun z hz=>S.sub (by rw [← zgZ];exact List.mem_map.mpr ⟨z,hz,rfl⟩)
 obtain ⟨L,G,e,m,g⟩:=zcF h1 hz (xH fl.rise) (by have:=yx fl;omega) (by have:=S.lens;simp [zbY];omega)
 have mm:∀ f,f ∈ L ↔ f ∈ F:=fun f=>by
  rw [m f]
  refine ⟨fun ⟨z,h1,h2⟩=>(hz z h1).2 f h2,fun hf=>?_⟩
  obtain ⟨x,hx,i,hi,e⟩:=S.rows.cov f hf
  exact ⟨(Str.ofString "row",zt 1 x.1 x.2),List.mem_append_left _ (List.mem_map.mpr ⟨x,hx,rfl⟩),mem_chain.mpr ⟨i,hi,e⟩⟩
 refine ⟨L,G,e,mm,fun f hf=>?_⟩
 rw [g f ((mm f).mpr hf),zgZ]
structure Cross (w h:Int) (F:List Int) (ls:List (List Int)) (L:List Int) (G:Int->PV):Prop where
 val:yH [flV w h F]=some (dF L G)
 mem:∀ f,f ∈ L ↔ f ∈ F
 at':∀ f ∈ F,G f=j3 ls f
theorem Cross.ix{w h:Int}{F:List Int}{ls:List (List Int)}{L:List Int}{G:Int->PV}(C:Cross w h F ls L G){f:Int}(hf:f ∈ F){r c:Nat}(hi:idx ls f=[r,c]):vIx (dF L G) (.int f)=some (.tup [.int r,.int c]):=by
 rw [zaw ((C.mem f).mpr hf),C.at' f hf]
 simp [j3,hi]
noncomputable def rc(ls:List (List Int))(f:Int):Nat × Nat:=match idx ls f with | [r,c]=>(r,c) | _=>(0,0)
theorem zgw{w h:Int}{F:List Int}(fl:IsFloor w h F):∃ rs cs L G,Strips w h F rs cs/\xZ [flV w h F]=some (.lst ((zbY w rs cs).map yT))/\Cross w h F (zm w rs cs) L G:=by
 obtain ⟨rs,cs,S,h1,L,G,h2,h3,h4⟩:=ziK fl
 exact ⟨rs,cs,L,G,S,h1,h2,h3,h4⟩
theorem Strips.pairX{w h:Int}{F:List Int}{rs cs:List (Int × Nat)}(S:Strips w h F rs cs){f:Int}(hf:f ∈ F):∃ r c:Nat,idx (zm w rs cs) f=[r,rs.length+c]/\r<rs.length/\c<cs.length/\(∀ j x,rs[j]?=some x->(f ∈ zt 1 x.1 x.2 ↔ j=r))/\∀ j x,cs[j]?=some x->(f ∈ zt w x.1 x.2 ↔ j=c):=by
 have nd:=xH S.fl.rise
 obtain ⟨r,hr,h1⟩:=Runs.one S.rows (fun _ h=>h) nd hf
 obtain ⟨c,hc,h2⟩:=Runs.one S.cols (fun _ h=>h) nd hf
 refine ⟨r,c,?_,hr,hc,h1,h2⟩
 have:=zfm (A:=rs.map fun x=>zt 1 x.1 x.2) (B:=cs.map fun x=>zt w x.1 x.2) (f:=f) (r:=r) (c:=c) (by simpa using hr) (by simpa using hc)
  (fun j hj=>by
   have hj':j<rs.length:=by simpa using hj
   rw [List.getElem?_eq_getElem hj,List.getElem_map]
   exact h1 j _ (List.getElem?_eq_getElem hj'))
  (fun j hj=>by
   have hj':j<cs.length:=by simpa using hj
   rw [List.getElem?_eq_getElem hj,List.getElem_map]
   exact h2 j _ (List.getElem?_eq_getElem hj'))
 rw [List.length_map] at this
 exact this
theorem Strips.rc_of{w h:Int}{F:List Int}{rs cs:List (Int × Nat)}(S:Strips w h F rs cs){f:Int}(hf:f ∈ F):idx (zm w rs cs) f=[(rc (zm w rs cs) f).1,(rc (zm w rs cs) f).2]/\(rc (zm w rs cs) f).1<rs.length/\rs.length≤(rc (zm w rs cs) f).2/\(rc (zm w rs cs) f).2<rs.length+cs.length:=by
 obtain ⟨r,c,h1,h2,h3,h4⟩:=S.pair hf
 simp only [rc,h1]
 exact ⟨trivial,h2,h3,h4⟩
theorem zhg{T:List Int}{k:Nat}{v:Int}(h:k<T.length):qh (.lst (T.map PV.int)) (.int k) (.int v)=some (.lst ((T.set k v).map PV.int)):=by
 simp only [qh,j2,zaM,Bool.and_self,if_true,List.length_map,zfj h,Option.map_some]
 rw [List.map_set]
theorem kY{T:List Int}{k:Nat}(h:k<T.length):atI (T.map PV.int) (k:Int)=some (.int (T.getD k 0)):=by
 rw [_root_.F.atI_nat (by simpa using h)]
 simp [List.getD,h]
theorem Runs.next_in{F:List Int}{d:Int}{stop:Int->Bool}{ps:List (Int × Nat)}(r:Runs0 F d stop F ps){x:Int × Nat}(hx:x ∈ ps){p:Int}(hp:p ∈ zt d x.1 x.2)(hq:p+d ∈ F)(hs:stop (p+d)=false):p+d ∈ zt d x.1 x.2:=by
 obtain ⟨i,hi,rfl⟩:=mem_chain.mp hp
 have e:x.1+i * d+d=x.1+((i+1:Nat):Int) * d:=by rw [qq];omega
 rw [e] at hq hs ⊢
 by_cases h:i+1<x.2
 ·exact mem_chain.mpr ⟨i+1,h,rfl⟩
 ·have hx2:x.2=i+1:=by omega
  have:=r.mx x hx
  rw [hx2] at this
  rw [this hq] at hs
  cases hs
theorem Strips.row_next{w h:Int}{F:List Int}{rs cs:List (Int × Nat)}(S:Strips w h F rs cs){p:Int}(hp:p ∈ F)(hq:p+1 ∈ F)(hd:p / w=(p+1) / w):(rc (zm w rs cs) p).1=(rc (zm w rs cs) (p+1)).1:=by
 obtain ⟨r,c,h1,h2,h3,h4,h5⟩:=S.pairX hp
 obtain ⟨r',c',g1,g2,g3,g4,g5⟩:=S.pairX hq
 simp only [rc,h1,g1]
 have hx:rs[r]?=some rs[r]:=List.getElem?_eq_getElem h2
 have:=Runs.next_in S.rows.toRuns0 (List.getElem_mem h2) ((h4 r _ hx).mpr rfl) hq (by
  unfold xb
  refine decide_eq_false fun hz=>?_
  have hm:=(qo S.fl.w1 (zcV S.fl.w1 hd)).2
  have:=S.fl.w1
  have:=Int.emod_nonneg p (show w≠0 by omega)
  omega)
 exact (g4 r _ hx).mp this
theorem Strips.col_next{w h:Int}{F:List Int}{rs cs:List (Int × Nat)}(S:Strips w h F rs cs){p:Int}(hp:p ∈ F)(hq:p+w ∈ F):(rc (zm w rs cs) p).2=(rc (zm w rs cs) (p+w)).2:=by
 obtain ⟨r,c,h1,h2,h3,h4,h5⟩:=S.pairX hp
 obtain ⟨r',c',g1,g2,g3,g4,g5⟩:=S.pairX hq
 simp only [rc,h1,g1]
 have hx:cs[c]?=some cs[c]:=List.getElem?_eq_getElem h3
 have:=Runs.next_in S.cols.toRuns0 (List.getElem_mem h3) ((h5 c _ hx).mpr rfl) hq rfl
 rw [(g5 c _ hx).mp this]
noncomputable def xB:FS:=(wG (zbi (fT (fOp vGt (fOp yg (zA 5) (zA 1)) (fC (.int 0)))) (fT (fOp vV (fOp wT (zA 5) (fC (.int 1))) (zA 3)))) (zeB 4 (fUn kC (fC (.int 1))) (jN (zx (zA 5)))) (zf 4 (wF (zC (zx (zA 5)) zI))))
noncomputable def y4:FT:=(fT (fOp vV (fOp yX (fOp vIx (zA 6) (fUn kC (fC (.int 1)))) (zA 1)) (zA 3)))
noncomputable def wq:FS:=(zf 6 (fOp yX (fOp vIx (zA 6) (fUn kC (fC (.int 1)))) (zA 1)))
noncomputable def xA:FS:=(wG (fT (fOp xv (fOp wT (zA 5) (zA 1)) (zA 3))) (zW (zp 6 (wF (zC (zx (zA 5)) zI)))
 (zW (fWh y4 wq 1000000)
 (jO 4 6))) fNx)
noncomputable def vq:FS:=(zW (zgo (xM 3 (zZ (zL 1) (zZ (zL 2) (zZ (zL 3) xN)))) (zA 0))
 (zW (zp 4 (wF zI))
 (zW (yt (zc (zA 3)) (zL 5) xB)
 (zW (yt (zc (zA 3)) (zL 5) xA)
 (yq (zA 4))))))
noncomputable def xQ:List PV->Option PV:=fnV 7 vq
noncomputable def u8:FS:=(yq (fLC (vT (zC (zJ wM (zC (zA 0) zI)) zI)) 1 [1,0] (zL 0) (fT (fOp vV (zA 1) (fOp vIx (zA 2) (zA 0)))) (zx (zA 0))))
noncomputable def yy:List PV->Option PV:=fnV 2 u8
noncomputable def yw(ls:List (List Int)):PV:=.lst (ls.map fun l=>.lst (l.map PV.int))
theorem zjM(ls:List (List Int))(f:Int)(hl:ls.length≤1000):yy [yw ls,.int f]=some (.lst ((idx ls f).map fun (k:Nat)=>PV.int k)):=by
 have hc:yk (zL 0) (fT (fOp vV (zA 1) (fOp vIx (zA 2) (zA 0)))) (zx (zA 0)) (uA 0 ls.length) [none,some (.int f),some (yw ls)]=some ((idx ls f).map fun (k:Nat)=>PV.int k):=by
  unfold uA idx
  refine k6 (hh:=fun (i:Nat)=>PV.int (0+(i:Int))) (fun k=>decide (f ∈ (ls[k]?).getD [])) (fun (k:Nat)=>PV.int k) (List.range ls.length) fun k hk=>⟨_,rfl,?_,fun _=>by simp⟩
  have hk':=List.mem_range.mp hk
  have:atI (ls.map fun l=>PV.lst (l.map PV.int)) (k:Int)=some (.lst (ls[k].map PV.int)):=by
   rw [atI_nat (by simpa using hk')];simp
  simp [yw,this,hk']
 unfold yy fnV u8
 simp only [vL,zdN,List.length_cons,List.length_nil]
 have hs:vT (zC (zJ wM (zC (zA 0) zI)) zI) [some (yw ls),some (.int f)]=some (uA 0 ls.length):=by
  refine zcd (j:=(ls.length:Int)) (by simp [yw]) (by omega) (by omega)
 have hce:cE 1 [1,0] [some (yw ls),some (.int f)]=[none,some (.int f),some (yw ls)]:=rfl
 simp [hs,hce,ux,hc,show ls.length≤100000 by omega]
theorem zic{w:Int}{F:List Int}{h:Int}(fl:IsFloor w h F):∃ rs x y,Runs F 1 (xb w) F rs/\
  xw (zL 5) xB (F.map PV.int) [some (flV w h F),some (.int w),some (.int h),some (.tup (F.map PV.int)),some (.lst []),none,none]=some (.nx [some (flV w h F),some (.int w),some (.int h),some (.tup (F.map PV.int)),some (.lst (rs.map (xi 1))),x,y]):=by
 have hw:0<w:=by have:=fl.w1;omega
 let mk:List (Int × Nat)->Option PV->Option PV->En:=fun ps x y=>[some (flV w h F),some (.int w),some (.int h),some (.tup (F.map PV.int)),some (.lst (ps.map (xi 1))),x,y]
 obtain ⟨e,h1,ps,x,y,rfl,hr,_⟩:=yj (b:=zL 5) (g:=xB) (xs:=F) (hh:=PV.int) (env:=mk [] none none)
  (fun pre e=>∃ ps x y,e=mk ps x y/\Runs F 1 (xb w) pre ps/\∀ l,pre.getLast?=some l->∃ z,ps.getLast?=some z/\l+1=z.1+z.2)
  ⟨[],none,none,rfl,.nil,by simp⟩ (by
   rintro pre f post e hF ⟨ps,x,y,rfl,r,hlast⟩
   have rise:=fl.rise
   have sub:∀ p ∈ pre,p ∈ F:=fun p hp=>by rw [hF];exact List.mem_append_left _ hp
   have lt:∀ p ∈ pre,p<f:=fun p hp=>by
    rw [hF,List.pairwise_append] at rise
    exact rise.2.2 p hp f List.mem_cons_self
   have gt:∀ p ∈ F,p<f->p ∈ pre:=fun p hp h=>by
    rw [hF,List.pairwise_append] at rise
    rw [hF] at hp
    rcases List.mem_append.mp hp with hp | hp
    ·exact hp
    ·rcases List.mem_cons.mp hp with rfl | hp
     ·omega
     ·have:=(List.pairwise_cons.mp rise.2.1).1 p hp;omega
   have nd:pre.Nodup:=by
    rw [hF,List.pairwise_append] at rise
    exact xH rise.1
   have prise:pre.Pairwise (·<·):=by
    rw [hF,List.pairwise_append] at rise;exact rise.1
   have hfl:=yx fl
   have hpl:pre.length<36:=by
    have:=congrArg List.length hF
    rw [List.length_append,List.length_cons] at this;omega
   have hpsl:=Runs.len r.toRuns0
   have hf0:0≤f:=(fl.inn f (by rw [hF];simp)).1
   refine ⟨mk ps (some (.int f)) y,?_⟩
   by_cases hin:0<f % w/\f - 1 ∈ F
   ·obtain ⟨hs,hp⟩:=hin
    have hp':=gt _ hp (by omega)
    have hst:yL F 1 (xb w) f=false:=by
     have:¬ f % w=0:=by omega
     simp [yL,xb,this,hp]
    -- the last one is f - 1
    have hne:pre≠[]:=fun z=>by rw [z] at hp';cases hp'
    have hl1:pre.getLast?=some (f - 1):=by
     rw [List.getLast?_eq_some_getLast hne]
     congr 1
     have h1:=lt _ (List.getLast_mem hne)
     have h2:f - 1≤pre.getLast hne:=by
      obtain ⟨i,hi,e⟩:=List.getElem_of_mem hp'
      rw [List.getLast_eq_getElem]
      by_cases hi':i=pre.length - 1
      ·subst hi';exact Int.le_of_eq e.symm
      ·have:=List.pairwise_iff_getElem.mp prise i (pre.length - 1) hi (Nat.sub_lt (List.length_pos_iff.mpr hne) (by decide)) (Nat.lt_of_le_of_ne (Nat.le_sub_one_of_lt hi) hi')
       rw [← e];exact Int.le_of_lt this
     exact Int.le_antisymm (Int.le_sub_one_of_lt h1) h2
    obtain ⟨z,hz,he⟩:=hlast _ hl1
    have pne:ps≠[]:=fun q=>by rw [q] at hz;cases hz
    have pl:0<ps.length:=List.length_pos_iff.mpr pne
    have hza:ps[ps.length - 1]?=some z:=by rw [← List.getLast?_eq_getElem?];exact hz
    have hzf:f=z.1+(z.2:Nat) * 1:=by omega
    have hzl:=Runs.len0 r.toRuns0 (by decide) hza
    refine ⟨mk (ps.set (ps.length - 1) (z.1,z.2+1)) (some (.int f)) y,rfl,.inl ?_,_,_,_,rfl,r.ext (by decide) sub nd lt hst hza hzf,fun l hl=>?_⟩
    ·have ht:zbi (fT (fOp vGt (fOp yg (zA 5) (zA 1)) (fC (.int 0)))) (fT (fOp vV (fOp wT (zA 5) (fC (.int 1))) (zA 3))) (mk ps (some (.int f)) y)=some true:=by
      simp [mk,yQ hw,hs,hp]
     unfold xB
     rw [yc,ht,Option.bind_some,if_pos rfl]
     have hk:ixN (ps.map (xi 1)).length (-1)=some (ps.length - 1):=by
      unfold ixN
      rw [List.length_map,if_neg (by omega),if_pos (by omega)]
      congr 1;omega
     have hg:(ps.map (xi 1))[ps.length - 1]?=some (.lst ((zt 1 z.1 z.2).map PV.int)):=by rw [List.getElem?_map,hza];rfl
     have hset:(ps.set (ps.length - 1) (z.1,z.2+1)).map (xi 1)=(ps.map (xi 1)).set (ps.length - 1) (.lst ((zt 1 z.1 z.2).map PV.int++[.int f])):=by
      rw [List.map_set]
      congr 1
      simp only [xi,xz,List.map_append,List.map_cons,List.map_nil,← hzf]
     unfold zeB
     have hi:fUn kC (fC (.int 1)) (mk ps (some (.int f)) y)=some (.int (-1)):=rfl
     have hv:zA 4 (mk ps (some (.int f)) y)=some (.lst (ps.map (xi 1))):=rfl
     rw [hi,hv,Option.bind_some,Option.bind_some]
     simp only [kO,Option.bind_some,hk,hg]
     simp only [jN,mk,zcN,ug,List.getElem?_cons_succ,List.getElem?_cons_zero,Option.join_some,Option.bind_some,zaM,if_true,List.length_map,yb,show z.2<100000 by omega,Option.map_some,hset]
     rfl
    ·rw [List.getLast?_concat] at hl;cases hl
     refine ⟨(z.1,z.2+1),?_,by simp;omega⟩
     rw [List.getLast?_eq_getElem?,List.length_set,List.getElem?_set,if_pos rfl,if_pos (by omega)]
   ·have hm:0≤f % w:=Int.emod_nonneg _ (by omega)
    have hst:yL F 1 (xb w) f=true:=by
     by_cases hs:f % w=0
     ·simp [yL,xb,hs]
     ·have:f - 1 ∉ F:=fun h=>hin ⟨by omega,h⟩
      simp [yL,this]
    refine ⟨mk (ps++[(f,1)]) (some (.int f)) y,rfl,.inl ?_,_,_,_,rfl,r.new (by decide) sub lt hst,fun l hl=>?_⟩
    ·have ht:zbi (fT (fOp vGt (fOp yg (zA 5) (zA 1)) (fC (.int 0)))) (fT (fOp vV (fOp wT (zA 5) (fC (.int 1))) (zA 3))) (mk ps (some (.int f)) y)=some false:=by
      by_cases hs:0<f % w
      ·have:f - 1 ∉ F:=fun h=>hin ⟨hs,h⟩
       simp [mk,yQ hw,hs,this]
      ·simp [mk,yQ hw,hs]
     unfold xB
     rw [yc,ht,Option.bind_some,if_neg Bool.false_ne_true]
     simp [mk,zf,show ps.length<100000 by omega,xi,qW]
    ·rw [List.getLast?_concat] at hl;cases hl
     exact ⟨(f,1),by simp,by simp⟩)
 exact ⟨ps,x,y,hr,h1⟩
theorem zid{w:Int}{F:List Int}{h:Int}(fl:IsFloor w h F)(rs:List PV)(hrs:rs.length≤1000)(x0 y0:Option PV):∃ cs x y,Runs0 F w xq F cs/\
  xw (zL 5) xA (F.map PV.int) [some (flV w h F),some (.int w),some (.int h),some (.tup (F.map PV.int)),some (.lst rs),x0,y0]=some (.nx [some (flV w h F),some (.int w),some (.int h),some (.tup (F.map PV.int)),some (.lst (rs++cs.map (xi w))),x,y]):=by
 have hw:0<w:=by have:=fl.w1;omega
 have hfl:=yx fl
 let mk:List (Int × Nat)->Option PV->Option PV->En:=fun ps x y=>[some (flV w h F),some (.int w),some (.int h),some (.tup (F.map PV.int)),some (.lst (rs++ps.map (xi w))),x,y]
 obtain ⟨e,h1,ps,x,y,rfl,g1,g2,g3,g4⟩:=yj (b:=zL 5) (g:=xA) (xs:=F) (hh:=PV.int) (env:=mk [] x0 y0)
  (fun pre e=>∃ ps x y,e=mk ps x y/\ps.map (·.1)=pre.filter (yL F w xq)/\(∀ z ∈ ps,1≤z.2)/\(∀ z ∈ ps,∀ i:Nat,i<z.2->z.1+i * w ∈ F)/\∀ z ∈ ps,z.1+z.2 * w ∉ F)
  ⟨[],x0,y0,rfl,rfl,by simp,by simp,by simp⟩ (by
   rintro pre f post e hF ⟨ps,x,y,rfl,g1,g2,g3,g4⟩
   have hfF:f ∈ F:=by rw [hF];simp
   have hpsl:ps.length≤36:=by
    have:=congrArg List.length g1
    rw [List.length_map] at this
    have h2:=List.length_filter_le (yL F w xq) pre
    have h3:=congrArg List.length hF
    rw [List.length_append] at h3
    omega
   refine ⟨mk ps (some (.int f)) y,?_⟩
   by_cases hin:f - w ∈ F
   ·have hst:yL F w xq f=false:=by simp [yL,xq,hin]
    refine ⟨mk ps (some (.int f)) y,rfl,.inl ?_,_,_,_,rfl,by rw [List.filter_append,g1];simp [hst],g2,g3,g4⟩
    unfold xA
    simp [mk,hin]
   ·have hst:yL F w xq f=true:=by simp [yL,xq,hin]
    let mk2:Nat->En:=fun k=>[some (flV w h F),some (.int w),some (.int h),some (.tup (F.map PV.int)),some (.lst (rs++ps.map (xi w))),some (.int f),some (.lst ((zt w f k).map PV.int))]
    have h0:∀ i:Nat,i<1->f+i * w ∈ F:=fun i hi=>by
     have hi0:i=0:=by omega
     rw [hi0]
     simpa using hfF
    obtain ⟨e,e1,⟨k,rfl,k1,k2⟩,e3⟩:=zbQ (t:=y4) (g:=wq) (fun e=>∃ k,e=mk2 k/\1≤k/\∀ i:Nat,i<k->f+i * w ∈ F)
     (fun e=>match e with | [_,_,_,_,_,_,some (.lst l)]=>100 - l.length | _=>0) (by
      rintro e ⟨k,rfl,k1,k2⟩
      have kl:k≤36:=by
       have:=zX (zt w f k) F (wl hw _ _) fun y hy=>by obtain ⟨i,hi,rfl⟩:=mem_chain.mp hy;exact k2 i hi
       rw [yb] at this;omega
      obtain ⟨m,rfl⟩:∃ m,k=m+1:=⟨k - 1,by omega⟩
      have hla:atI ((zt w f (m+1)).map PV.int) (-1)=some (.int (f+m * w)):=by
       unfold atI ixN
       rw [List.length_map,yb,if_neg (by omega),if_pos (by omega)]
       have:(-1+((m+1:Nat):Int)).toNat=m:=by omega
       rw [Option.bind_some,this,xz,List.map_append,List.getElem?_append_right (by simp [yb])]
       simp [yb]
      have hx:fOp vIx (zA 6) (fUn kC (fC (.int 1))) (mk2 (m+1))=some (.int (f+m * w)):=by
       simp only [mk2,yK,ug,zfD,zko,Option.bind_some,zmF,List.getElem?_cons_succ,List.getElem?_cons_zero,Option.join_some,zlz,hla]
      have hv:zA 1 (mk2 (m+1))=some (.int w):=rfl
      have hv3:zA 3 (mk2 (m+1))=some (.tup (F.map PV.int)):=rfl
      have ha:fOp yX (fOp vIx (zA 6) (fUn kC (fC (.int 1)))) (zA 1) (mk2 (m+1))=some (.int (f+((m+1:Nat):Int) * w)):=by
       rw [yK,hx,hv,qq];simp only [Option.bind_some,zlU]
       rw [show f+m * w+w=f+(m * w+w) by omega]
      have ht:y4 (mk2 (m+1))=some (decide (f+((m+1:Nat):Int) * w ∈ F)):=by
       unfold y4
       rw [qL,yK,ha,hv3]
       simp only [Option.bind_some,inE,zik,Option.map_some,zng]
      by_cases hc:f+((m+1:Nat):Int) * w ∈ F
      ·refine .inr ⟨by rw [ht,decide_eq_true hc],mk2 (m+2),.inl ?_,⟨m+2,rfl,by omega,fun i hi=>?_⟩,?_⟩
       ·unfold wq zf
        have hl:zA 6 (mk2 (m+1))=some (.lst ((zt w f (m+1)).map PV.int)):=rfl
        rw [hl,ha]
        simp only [Option.bind_some,List.length_map,yb,show m+1<100000 by omega,if_true]
        rw [show mk2 (m+2)=(mk2 (m+1)).set 6 (some (.lst ((zt w f (m+2)).map PV.int))) from rfl,xz w f (m+1),List.map_append];rfl
       ·by_cases hi':i<m+1
        ·exact k2 i hi'
        ·have:i=m+1:=by omega
         subst this;exact hc
       ·simp [mk2,yb];omega
      ·exact .inl (by rw [ht,decide_eq_false hc])) 1000000 (mk2 1) ⟨1,rfl,Nat.le_refl _,h0⟩ (by simp [mk2,yb])
    have kl:k≤36:=by
     have:=zX (zt w f k) F (wl hw _ _) fun y hy=>by obtain ⟨i,hi,rfl⟩:=mem_chain.mp hy;exact k2 i hi
     rw [yb] at this;omega
    obtain ⟨m,rfl⟩:∃ m,k=m+1:=⟨k - 1,by omega⟩
    have hmx:f+((m+1:Nat):Int) * w ∉ F:=fun hc=>by
     have hla:atI ((zt w f (m+1)).map PV.int) (-1)=some (.int (f+m * w)):=by
      unfold atI ixN
      rw [List.length_map,yb,if_neg (by omega),if_pos (by omega)]
      have:(-1+((m+1:Nat):Int)).toNat=m:=by omega
      rw [Option.bind_some,this,xz,List.map_append,List.getElem?_append_right (by simp [yb])]
      simp [yb]
     unfold y4 at e3
     rw [qq] at hc
     simp [mk2,hla,show f+m * w+w=f+(m * w+w) by omega,hc] at e3
    refine ⟨mk (ps++[(f,m+1)]) (some (.int f)) none,rfl,.inl ?_,_,_,_,rfl,by rw [List.map_append,List.filter_append,g1];simp [hst],?_,?_,?_⟩
    ·have ht:fT (fOp xv (fOp wT (zA 5) (zA 1)) (zA 3)) (mk ps (some (.int f)) y)=some true:=by simp [mk,hin]
     unfold xA
     rw [yc,ht,Option.bind_some,if_pos rfl]
     rw [zH (e:=mk2 1) (by simp [mk,mk2,qW])]
     rw [zH (e:=mk2 (m+1)) e1]
     unfold jO
     have hv4:zA 4 (mk2 (m+1))=some (.lst (rs++ps.map (xi w))):=rfl
     have hv6:zA 6 (mk2 (m+1))=some (.lst ((zt w f (m+1)).map PV.int)):=rfl
     rw [hv4,hv6]
     simp only [Option.bind_some,List.length_append,List.length_map,show rs.length+ps.length<100000 by omega,if_true]
     simp [mk,mk2,xi]
    ·intro z hz
     rcases List.mem_append.mp hz with hz | hz
     ·exact g2 z hz
     ·rw [List.mem_singleton.mp hz];exact k1
    ·intro z hz i hi
     rcases List.mem_append.mp hz with hz | hz
     ·exact g3 z hz i hi
     ·rw [List.mem_singleton.mp hz] at hi ⊢;exact k2 i hi
    ·intro z hz
     rcases List.mem_append.mp hz with hz | hz
     ·exact g4 z hz
     ·rw [List.mem_singleton.mp hz];exact hmx)
 have e0:mk [] x0 y0=[some (flV w h F),some (.int w),some (.int h),some (.tup (F.map PV.int)),some (.lst rs),x0,y0]:=by simp [mk]
 rw [e0] at h1
 exact ⟨ps,x,y,⟨g1,g2,fun z hz i hi=>⟨g3 z hz i hi,fun _=>rfl⟩,fun z hz hm=>absurd hm (g4 z hz)⟩,h1⟩
theorem zbg{w h:Int}{F:List Int}{rs cs:List (Int × Nat)}(S:Strips w h F rs cs):xQ [flV w h F]=some (yw (zm w rs cs)):=by
 obtain ⟨rs',x,y,r1,h1⟩:=zic S.fl
 have er:=Runs0.uniq r1.toRuns0 S.rows.toRuns0
 subst er
 have hl:=S.lens
 obtain ⟨cs',x',y',r2,h2⟩:=zid S.fl (rs'.map (xi 1)) (by simp;omega) x y
 have ec:=Runs0.uniq r2 S.cols.toRuns0
 subst ec
 have e:yw (zm w rs' cs')=.lst (rs'.map (xi 1)++cs'.map (xi w)):=by
  simp only [yw,zm,List.map_append,List.map_map];rfl
 rw [e]
 unfold xQ fnV vq
 rw [zH (e:=[some (flV w h F),some (.int w),some (.int h),some (.tup (F.map PV.int)),none,none,none]) (by simp [xM,zZ,xN])]
 rw [zH (e:=[some (flV w h F),some (.int w),some (.int h),some (.tup (F.map PV.int)),some (.lst []),none,none]) (by simp)]
 rw [zH (e:=[some (flV w h F),some (.int w),some (.int h),some (.tup (F.map PV.int)),some (.lst (rs'.map (xi 1))),x,y]) (by rw [yZ];simp only [xC,ug,List.getElem?_cons_succ,List.getElem?_cons_zero,Option.join_some,Option.bind_some,zeU];exact h1)]
 rw [zH (e:=[some (flV w h F),some (.int w),some (.int h),some (.tup (F.map PV.int)),some (.lst (rs'.map (xi 1)++cs'.map (xi w))),x',y']) (by rw [yZ];simp only [xC,ug,List.getElem?_cons_succ,List.getElem?_cons_zero,Option.join_some,Option.bind_some,zeU];exact h2)]
 simp
end Cb
namespace F
open PySem L2
theorem zlx{L:List Int}{p:Int}(h:p ∈ L):∃ j,kIx (L.map Sum.inl) (.inl p)=some j/\j<L.length/\L[j]?=some p:=by
 cases hj:kIx (L.map Sum.inl) (.inl p) with
 | none=>
  have:=zdt hj
  rw [u4,decide_eq_false_iff_not] at this
  exact absurd h this
 | some j=>
  have h1:=zfh hj
  have h2:=zif hj
  rw [List.length_map] at h2
  rw [List.getElem?_map,List.getElem?_eq_getElem h2] at h1
  refine ⟨j,rfl,h2,?_⟩
  rw [List.getElem?_eq_getElem h2]
  have:Sum.inl L[j]=(Sum.inl p:Key):=Option.some.inj h1
  rw [Sum.inl.inj this]
theorem zjZ{L:List Int}{p:Int}(h:p ∉ L):kIx (L.map Sum.inl) (.inl p)=none:=by
 cases hj:kIx (L.map Sum.inl) (.inl p) with
 | none=>rfl
 | some j=>
  have h1:=zfh hj
  rw [List.getElem?_map] at h1
  obtain ⟨q,h2,h3⟩:=Option.map_eq_some_iff.mp h1
  cases h3
  exact absurd (List.mem_of_getElem? h2) h
theorem zkP{L:List Int}{G:Int->PV}{p:Int}{q:PV}{j:Nat}(nd:L.Nodup)(hj:L[j]?=some p):(L.map G).set j q=L.map (upF G p q):=by
 apply List.ext_getElem?
 intro t
 rw [List.getElem?_set,List.getElem?_map,List.getElem?_map]
 obtain ⟨h1,h2⟩:=List.getElem?_eq_some_iff.mp hj
 by_cases e:j=t
 ·subst e
  rw [if_pos rfl,List.length_map,if_pos h1,List.getElem?_eq_getElem h1,h2];simp
 ·rw [if_neg e]
  cases ht:L[t]? with
  | none=>rfl
  | some y=>
   have hy:y≠p:=fun z=>by
    subst z
    obtain ⟨t1,t2⟩:=List.getElem?_eq_some_iff.mp ht
    rcases Nat.lt_trichotomy j t with w | w | w
    ·exact List.pairwise_iff_getElem.mp nd j t h1 t1 w (by rw [h2,t2])
    ·exact e w
    ·exact List.pairwise_iff_getElem.mp nd t j t1 h1 w (by rw [h2,t2])
   simp [uk hy]
theorem zeN{L:List Int}{G:Int->PV}{p:Int}{q:PV}(h:p ∉ L):PV.dct (L.map Sum.inl++[.inl p]) (L.map G++[q])=dF (L++[p]) (upF G p q):=by
 unfold dF
 rw [List.map_append,List.map_append]
 congr 1
 simp only [List.map_cons,List.map_nil,wz]
 congr 1
 exact List.map_congr_left fun a ha=>(uk (show a≠p from fun z=>h (by rw [← z];exact ha))).symm
theorem zee{env:En}{i:Nat}{fk f:FE}{L:List Int}{G:Int->PV}{p:Int}{qs:List PV}{q:PV}(hl:zA i env=some (dF L G))(hk:fk env=some (.int p))(nd:L.Nodup)(hp:p ∈ L)(hG:G p=.lst qs)(hq:f env=some q)(hL:L.length<100000)(hz:qs.length<100000):
  uZ i fk f env=some (.nx (env.set i (some (dF L (upF G p (.lst (qs++[q]))))))):=by
 obtain ⟨j,h1,h2,h3⟩:=zlx hp
 unfold uZ
 rw [hl,hk,Option.bind_some,Option.bind_some]
 have hg:(L.map G)[j]?=some (.lst qs):=by rw [List.getElem?_map,h3];simp [hG]
 simp only [dF,List.length_map,hL,if_true,vF,Option.bind_some,h1,hg,hq,hz,zkP nd h3]
theorem zef{env:En}{i:Nat}{fk f:FE}{L:List Int}{G:Int->PV}{p:Int}{q:PV}(hl:zA i env=some (dF L G))(hk:fk env=some (.int p))(hp:p ∉ L)(hq:f (env.set i (some (dF (L++[p]) (upF G p (.lst [])))))=some q)(hL:L.length<100000):
  uZ i fk f env=some (.nx (env.set i (some (dF (L++[p]) (upF G p (.lst [q])))))):=by
 unfold uZ
 rw [hl,hk,Option.bind_some,Option.bind_some]
 have e0:=zeN (G:=G) (q:=.lst []) hp
 have e1:(L.map G++[PV.lst []]).set (L.map G).length (.lst [q])=L.map G++[.lst [q]]:=by simp
 have e2:=zeN (G:=G) (q:=.lst [q]) hp
 simp only [dF,List.length_map,hL,if_true,vF,Option.bind_some,zjZ hp]
 rw [e0,hq,Option.bind_some]
 rw [List.length_map] at e1
 rw [e1,e2]
 rw [List.set_set]
 rfl
theorem zjw{env:En}{i:Nat}{fk f:FE}{L:List Int}{G:Int->PV}{p:Int}{q:PV}(hl:zA i env=some (dF L G))(hk:fk env=some (.int p))(hp:p ∉ L)(hq:f env=some q)(hL:L.length<100000):
  zdy i fk f env=some (.nx (env.set i (some (dF (L++[p]) (upF G p q))))):=by
 unfold zdy
 rw [hq,hl,hk,Option.bind_some,Option.bind_some,Option.bind_some]
 have hn:kS (L.map Sum.inl) (.inl p)=false:=by rw [u4];exact decide_eq_false hp
 simp only [dF,vF,Option.bind_some,hn,List.length_map,hL,decide_true,Bool.not_false,Bool.and_self,if_true,zeN hp]
theorem zkb{L:List Int}{G:Int->PV}{p:Int}{x:PV}:zcS (dF L G) (.int p) x=some (if p ∈ L then G p else x):=by
 simp only [dF,zcS,vF,Option.map_some]
 by_cases h:p ∈ L
 ·rw [if_pos h,zcE h];rfl
 ·rw [if_neg h,zbF h];rfl
end F
namespace Cb
open PySem L2 F CB PyProof.Rows
noncomputable def uj:FS:=(uZ 1 (fOp vIx (zA 2) (fC (.int 0))) (zx (zA 2)))
noncomputable def vj:FS:=(zW (zp 1 ky)
 (zW (yt (zc (zA 0)) (zL 2) uj)
 (yq (zA 1))))
noncomputable def wH:List PV->Option PV:=fnV 3 vj
noncomputable def wQ:FS:=(wG (fT (fOp xv (fOp vIx (zA 6) (fC (.int 1))) (zA 2))) (zW (zdy 2 (fOp vIx (zA 6) (fC (.int 1))) (fOp yX (fOp vIx (zA 2) (zA 5)) (wF (zC (fOp vIx (zA 6) (fC (.int 2))) zI))))
 (zf 4 (zx (fOp vIx (zA 6) (fC (.int 1)))))) fNx)
noncomputable def xT:FT:=(fT (fOp vGt (zJ wM (zC (zA 4) zI)) (fC (.int 0))))
noncomputable def vK:FS:=(zW (zfq 5 4)
 (yt (zc (zfs (zA 3) (zA 5) (wF zI))) (zL 6) wQ))
noncomputable def uV:FS:=(zW (zp 2 (zcD (zA 1) (wF zI)))
 (zW (zp 3 (zJ wH (zC (zA 0) zI)))
 (zW (zp 4 (wF (zC (zx (zA 1)) zI)))
 (zW (fWh xT vK 1000000)
 (yq (zA 2))))))
noncomputable def wb:List PV->Option PV:=fnV 7 uV
noncomputable abbrev Stp:=Int × Int × PV
noncomputable def yP(s:Stp):PV:=.tup [.int s.1,.int s.2.1,s.2.2]
inductive Path (ss:List Stp) (a:Int):List PV->Int->Prop where
 | nil:Path ss a [] a
 | snoc {ms:List PV} {b:Int} {s:Stp}:Path ss a ms b->s ∈ ss->s.1=b->Path ss a (ms++[s.2.2]) s.2.1
inductive SPath (ss:List Stp) (a:Int):List PV->List Int->Int->Prop where
 | nil:SPath ss a [] [a] a
 | snoc {ms:List PV} {vs:List Int} {b:Int} {s:Stp}:SPath ss a ms vs b->s ∈ ss->s.1=b->s.2.1 ∉ vs->SPath ss a (ms++[s.2.2]) (vs++[s.2.1]) s.2.1
theorem zfZ{ss:List Stp}(hd:∀ s ∈ ss,zw s.2.2=true)(hl:ss.length≤10000):∃ L G,wH [.lst (ss.map yP)]=some (dF L G)/\∀ p,(if p ∈ L then G p else .lst [])=.lst ((ss.filter fun s=>decide (s.1=p)).map yP):=by
 let mk:List Int->(Int->PV)->Option PV->En:=fun L G x=>[some (.lst (ss.map yP)),some (dF L G),x]
 obtain ⟨e,h1,L,G,x,rfl,nd,h2,h3,h4⟩:=yj (b:=zL 2) (g:=uj) (xs:=ss) (hh:=yP) (env:=mk [] (fun _=>.non) none)
  (fun pre e=>∃ L G x,e=mk L G x/\L.Nodup/\(∀ p,p ∈ L ↔ ∃ s ∈ pre,s.1=p)/\(∀ p ∈ L,G p=.lst ((pre.filter fun s=>decide (s.1=p)).map yP))/\L.length≤pre.length)
  ⟨[],_,none,rfl,.nil,by simp,by simp,by simp⟩ (by
   rintro pre s post e hp ⟨L,G,x,rfl,nd,h2,h3,h4⟩
   have hs:s ∈ ss:=by rw [hp];simp
   have hds:zw (yP s)=true:=by simp [yP,hd s hs]
   have hpl:pre.length<10000:=by have:=congrArg List.length hp;rw [List.length_append,List.length_cons] at this;omega
   have hk:∀ L G,fOp vIx (zA 2) (fC (.int 0)) (mk L G (some (yP s)))=some (.int s.1):=fun L G=>by simp [mk,yP]
   have hf:∀ L G,zx (zA 2) (mk L G (some (yP s)))=some (yP s):=fun L G=>by simp only [mk,zcN,ug,List.getElem?_cons_succ,List.getElem?_cons_zero,Option.join_some,Option.bind_some,hds,if_true]
   refine ⟨mk L G (some (yP s)),?_⟩
   by_cases hL:s.1 ∈ L
   ·have hz:((pre.filter fun t=>decide (t.1=s.1)).map yP).length<100000:=by
     rw [List.length_map]
     have:=List.length_filter_le (fun t:Stp=>decide (t.1=s.1)) pre
     omega
    refine ⟨_,rfl,.inl (zee (i:=1) rfl (hk L G) nd hL (h3 _ hL) (hf L G) (by omega) hz),L,_,_,rfl,nd,fun p=>?_,fun p hp'=>?_,by simp;omega⟩
    ·rw [h2 p]
     constructor
     ·rintro ⟨t,ht,e⟩;exact ⟨t,List.mem_append_left _ ht,e⟩
     ·rintro ⟨t,ht,e⟩
      rcases List.mem_append.mp ht with ht | ht
      ·exact ⟨t,ht,e⟩
      ·rw [List.mem_singleton.mp ht] at e
       rw [← h2 p,← e];exact hL
    ·rw [List.filter_append,List.map_append]
     by_cases e:p=s.1
     ·subst e;rw [wz];simp
     ·have e':¬ s.1=p:=fun z=>e z.symm
      rw [uk e,h3 p hp'];simp [e']
   ·refine ⟨_,rfl,.inl (zef (i:=1) rfl (hk L G) hL (hf _ _) (by omega)),L++[s.1],_,_,rfl,?_,fun p=>?_,fun p hp'=>?_,by simp;omega⟩
    ·exact List.nodup_append.mpr ⟨nd,by simp,fun a ha b hb=>by rw [List.mem_singleton.mp hb];exact fun e=>hL (e ▸ ha)⟩
    ·rw [List.mem_append,List.mem_singleton,h2 p]
     constructor
     ·rintro (⟨t,ht,e⟩ | e)
      ·exact ⟨t,List.mem_append_left _ ht,e⟩
      ·exact ⟨s,by simp,e.symm⟩
     ·rintro ⟨t,ht,e⟩
      rcases List.mem_append.mp ht with ht | ht
      ·exact .inl ⟨t,ht,e⟩
      ·rw [List.mem_singleton.mp ht] at e;exact .inr e.symm
    ·rw [List.filter_append,List.map_append]
     by_cases e:p=s.1
     ·subst e
      rw [wz]
      have:(pre.filter fun t=>decide (t.1=s.1))=[]:=by
       rw [List.filter_eq_nil_iff]
       intro t ht hc
       exact hL ((h2 _).mpr ⟨t,ht,of_decide_eq_true hc⟩)
      simp [this]
     ·have e':¬ s.1=p:=fun z=>e z.symm
      rw [uk e,h3 p ((List.mem_append.mp hp').resolve_right fun z=>e (List.mem_singleton.mp z))];simp [e'])
 refine ⟨L,G,?_,fun p=>?_⟩
 ·refine yo (e:=mk L G x) [some (.lst (ss.map yP)),none,none] rfl ?_
  unfold vj
  rw [zH (e:=mk [] (fun _=>.non) none) (by simp [mk];rfl)]
  rw [zH (e:=mk L G x) (by rw [yZ];exact h1)]
  rfl
 ·by_cases h:p ∈ L
  ·rw [if_pos h,h3 p h]
  ·rw [if_neg h]
   have:(ss.filter fun s=>decide (s.1=p))=[]:=by
    rw [List.filter_eq_nil_iff]
    intro t ht hc
    exact h ((h2 _).mpr ⟨t,ht,of_decide_eq_true hc⟩)
   rw [this];rfl
structure Wk (ss:List Stp) (start:Int) (U:List Int) (L:List Int) (ws:Int->List PV) (Q ex:List Int):Prop where
 nd:L.Nodup
 sub:∀ s ∈ L,s ∈ U
 st:start ∈ L
 path:∀ s ∈ L,Path ss start (ws s) s/\(ws s).length+1≤L.length
 w0:ws start=[]
 dat:∀ s ∈ L,isDatas (ws s)=true
 once:∀ s ∈ L,∃ vs,SPath ss start (ws s) vs s/\∀ v ∈ vs,v ∈ L
 qs:∀ q ∈ Q,q ∈ L
 cl:∀ s ∈ L,s ∉ Q->s ∉ ex->∀ t ∈ ss,t.1=s->t.2.1 ∈ L
noncomputable def upW(ws:Int->List PV)(p:Int)(q:List PV):Int->List PV:=fun y=>if y=p then q else ws y
theorem Wk.grow{ss:List Stp}{start:Int}{U L:List Int}{ws:Int->List PV}{Q ex:List Int}(w:Wk ss start U L ws Q ex){h:Int}(hh:h ∈ L){s:Stp}(hs:s ∈ ss)(e:s.1=h)(hn:s.2.1 ∉ L)(hU:s.2.1 ∈ U)(hd:zw s.2.2=true):
  Wk ss start U (L++[s.2.1]) (upW ws s.2.1 (ws h++[s.2.2])) (Q++[s.2.1]) ex:=by
 have ne:∀ {p},p ∈ L->p≠s.2.1:=fun hp z=>hn (z ▸ hp)
 refine ⟨?_,?_,List.mem_append_left _ w.st,?_,?_,?_,?_,?_,?_⟩
 ·exact List.nodup_append.mpr ⟨w.nd,by simp,fun a ha b hb=>by rw [List.mem_singleton.mp hb];exact ne ha⟩
 ·intro p hp
  rcases List.mem_append.mp hp with hp | hp
  ·exact w.sub p hp
  ·rw [List.mem_singleton.mp hp];exact hU
 ·intro p hp
  rcases List.mem_append.mp hp with hp | hp
  ·have:=w.path p hp
   unfold upW
   rw [if_neg (ne hp),List.length_append]
   exact ⟨this.1,by omega⟩
  ·rw [List.mem_singleton.mp hp]
   have:=w.path h hh
   unfold upW
   rw [if_pos rfl,List.length_append,List.length_append]
   exact ⟨.snoc this.1 hs e,by simp;omega⟩
 ·unfold upW;rw [if_neg (ne w.st)];exact w.w0
 ·intro p hp
  rcases List.mem_append.mp hp with hp | hp
  ·unfold upW;rw [if_neg (ne hp)];exact w.dat p hp
  ·rw [List.mem_singleton.mp hp];unfold upW;rw [if_pos rfl,wD,w.dat h hh];simp [hd]
 ·intro p hp
  rcases List.mem_append.mp hp with hp | hp
  ·obtain ⟨vs,v1,v2⟩:=w.once p hp
   unfold upW
   rw [if_neg (ne hp)]
   exact ⟨vs,v1,fun v hv=>List.mem_append_left _ (v2 v hv)⟩
  ·rw [List.mem_singleton.mp hp]
   obtain ⟨vs,v1,v2⟩:=w.once h hh
   unfold upW
   rw [if_pos rfl]
   refine ⟨vs++[s.2.1],.snoc v1 hs e fun z=>hn (v2 _ z),fun v hv=>?_⟩
   rcases List.mem_append.mp hv with hv | hv
   ·exact List.mem_append_left _ (v2 v hv)
   ·exact List.mem_append_right _ hv
 ·intro q hq
  rcases List.mem_append.mp hq with hq | hq
  ·exact List.mem_append_left _ (w.qs q hq)
  ·exact List.mem_append_right _ hq
 ·intro p hp hq hx t ht e'
  rw [List.mem_append,not_or] at hq
  rcases List.mem_append.mp hp with hp | hp
  ·exact List.mem_append_left _ (w.cl p hp hq.1 hx t ht e')
  ·exact absurd hp hq.2
theorem zgI{ss:List Stp}{start:Int}{U:List Int}(hd:∀ s ∈ ss,zw s.2.2=true)(hl:ss.length≤10000)(hU:∀ s ∈ ss,s.2.1 ∈ U)(hs:start ∈ U)(hUl:U.length≤1000):
  ∃ L ws,wb [.lst (ss.map yP),.int start]=some (dF L fun s=>.lst (ws s))/\Wk ss start U L ws [] []:=by
 obtain ⟨LO,GO,ho,hO⟩:=zfZ hd hl
 let mk:List Int->(Int->List PV)->List Int->Option PV->Option PV->En:=fun L ws Q x y=>[some (.lst (ss.map yP)),some (.int start),some (dF L fun s=>.lst (ws s)),some (dF LO GO),some (.lst (Q.map PV.int)),x,y]
 have upE:∀ (L:List Int) (ws:Int->List PV) (p:Int) (q:List PV),dF L (upF (fun s=>.lst (ws s)) p (.lst q))=dF L fun s=>.lst (upW ws p q s):=fun L ws p q=>by
  congr 1
  funext y
  unfold upF upW
  split<;>rfl
 have loop:=zbQ (t:=xT) (g:=vK) (fun e=>∃ L ws Q x y,e=mk L ws Q x y/\Wk ss start U L ws Q []/\Q.length≤L.length)
  (fun e=>match e with | [_,_,some (.dct ks _),_,some (.lst q),_,_]=>2 * (U.length - ks.length)+q.length | _=>0) ?_ 1000000 (mk [start] (fun _=>[]) [start] none none)
  ⟨[start],_,[start],none,none,rfl,⟨by simp,fun s h=>by rw [List.mem_singleton.mp h];exact hs,by simp,fun s h=>by rw [List.mem_singleton.mp h];exact ⟨.nil,by simp⟩,rfl,fun _ _=>rfl,fun s h=>⟨[start],by rw [List.mem_singleton.mp h];exact .nil,fun v hv=>hv⟩,fun q h=>h,fun s h h'=>absurd h h'⟩,by simp⟩ (by simp [mk,dF];omega)
 ·obtain ⟨e,h1,⟨L,ws,Q,x,y,rfl,w,_⟩,h2⟩:=loop
  have hQ:Q=[]:=by
   cases Q with
   | nil=>rfl
   | cons a r=>simp [xT,mk] at h2
  subst hQ
  refine ⟨L,ws,?_,w⟩
  refine yo (e:=mk L ws [] x y) [some (.lst (ss.map yP)),some (.int start),none,none,none,none,none] rfl ?_
  unfold uV
  rw [zH (e:=[some (.lst (ss.map yP)),some (.int start),some (dF [start] fun s=>.lst []),none,none,none,none]) (by simp [zcD,vF,dF])]
  rw [zH (yB (as:=[.lst (ss.map yP)]) rfl ho)]
  rw [zH (e:=mk [start] (fun _=>[]) [start] none none) (by simp [mk])]
  rw [zH h1]
  rfl
 ·rintro e ⟨L,ws,Q,x,y,rfl,w,hQl⟩
  have hLl:L.length≤U.length:=zX L U w.nd w.sub
  cases Q with
  | nil=>exact .inl (by simp [xT,mk])
  | cons h Q=>
   refine .inr ⟨by simp [xT,mk],?_⟩
   have hh:h ∈ L:=w.qs h List.mem_cons_self
   have w1:Wk ss start U L ws Q [h]:=⟨w.nd,w.sub,w.st,w.path,w.w0,w.dat,w.once,fun q hq=>w.qs q (List.mem_cons_of_mem _ hq),fun s hs hq hx t ht e=>w.cl s hs (fun z=>(List.mem_cons.mp z).elim (fun z=>hx (z ▸ List.mem_singleton.mpr rfl)) hq) (by simp) t ht e⟩
   obtain ⟨e',g1,L',ws',Q',y',rfl,w',hcl,hsub,hle⟩:=yj (b:=zL 6) (g:=wQ) (xs:=ss.filter fun s=>decide (s.1=h)) (hh:=yP) (env:=mk L ws Q (some (.int h)) y)
    (fun pre e=>∃ L' ws' Q' y',e=mk L' ws' Q' (some (.int h)) y'/\Wk ss start U L' ws' Q' [h]/\(∀ s ∈ pre,s.2.1 ∈ L')/\h ∈ L'/\Q'.length+L.length=Q.length+L'.length/\L.length≤L'.length)
    ⟨L,ws,Q,y,rfl,w1,by simp,hh,rfl,Nat.le_refl _⟩ (by
     rintro pre s post e hp ⟨L',ws',Q',y',rfl,w',hcl,hh',hsz,hle⟩
     have hsm:s ∈ ss.filter fun s=>decide (s.1=h):=by rw [hp];simp
     obtain ⟨hss,hs1⟩:=List.mem_filter.mp hsm
     have hs1:=of_decide_eq_true hs1
     have hL'l:L'.length≤U.length:=zX L' U w'.nd w'.sub
     refine ⟨mk L' ws' Q' (some (.int h)) (some (yP s)),?_⟩
     have hi1:fOp vIx (zA 6) (fC (.int 1)) (mk L' ws' Q' (some (.int h)) (some (yP s)))=some (.int s.2.1):=by simp [mk,yP]
     by_cases hin:s.2.1 ∈ L'
     ·refine ⟨mk L' ws' Q' (some (.int h)) (some (yP s)),rfl,.inl ?_,L',ws',Q',_,rfl,w',?_,hh',hsz,hle⟩
      ·have ht:fT (fOp xv (fOp vIx (zA 6) (fC (.int 1))) (zA 2)) (mk L' ws' Q' (some (.int h)) (some (yP s)))=some false:=by
        rw [qL,yK,hi1]
        simp [mk,hin]
       unfold wQ
       rw [yc,ht,Option.bind_some,if_neg Bool.false_ne_true];rfl
      ·intro t ht
       rcases List.mem_append.mp ht with ht | ht
       ·exact hcl t ht
       ·rw [List.mem_singleton.mp ht];exact hin
     ·have w2:=w'.grow hh' hss hs1 hin (hU s hss) (hd s hss)
      have hpl:=(w'.path h hh').2
      refine ⟨mk (L'++[s.2.1]) (upW ws' s.2.1 (ws' h++[s.2.2])) (Q'++[s.2.1]) (some (.int h)) (some (yP s)),rfl,.inl ?_,_,_,_,_,rfl,w2,?_,List.mem_append_left _ hh',by simp;omega,by simp;omega⟩
      ·have ht:fT (fOp xv (fOp vIx (zA 6) (fC (.int 1))) (zA 2)) (mk L' ws' Q' (some (.int h)) (some (yP s)))=some true:=by
        rw [qL,yK,hi1]
        simp [mk,hin]
       have hadd:fOp yX (fOp vIx (zA 2) (zA 5)) (wF (zC (fOp vIx (zA 6) (fC (.int 2))) zI)) (mk L' ws' Q' (some (.int h)) (some (yP s)))=some (.lst (ws' h++[s.2.2])):=by
        have:vIx (dF L' fun s=>.lst (ws' s)) (.int h)=some (.lst (ws' h)):=zaw hh'
        simp [mk,this,yP,yX,w'.dat h hh',hd s hss,show (ws' h).length+1≤100000 by omega]
       have hput:=zjw (i:=2) (env:=mk L' ws' Q' (some (.int h)) (some (yP s))) rfl hi1 hin hadd (by omega)
       unfold wQ
       rw [yc,ht,Option.bind_some,if_pos rfl,zH hput,upE]
       have hQz:Q'.length<100000:=by simp only [List.length_cons] at hQl;omega
       show zf 4 (zx (fOp vIx (zA 6) (fC (.int 1)))) (mk (L'++[s.2.1]) (upW ws' s.2.1 (ws' h++[s.2.2])) Q' (some (.int h)) (some (yP s)))=_
       simp [zf,mk,yP,hQz]
      ·intro t ht
       rcases List.mem_append.mp ht with ht | ht
       ·exact List.mem_append_left _ (hcl t ht)
       ·rw [List.mem_singleton.mp ht];simp)
   have hL'l:L'.length≤U.length:=zX L' U w'.nd w'.sub
   obtain ⟨hh',hsz,hle⟩:=(⟨hsub,hle.1,hle.2⟩:h ∈ L'/\Q'.length+L.length=Q.length+L'.length/\L.length≤L'.length)
   simp only [List.length_cons] at hQl
   refine ⟨mk L' ws' Q' (some (.int h)) y',.inl ?_,⟨L',ws',Q',_,_,rfl,⟨w'.nd,w'.sub,w'.st,w'.path,w'.w0,w'.dat,w'.once,w'.qs,fun s hs hq _ t ht e=>?_⟩,by omega⟩,by simp [mk,dF];omega⟩
   ·unfold vK
    rw [zH (e:=mk L ws Q (some (.int h)) y) (by simp [zfq,mk])]
    rw [yZ]
    have hg:zc (zfs (zA 3) (zA 5) (wF zI)) (mk L ws Q (some (.int h)) y)=some ((ss.filter fun s=>decide (s.1=h)).map yP):=by
     rw [xC]
     show ((zcS (dF LO GO) (.int h) (.lst [])).bind wk)=_
     rw [zkb,hO h];rfl
    rw [hg,Option.bind_some]
    exact g1
   ·by_cases hx:s=h
    ·subst hx
     exact hcl t (List.mem_filter.mpr ⟨ht,decide_eq_true e⟩)
    ·exact w'.cl s hs hq (by simpa using hx) t ht e
noncomputable def uW:FS:=(zW (zp 2 (fOp vIx (zA 0) (fC (.int 0))))
 (zW (zp 3 (fOp yX (zA 1) (fOp y3 (zA 1) (zA 2))))
 (zW (zp 4 (fOp yX (fOp yX (zA 3) (zA 2)) (fC (.int 1))))
 (yq (yp (zC (zx (zA 3)) (zC (fOp yX (zA 3) (fC (.int 1))) (zC (zx (zA 4)) (zC (fOp yX (zA 4) (fC (.int 1))) zI)))))))))
noncomputable def xF:List PV->Option PV:=fnV 5 uW
noncomputable def jG:FS:=(kU 1 (zJ xF (zC (zA 0) (zC (zA 2) zI))))
noncomputable def ku:FS:=(zW (zp 1 (wF zI))
 (zW (yt (zc (fOp vIx (zA 0) (fC (.int 2)))) (zL 2) jG)
 (yq (jC (zC (zA 1) zI)))))
noncomputable def uI:List PV->Option PV:=fnV 3 ku
noncomputable def xg:FS:=(zW (zf 3 (yp (zC (zx (fOp vIx (zA 5) (zA 9))) (zC (zx (fOp vIx (zA 5) (zA 10))) (zC (zx (zA 11)) zI)))))
 (zf 3 (yp (zC (zx (fOp vIx (zA 5) (zA 10))) (zC (zx (fOp vIx (zA 5) (zA 9))) (zC (yp (zC (fUn kC (fOp vIx (zA 11) (fC (.int 0)))) (zC (fUn kC (fOp vIx (zA 11) (fC (.int 1)))) zI))) zI))))))
noncomputable def wY:FS:=(zW (zp 5 (zJ xF (zC (zA 0) (zC (zA 4) zI))))
 (zW (zp 6 (fOp vIx (zA 1) (fOp vIx (fOp vIx (zA 2) (zA 4)) (fC (.int 0)))))
 (zW (zp 7 (fOp vIx (zA 1) (fOp vIx (fOp vIx (zA 2) (zA 4)) (fC (.int 1)))))
 (zW (zp 8 (yp (zC (fUn kC (fOp vIx (zA 6) (fC (.int 1)))) (zC (fOp vIx (zA 6) (fC (.int 0))) zI))))
 (yt (zc (yp (zC (yp (zC (fC (.int 0)) (zC (fC (.int 1)) (zC (zA 7) zI)))) (zC (yp (zC (fC (.int 2)) (zC (fC (.int 3)) (zC (zA 7) zI)))) (zC (yp (zC (fC (.int 0)) (zC (fC (.int 2)) (zC (zA 8) zI)))) (zC (yp (zC (fC (.int 1)) (zC (fC (.int 3)) (zC (zA 8) zI)))) zI)))))) (xM 3 (zZ (zL 9) (zZ (zL 10) (zZ (zL 11) xN)))) xg)))))
noncomputable def vI:FS:=(zW (zp 2 (zJ yH (zC (zA 0) zI)))
 (zW (zp 3 (wF zI))
 (zW (yt (zc (fOp vIx (zA 0) (fC (.int 2)))) (zL 4) wY)
 (yq (zA 3)))))
noncomputable def xp:List PV->Option PV:=fnV 12 vI
noncomputable def uf:FS:=(zW (zp 6 (zJ zfM (zC (fLC (zc (fOp vIx (zA 3) (zA 5))) 1 [] (zL 0) wo (zx (fOp vIx (zA 0) (fC (.int 0))))) zI)))
 (zW (zp 7 (zJ zfM (zC (fLC (zc (fOp vIx (zA 3) (zA 5))) 1 [] (zL 0) wo (zx (fOp vIx (zA 0) (fC (.int 1))))) zI)))
 (zf 4 (yp (zC (zx (zA 5)) (zC (zx (zA 6)) (zC (zx (zA 7)) zI)))))))
noncomputable def jr:FS:=(zW (zp 2 (zJ uI (zC (zA 0) zI)))
 (zW (zp 3 (zJ wb (zC (zJ xp (zC (zA 0) (zC (zA 1) zI))) (zC (fOp vIx (zA 2) (fC (.int 0))) zI))))
 (zW (zp 4 (wF zI))
 (zW (yt (zc (zA 2)) (zL 5) uf)
 (yq (zA 4))))))
noncomputable def vM:List PV->Option PV:=fnV 8 jr
noncomputable def cAt(w p:Int):List Int:=[p+p / w,p+p / w+1,p+p / w+w+1,p+p / w+w+1+1]
theorem zbU{f:FE}{env:En}{a:PV}{l:List PV}(h:f env=some (.tup (a::l))):fOp vIx f (fC (.int 0)) env=some a:=by
 rw [yK,h,zko];exact zbO
theorem zfK{f:FE}{env:En}{a b:PV}{l:List PV}(h:f env=some (.tup (a::b::l))):fOp vIx f (fC (.int 1)) env=some b:=by
 rw [yK,h,zko];exact zdM
theorem zji{f:FE}{env:En}{a b c:PV}{l:List PV}(h:f env=some (.tup (a::b::c::l))):fOp vIx f (fC (.int 2)) env=some c:=by
 rw [yK,h,zko];exact znf
theorem kF{f:FE}{env:En}{i:Nat}{p:PV}(h:f env=some p):zp i f env=some (.nx (env.set i (some p))):=by rw [zaW,h];rfl
theorem lcv{E E':En}{src:FA}{n:Nat}{js:List Nat}{qs R:List PV}{b:PV->En->Option En}{t:FT}{f:FE}(hX:src E=some qs)(hce:cE n js E=E')(hl:qs.length≤100000)(hc:yk b t f qs E'=some R):fLC src n js b t f E=some (.lst R):=by
 rw [zdN,hX,Option.bind_some,if_pos hl,hce,hc];rfl
theorem zdD{f:FE}{env:En}{p:PV}(h:f env=some p)(hd:zw p=true):zx f env=some p:=by
 rw [zcN,h,Option.bind_some,if_pos hd]
theorem kW{w h p:Int}{F:List Int}(w1:1≤w)(w6:w≤6):xF [flV w h F,.int p]=some (.tup ((cAt w p).map PV.int)):=by
 have hd:=wN (i:=p) (show 0<w/\w<1073741824 by omega)
 let mk:Option PV->Option PV->Option PV->En:=fun x y z=>[some (flV w h F),some (.int p),x,y,z]
 refine yo (e:=mk (some (.int w)) (some (.int (p+p / w))) (some (.int (p+p / w+w+1)))) (mk none none none) rfl ?_
 unfold uW
 rw [zH (e:=mk (some (.int w)) none none) (kF (zbU rfl))]
 rw [zH (e:=mk (some (.int w)) (some (.int (p+p / w))) none) (kF (by
  show ((y3 (.int p) (.int w)).bind fun y=>yX (.int p) y)=_
  rw [hd];rfl))]
 rw [zH (e:=mk (some (.int w)) (some (.int (p+p / w))) (some (.int (p+p / w+w+1)))) rfl]
 rfl
noncomputable def jS(w:Int)(F:List Int):List Int:=F.flatMap (cAt w)
noncomputable def xY(w:Int)(F:List Int):List Int:=qp (xX (jS w F))
theorem mem_corL{w:Int}{F:List Int}{c:Int}:c ∈ jS w F ↔ ∃ p ∈ F,c ∈ cAt w p:=List.mem_flatMap
theorem mem_corF{w:Int}{F:List Int}{c:Int}:c ∈ xY w F ↔ ∃ p ∈ F,c ∈ cAt w p:=by
 unfold xY
 rw [(uK _).mem_iff,mem_dedupL,mem_corL]
theorem zaQ(w:Int)(F:List Int):(xY w F).Nodup:=(uK _).nodup_iff.mpr (wO _)
noncomputable def crn(w x y:Int):Int:=y * (w+1)+x
theorem vy{w x y:Int}(h0:0≤x)(h1:x≤w):crn w x y / (w+1)=y/\crn w x y % (w+1)=x:=(Int.ediv_emod_unique (by omega)).mpr ⟨by unfold crn;rw [Int.mul_comm];omega,h0,by omega⟩
theorem zjV(w p:Int):p+p / w=crn w (p % w) (p / w):=by
 unfold crn
 have:=Int.mul_ediv_add_emod p w
 rw [Int.mul_comm] at this
 rw [Int.mul_add,Int.mul_one]
 omega
theorem zcH(w p:Int):cAt w p=[crn w (p % w) (p / w),crn w (p % w+1) (p / w),crn w (p % w) (p / w+1),crn w (p % w+1) (p / w+1)]:=by
 unfold cAt
 rw [zjV]
 have e1:crn w (p % w) (p / w)+1=crn w (p % w+1) (p / w):=by unfold crn;omega
 have e2:crn w (p % w) (p / w)+w+1=crn w (p % w) (p / w+1):=by unfold crn;rw [Int.add_mul (p / w),Int.one_mul];omega
 have e3:crn w (p % w) (p / w+1)+1=crn w (p % w+1) (p / w+1):=by unfold crn;omega
 rw [e1,e2,e3]
theorem zbG{w h p c:Int}(w1:1≤w)(hp:CB.Place w h p)(hc:c ∈ cAt w p):∃ x y,c=crn w x y/\0≤x/\x≤w/\0≤y/\y≤h:=by
 have hr:=zbt w1 hp
 have m0:=Int.emod_nonneg p (show w≠0 by omega)
 have m1:=Int.emod_lt_of_pos p (show 0<w by omega)
 rw [zcH] at hc
 simp only [List.mem_cons,List.not_mem_nil,or_false] at hc
 rcases hc with rfl | rfl | rfl | rfl
 ·exact ⟨_,_,rfl,by omega,by omega,by omega,by omega⟩
 ·exact ⟨_,_,rfl,by omega,by omega,by omega,by omega⟩
 ·exact ⟨_,_,rfl,by omega,by omega,by omega,by omega⟩
 ·exact ⟨_,_,rfl,by omega,by omega,by omega,by omega⟩
theorem zlO{w h x y:Int}(x0:0≤x)(x1:x≤w)(y0:0≤y)(y1:y≤h):0≤crn w x y/\crn w x y<(w+1) * (h+1):=by
 unfold crn
 have h1:0≤y * (w+1):=Int.mul_nonneg y0 (by omega)
 have h2:(y+1) * (w+1)≤(h+1) * (w+1):=Int.mul_le_mul_of_nonneg_right (by omega) (by omega)
 rw [Int.add_mul y,Int.one_mul] at h2
 have h3:(h+1) * (w+1)=(w+1) * (h+1):=Int.mul_comm _ _
 omega
theorem zfx{w h:Int}{F:List Int}(fl:IsFloor w h F){L:List Int}(nd:L.Nodup)(hL:∀ c ∈ L,∃ p ∈ F,c ∈ cAt w p):L.length≤49:=by
 have w1:=fl.w1
 have hk:(w+1) * (h+1)≤7 * 7:=Int.mul_le_mul (by have:=fl.w6;omega) (by have:=fl.h6;omega) (by have:=fl.h1;omega) (by decide)
 have:=zX L (zi (w+1) (h+1)) nd fun c hc=>by
  obtain ⟨p,hp,hcp⟩:=hL c hc
  obtain ⟨x,y,rfl,x0,x1,y0,y1⟩:=zbG w1 (fl.inn p hp) hcp
  exact mem_places.mpr (zlO x0 x1 y0 y1)
 have e:(zi (w+1) (h+1)).length=((w+1) * (h+1)).toNat:=by simp [zi]
 omega
theorem zaR{w h:Int}{F:List Int}(fl:IsFloor w h F):(xY w F).length≤49:=zfx fl (zaQ w F) fun c hc=>mem_corF.mp hc
theorem zkl{w h:Int}{F:List Int}(fl:IsFloor w h F):(xX (jS w F)).length<63:=by
 have:=zfx fl (wO (jS w F)) fun c hc=>mem_corL.mp (mem_dedupL.mp hc)
 omega
theorem zdJ(w:Int):∀ F:List Int,(jS w F).length=4 * F.length
 | []=>rfl
 | p::F=>by
  show (cAt w p++jS w F).length=_
  rw [List.length_append,zdJ w F,List.length_cons]
  show 4+4 * F.length=_
  omega
theorem zec{f:FE}{env:En}{ns:List Int}(h:f env=some (.lst (ns.map PV.int)))(hl:(xX ns).length<63):jC (zC f zI) env=some (.lst ((qp (xX ns)).map PV.int)):=by
 unfold jC
 rw [zU,h]
 show ((vH (ns.map PV.int)).bind fun ns=>_)=_
 rw [uU,Option.bind_some,if_pos hl]
theorem zeF{w h:Int}{F:List Int}(fl:IsFloor w h F):uI [flV w h F]=some (.lst ((xY w F).map PV.int)):=by
 have w1:=fl.w1;have w6:=fl.w6
 have fz:=yx fl
 let mk:List Int->Option PV->En:=fun L x=>[some (flV w h F),some (.lst (L.map PV.int)),x]
 obtain ⟨e,l1,x,rfl⟩:=yj (b:=zL 2) (g:=jG) (xs:=F) (hh:=PV.int) (env:=mk [] none) (fun pre e=>∃ x,e=mk (jS w pre) x) ⟨none,rfl⟩ (by
  rintro pre p post e hF ⟨x,rfl⟩
  have hpl:pre.length≤36:=by have:=congrArg List.length hF;rw [List.length_append] at this;omega
  refine ⟨mk (jS w pre) (some (.int p)),mk (jS w (pre++[p])) (some (.int p)),rfl,.inl ?_,_,rfl⟩
  have e1:jS w (pre++[p])=jS w pre++cAt w p:=by unfold jS;rw [List.flatMap_append,List.flatMap_singleton]
  rw [e1]
  have hz:=zdJ w pre
  generalize jS w pre=L at hz
  have v1:zA 1 (mk L (some (.int p)))=some (.lst (L.map PV.int)):=rfl
  unfold jG kU
  rw [v1,Option.bind_some,zY (as:=[flV w h F,.int p]) rfl (kW w1 w6),Option.bind_some]
  dsimp only
  rw [zhh,Option.bind_some,if_pos ⟨j2,by rw [List.length_map,List.length_map];show L.length+4≤_;omega⟩,← List.map_append]
  rfl)
 refine yo (e:=mk (jS w F) x) [some (flV w h F),none,none] rfl ?_
 unfold ku
 have v2:fOp vIx (zA 0) (fC (.int 2)) (mk [] none)=some (.tup (F.map PV.int)):=zji rfl
 rw [zH (e:=mk [] none) rfl]
 rw [zH (e:=mk (jS w F) x) (by rw [yZ,xC,v2];exact l1)]
 rw [vL,zec (ns:=jS w F) rfl (zkl fl)];rfl
noncomputable def yd(g:Int × Int):PV:=.tup [.int g.1,.int g.2]
noncomputable abbrev Gr:=Nat × Nat × (Int × Int)
noncomputable def zaD(A U:Int × Int):List Gr:=[(0,1,A),(2,3,A),(0,2,U),(1,3,U)]
noncomputable def qF(w p:Int)(z:Gr):List Stp:=[((cAt w p).getD z.1 0,(cAt w p).getD z.2.1 0,yd z.2.2),((cAt w p).getD z.2.1 0,(cAt w p).getD z.1 0,yd (-z.2.2.1,-z.2.2.2))]
noncomputable def acr(ls:List (List Int))(st:List (Int × Int))(p:Int):Int × Int:=st.getD (rc ls p).2 (0,0)
noncomputable def upw(ls:List (List Int))(st:List (Int × Int))(p:Int):Int × Int:=(-(st.getD (rc ls p).1 (0,0)).2,(st.getD (rc ls p).1 (0,0)).1)
noncomputable def jx(w:Int)(ls:List (List Int))(st:List (Int × Int))(p:Int):List Stp:=(zaD (acr ls st p) (upw ls st p)).flatMap (qF w p)
noncomputable def xW(w:Int)(ls:List (List Int))(st:List (Int × Int))(F:List Int):List Stp:=F.flatMap (jx w ls st)
theorem ju(w:Int)(ls:List (List Int))(st:List (Int × Int)):∀ F:List Int,(xW w ls st F).length=8 * F.length
 | []=>rfl
 | p::F=>by
  show (jx w ls st p++xW w ls st F).length=_
  rw [List.length_append,ju w ls st F,List.length_cons]
  show 8+8 * F.length=_
  omega
theorem jQ{i:Nat}{f:FE}{env:En}{qs:List PV}{q:PV}(hl:zA i env=some (.lst qs))(hf:f env=some q)(hz:qs.length<100000):zf i f env=some (.nx (env.set i (some (.lst (qs++[q]))))):=by
 unfold zf
 rw [hl,hf,Option.bind_some,Option.bind_some]
 dsimp only
 rw [if_pos hz]
theorem ziQ{w p:Int}{k:Nat}(hk:k<4):atI ((cAt w p).map PV.int) (k:Int)=some (.int ((cAt w p).getD k 0)):=kY hk
theorem zgk{w h:Int}{F:List Int}{rs cs:List (Int × Nat)}{L:List Int}{G:Int->PV}(S:Strips w h F rs cs)(C:Cross w h F (zm w rs cs) L G){st:List (Int × Int)}(hst:st.length=rs.length+cs.length):
  xp [flV w h F,.lst (st.map yd)]=some (.lst ((xW w (zm w rs cs) st F).map yP)):=by
 have w1:=S.fl.w1;have w6:=S.fl.w6
 have fz:=yx S.fl
 generalize hls:zm w rs cs=ls at *
 let mk:List Stp->Option PV->Option PV->Option PV->Option PV->Option PV->Option PV->Option PV->Option PV->En:=fun ss x4 x5 x6 x7 x8 x9 x10 x11=>[some (flV w h F),some (.lst (st.map yd)),some (dF L G),some (.lst (ss.map yP)),x4,x5,x6,x7,x8,x9,x10,x11]
 obtain ⟨e,l1,x4,x5,x6,x7,x8,x9,x10,x11,rfl⟩:=yj (b:=zL 4) (g:=wY) (xs:=F) (hh:=PV.int) (env:=mk [] none none none none none none none none) (fun pre e=>∃ x4 x5 x6 x7 x8 x9 x10 x11,e=mk (xW w ls st pre) x4 x5 x6 x7 x8 x9 x10 x11) ⟨none,none,none,none,none,none,none,none,rfl⟩ (by
  rintro pre p post e hF ⟨x4,x5,x6,x7,x8,x9,x10,x11,rfl⟩
  have hp:p ∈ F:=by rw [hF];simp
  have hpl:pre.length≤36:=by have:=congrArg List.length hF;rw [List.length_append] at this;omega
  obtain ⟨i1,i2,i3,i4⟩:=S.rc_of hp
  rw [hls] at i1 i2 i3 i4
  have e1:xW w ls st (pre++[p])=xW w ls st pre++jx w ls st p:=by unfold xW;rw [List.flatMap_append,List.flatMap_singleton]
  have hz:=ju w ls st pre
  generalize xW w ls st pre=ss at hz e1
  have hix:=C.ix hp i1
  have atst:∀ k:Nat,k<st.length->atI (st.map yd) (k:Int)=some (yd (st.getD k (0,0))):=fun k hk=>by
   rw [atI_nat (by simpa using hk)]
   simp [List.getD,hk]
  have a1:=atst (rc ls p).1 (by omega)
  have a2:=atst (rc ls p).2 (by omega)
  generalize hR:st.getD (rc ls p).1 (0,0)=R at a1
  generalize hA:st.getD (rc ls p).2 (0,0)=A at a2
  let P4:=some (PV.int p)
  let P5:=some (PV.tup ((cAt w p).map PV.int))
  let P6:=some (yd R)
  let P7:=some (yd A)
  let P8:=some (yd (-R.2,R.1))
  have fin:∀ (zs:List Gr) (ss:List Stp) (y9 y10 y11:Option PV),(∀ z ∈ zs,z.1<4/\z.2.1<4)->ss.length+2 * zs.length≤1000->∃ z9 z10 z11,xw (xM 3 (zZ (zL 9) (zZ (zL 10) (zZ (zL 11) xN)))) xg (zs.map fun z=>PV.tup [.int (z.1:Int),.int (z.2.1:Int),yd z.2.2]) (mk ss P4 P5 P6 P7 P8 y9 y10 y11)=some (.nx (mk (ss++zs.flatMap (qF w p)) P4 P5 P6 P7 P8 z9 z10 z11)):=by
   intro zs
   induction zs with
   | nil=>intro ss y9 y10 y11 _ _;exact ⟨y9,y10,y11,by rw [List.flatMap_nil,List.append_nil];rfl⟩
   | cons z zs ih=>
    intro ss y9 y10 y11 hz4 hl
    rw [List.length_cons] at hl
    obtain ⟨q1,q2⟩:=hz4 z List.mem_cons_self
    have b1:=ziQ (w:=w) (p:=p) q1
    have b2:=ziQ (w:=w) (p:=p) q2
    generalize hc1:(cAt w p).getD z.1 0=c1 at b1
    generalize hc2:(cAt w p).getD z.2.1 0=c2 at b2
    let E:List Stp->En:=fun ss=>mk ss P4 P5 P6 P7 P8 (some (.int (z.1:Int))) (some (.int (z.2.1:Int))) (some (yd z.2.2))
    have v9:∀ ss,fOp vIx (zA 5) (zA 9) (E ss)=some (.int c1):=fun ss=>b1
    have v10:∀ ss,fOp vIx (zA 5) (zA 10) (E ss)=some (.int c2):=fun ss=>b2
    have s1:zf 3 (yp (zC (zx (fOp vIx (zA 5) (zA 9))) (zC (zx (fOp vIx (zA 5) (zA 10))) (zC (zx (zA 11)) zI)))) (E ss)=some (.nx (E (ss++[(c1,c2,yd z.2.2)]))):=by
     rw [jQ (q:=yP (c1,c2,yd z.2.2)) rfl (by
      rw [jH,zU,zdD (v9 ss) rfl,zU,zdD (v10 ss) rfl];rfl) (by rw [List.length_map];omega)]
     show _=some (Out.nx (mk (ss++[(c1,c2,yd z.2.2)]) P4 P5 P6 P7 P8 _ _ _))
     simp only [mk,List.map_append];rfl
    have s2:zf 3 (yp (zC (zx (fOp vIx (zA 5) (zA 10))) (zC (zx (fOp vIx (zA 5) (zA 9))) (zC (yp (zC (fUn kC (fOp vIx (zA 11) (fC (.int 0)))) (zC (fUn kC (fOp vIx (zA 11) (fC (.int 1)))) zI))) zI)))) (E (ss++[(c1,c2,yd z.2.2)]))=some (.nx (E (ss++[(c1,c2,yd z.2.2)]++[(c2,c1,yd (-z.2.2.1,-z.2.2.2))]))):=by
     have g0:fOp vIx (zA 11) (fC (.int 0)) (E (ss++[(c1,c2,yd z.2.2)]))=some (.int z.2.2.1):=zbU rfl
     have g1:fOp vIx (zA 11) (fC (.int 1)) (E (ss++[(c1,c2,yd z.2.2)]))=some (.int z.2.2.2):=zfK rfl
     rw [jQ (qs:=(ss++[(c1,c2,yd z.2.2)]).map yP) (q:=yP (c2,c1,yd (-z.2.2.1,-z.2.2.2))) rfl (by
      rw [jH,zU,zdD (v10 _) rfl,zU,zdD (v9 _) rfl,zU,jH,zU,zfD,g0,zU,zfD,g1];rfl) (by rw [List.length_map,List.length_append,List.length_singleton];omega)]
     show _=some (Out.nx (mk (ss++[(c1,c2,yd z.2.2)]++[(c2,c1,yd (-z.2.2.1,-z.2.2.2))]) P4 P5 P6 P7 P8 _ _ _))
     simp only [mk]
     rw [List.map_append (l₂:=[(c2,c1,_)])];rfl
    obtain ⟨z9,z10,z11,ih'⟩:=ih (ss++[(c1,c2,yd z.2.2)]++[(c2,c1,yd (-z.2.2.1,-z.2.2.2))]) (some (.int (z.1:Int))) (some (.int (z.2.1:Int))) (some (yd z.2.2)) (fun y hy=>hz4 y (List.mem_cons_of_mem _ hy)) (by simp only [List.length_append,List.length_singleton];omega)
    refine ⟨z9,z10,z11,?_⟩
    rw [List.map_cons]
    unfold xw
    have hb:xM 3 (zZ (zL 9) (zZ (zL 10) (zZ (zL 11) xN))) (.tup [.int (z.1:Int),.int (z.2.1:Int),yd z.2.2]) (mk ss P4 P5 P6 P7 P8 y9 y10 y11)=some (E ss):=rfl
    have hbody:xg (E ss)=some (.nx (E (ss++[(c1,c2,yd z.2.2)]++[(c2,c1,yd (-z.2.2.1,-z.2.2.2))]))):=by
     unfold xg
     rw [zH s1,s2]
    rw [hb,Option.bind_some,hbody,Option.bind_some]
    dsimp only
    refine ih'.trans ?_
    rw [List.flatMap_cons]
    have e2:qF w p z=[(c1,c2,yd z.2.2),(c2,c1,yd (-z.2.2.1,-z.2.2.2))]:=by unfold qF;rw [hc1,hc2]
    rw [e2]
    simp only [List.append_assoc,List.cons_append,List.nil_append]
  obtain ⟨z9,z10,z11,hfin⟩:=fin (zaD A (-R.2,R.1)) ss x9 x10 x11 (by intro z hz;simp only [zaD,List.mem_cons,List.not_mem_nil,or_false] at hz;rcases hz with rfl | rfl | rfl | rfl<;>exact ⟨Nat.le_of_ble_eq_true rfl,Nat.le_of_ble_eq_true rfl⟩) (by show ss.length+8≤1000;omega)
  have e3:(zaD A (-R.2,R.1)).flatMap (qF w p)=jx w ls st p:=by unfold jx acr upw;rw [hA,hR]
  rw [e3,← e1] at hfin
  refine ⟨mk ss P4 x5 x6 x7 x8 x9 x10 x11,mk (xW w ls st (pre++[p])) P4 P5 P6 P7 P8 z9 z10 z11,rfl,.inl ?_,_,_,_,_,_,_,_,_,rfl⟩
  unfold wY
  rw [zH (e:=mk ss P4 P5 x6 x7 x8 x9 x10 x11) (yB (as:=[flV w h F,.int p]) rfl (kW w1 w6))]
  have x24:∀ y6 y7 y8,fOp vIx (zA 2) (zA 4) (mk ss P4 P5 y6 y7 y8 x9 x10 x11)=some (.tup [.int ((rc ls p).1:Int),.int ((rc ls p).2:Int)]):=fun y6 y7 y8=>hix
  rw [zH (e:=mk ss P4 P5 P6 x7 x8 x9 x10 x11) (kF (by rw [yK,zbU (x24 _ _ _)];exact a1))]
  rw [zH (e:=mk ss P4 P5 P6 P7 x8 x9 x10 x11) (kF (by rw [yK,zfK (x24 _ _ _)];exact a2))]
  rw [zH (e:=mk ss P4 P5 P6 P7 P8 x9 x10 x11) (kF (by
   have g0:fOp vIx (zA 6) (fC (.int 0)) (mk ss P4 P5 P6 P7 x8 x9 x10 x11)=some (.int R.1):=zbU rfl
   have g1:fOp vIx (zA 6) (fC (.int 1)) (mk ss P4 P5 P6 P7 x8 x9 x10 x11)=some (.int R.2):=zfK rfl
   rw [jH,zU,zfD,g1,zU,g0];rfl))]
  rw [yZ]
  exact hfin)
 refine yo (e:=mk (xW w ls st F) x4 x5 x6 x7 x8 x9 x10 x11) [some (flV w h F),some (.lst (st.map yd)),none,none,none,none,none,none,none,none,none,none] rfl ?_
 unfold vI
 rw [zH (e:=[some (flV w h F),some (.lst (st.map yd)),some (dF L G),none,none,none,none,none,none,none,none,none]) (yB (as:=[flV w h F]) rfl C.val)]
 rw [zH (e:=mk [] none none none none none none none none) rfl]
 have v2:fOp vIx (zA 0) (fC (.int 2)) (mk [] none none none none none none none none)=some (.tup (F.map PV.int)):=zji rfl
 rw [zH (e:=mk (xW w ls st F) x4 x5 x6 x7 x8 x9 x10 x11) (by rw [yZ,xC,v2];exact l1)]
 rfl
structure Pot (w:Int) (F:List Int) (ls:List (List Int)) (α β:Nat->Int) (X:Int->Int):Prop where
 a1:∀ p ∈ F,X (p+p / w+1)=X (p+p / w)+α (rc ls p).2
 a2:∀ p ∈ F,X (p+p / w+w+1+1)=X (p+p / w+w+1)+α (rc ls p).2
 u1:∀ p ∈ F,X (p+p / w+w+1)=X (p+p / w)+β (rc ls p).1
 u2:∀ p ∈ F,X (p+p / w+w+1+1)=X (p+p / w+1)+β (rc ls p).1
theorem zhz{w h:Int}{F:List Int}{rs cs:List (Int × Nat)}(S:Strips w h F rs cs)(α β:Nat->Int):∃ X,Pot w F (zm w rs cs) α β X:=by
 have w1:=S.fl.w1
 have key:∀ x y,0≤x->x<w->(y * w+x) % w=x/\(y * w+x) / w=y:=fun x y x0 x1=>by
  have:=(Int.ediv_emod_unique (a:=y * w+x) (b:=w) (q:=y) (r:=x) (by omega)).mpr ⟨by rw [Int.mul_comm];omega,x0,x1⟩
  exact ⟨this.2,this.1⟩
 let a:Int->Int->Int:=fun x y=>if y * w+x ∈ F then α (rc (zm w rs cs) (y * w+x)).2 else α (rc (zm w rs cs) ((y - 1) * w+x)).2
 let u:Int->Int->Int:=fun x y=>if x<w/\y * w+x ∈ F then β (rc (zm w rs cs) (y * w+x)).1 else β (rc (zm w rs cs) (y * w+(x - 1))).1
 have hpe:∀ p:Int,p / w * w+p % w=p:=fun p=>by have:=Int.mul_ediv_add_emod p w;rw [Int.mul_comm] at this;exact this
 have hb:∀ p ∈ F,0≤p % w/\p % w<w:=fun p _=>⟨Int.emod_nonneg _ (by omega),Int.emod_lt_of_pos _ (by omega)⟩
 have va1:∀ p ∈ F,a (p % w) (p / w)=α (rc (zm w rs cs) p).2:=fun p hp=>by
  show (if _ then _ else _)=_
  rw [hpe,if_pos hp]
 have va2:∀ p ∈ F,a (p % w) (p / w+1)=α (rc (zm w rs cs) p).2:=fun p hp=>by
  show (if _ then _ else _)=_
  have e:(p / w+1) * w+p % w=p+w:=by rw [Int.add_mul,Int.one_mul];have:=hpe p;omega
  have e':(p / w+1 - 1) * w+p % w=p:=by rw [Int.add_sub_cancel];exact hpe p
  rw [e,e']
  by_cases hq:p+w ∈ F
  ·rw [if_pos hq,S.col_next hp hq]
  ·rw [if_neg hq]
 have vu1:∀ p ∈ F,u (p % w) (p / w)=β (rc (zm w rs cs) p).1:=fun p hp=>by
  show (if _ then _ else _)=_
  rw [hpe,if_pos ⟨(hb p hp).2,hp⟩]
 have vu2:∀ p ∈ F,u (p % w+1) (p / w)=β (rc (zm w rs cs) p).1:=fun p hp=>by
  show (if _ then _ else _)=_
  have e:p / w * w+(p % w+1)=p+1:=by have:=hpe p;omega
  have e':p / w * w+(p % w+1 - 1)=p:=by rw [Int.add_sub_cancel];exact hpe p
  rw [e,e']
  by_cases hq:p % w+1<w/\p+1 ∈ F
  ·rw [if_pos hq,S.row_next hp hq.2 (qo w1 (by omega)).1.symm]
  ·rw [if_neg hq]
 obtain ⟨φ,_,hφ⟩:=zcB S.fl (a:=a) (u:=u) (fun p hp=>by
  unfold Clo pt
  dsimp only
  rw [va1 p hp,va2 p hp,vu1 p hp,vu2 p hp]
  omega)
 obtain ⟨X,hX⟩:∃ X:Int->Int,∀ c,X c=φ (c % (w+1)) (c / (w+1)):=⟨_,fun _=>rfl⟩
 have X4:∀ p ∈ F,X (p+p / w)=φ (p % w) (p / w)/\X (p+p / w+1)=φ (p % w+1) (p / w)/\X (p+p / w+w+1)=φ (p % w) (p / w+1)/\X (p+p / w+w+1+1)=φ (p % w+1) (p / w+1):=fun p hp=>by
  have hc:=zcH w p
  unfold cAt at hc
  injection hc with c1 hc
  injection hc with c2 hc
  injection hc with c3 hc
  injection hc with c4 _
  have hm:=hb p hp
  rw [c4,c3,c2,c1,hX,hX,hX,hX]
  rw [(vy (w:=w) (x:=p % w) (y:=p / w) hm.1 (by omega)).1,(vy (w:=w) (x:=p % w) (y:=p / w) hm.1 (by omega)).2,(vy (w:=w) (x:=p % w+1) (y:=p / w) (by omega) (by omega)).1,(vy (w:=w) (x:=p % w+1) (y:=p / w) (by omega) (by omega)).2,
   (vy (w:=w) (x:=p % w) (y:=p / w+1) hm.1 (by omega)).1,(vy (w:=w) (x:=p % w) (y:=p / w+1) hm.1 (by omega)).2,(vy (w:=w) (x:=p % w+1) (y:=p / w+1) (by omega) (by omega)).1,(vy (w:=w) (x:=p % w+1) (y:=p / w+1) (by omega) (by omega)).2]
  exact ⟨rfl,rfl,rfl,rfl⟩
 refine ⟨X,fun p hp=>?_,fun p hp=>?_,fun p hp=>?_,fun p hp=>?_⟩
 ·obtain ⟨x1,x2,x3,x4⟩:=X4 p hp
  rw [x2,x1,(hφ p hp).1,va1 p hp]
 ·obtain ⟨x1,x2,x3,x4⟩:=X4 p hp
  rw [x4,x3,(hφ p hp).2.1,va2 p hp]
 ·obtain ⟨x1,x2,x3,x4⟩:=X4 p hp
  rw [x3,x1,(hφ p hp).2.2.1,vu1 p hp]
 ·obtain ⟨x1,x2,x3,x4⟩:=X4 p hp
  rw [x4,x2,(hφ p hp).2.2.2,vu2 p hp]
noncomputable def zno(X Y:Int->Int)(s:Stp):Prop:=∃ g:Int × Int,s.2.2=yd g/\X s.2.1=X s.1+g.1/\Y s.2.1=Y s.1+g.2
theorem zeA{w:Int}{F:List Int}{ls:List (List Int)}{st:List (Int × Int)}{X Y:Int->Int}(px:Pot w F ls (fun c=>(st.getD c (0,0)).1) (fun r => -(st.getD r (0,0)).2) X)(py:Pot w F ls (fun c=>(st.getD c (0,0)).2) (fun r=>(st.getD r (0,0)).1) Y):
  ∀ s ∈ xW w ls st F,zno X Y s:=by
 intro s hs
 obtain ⟨p,hp,hs⟩:=List.mem_flatMap.mp hs
 unfold jx at hs
 obtain ⟨z,hz,hs⟩:=List.mem_flatMap.mp hs
 have base:X ((cAt w p).getD z.2.1 0)=X ((cAt w p).getD z.1 0)+z.2.2.1/\Y ((cAt w p).getD z.2.1 0)=Y ((cAt w p).getD z.1 0)+z.2.2.2:=by
  simp only [zaD,List.mem_cons,List.not_mem_nil,or_false] at hz
  rcases hz with rfl | rfl | rfl | rfl
  ·exact ⟨px.a1 p hp,py.a1 p hp⟩
  ·exact ⟨px.a2 p hp,py.a2 p hp⟩
  ·exact ⟨px.u1 p hp,py.u1 p hp⟩
  ·exact ⟨px.u2 p hp,py.u2 p hp⟩
 unfold qF at hs
 simp only [List.mem_cons,List.not_mem_nil,or_false] at hs
 rcases hs with rfl | rfl
 ·exact ⟨z.2.2,rfl,base.1,base.2⟩
 ·exact ⟨(-z.2.2.1,-z.2.2.2),rfl,by show X ((cAt w p).getD z.1 0)=X ((cAt w p).getD z.2.1 0) + -z.2.2.1;omega,by show Y ((cAt w p).getD z.1 0)=Y ((cAt w p).getD z.2.1 0) + -z.2.2.2;omega⟩
theorem zhJ{ss:List Stp}{X Y:Int->Int}(hf:∀ s ∈ ss,zno X Y s){a:Int}{ms:List PV}{c:Int}(p:Path ss a ms c):∃ gs:List (Int × Int),ms=gs.map yd/\(gs.map (·.1)).sum=X c - X a/\(gs.map (·.2)).sum=Y c - Y a:=by
 induction p with
 | nil=>exact ⟨[],rfl,by show (0:Int)=_;omega,by show (0:Int)=_;omega⟩
 | @snoc ms b s _ hs e ih=>
  obtain ⟨gs,h1,h2,h3⟩:=ih
  obtain ⟨g,g1,g2,g3⟩:=hf s hs
  refine ⟨gs++[g],by rw [h1,g1,List.map_append];rfl,?_,?_⟩
  ·rw [List.map_append,List.sum_append,h2,g2,e]
   show X b - X a+(g.1+0)=_
   omega
  ·rw [List.map_append,List.sum_append,h3,g3,e]
   show Y b - Y a+(g.2+0)=_
   omega
theorem zgl{w h:Int}{F:List Int}(fl:IsFloor w h F)(P:Int->Prop)(hs:∀ p q,p ∈ F->q ∈ F->Adj w p q->P p->P q){a p:Int}(ha:a ∈ F)(hp:p ∈ F)(h:P a):P p:=by
 obtain ⟨f0,fr,rfl⟩:∃ a r,F=a::r:=by
  cases F with
  | nil=>exact absurd rfl fl.ne
  | cons a r=>exact ⟨a,r,rfl⟩
 have fwd:∀ {q:Int},Reach (Adj w) (· ∈ f0::fr) (fun z=>(f0::fr).head?=some z) q->P f0->P q:=fun r hP=>by
  induction r with
  | start a s=>cases a;exact hP
  | step r adj s ih=>exact hs _ _ r.inS s adj ih
 have bwd:∀ {q:Int},Reach (Adj w) (· ∈ f0::fr) (fun z=>(f0::fr).head?=some z) q->P q->P f0:=fun r hP=>by
  induction r with
  | start a s=>cases a;exact hP
  | step r adj s ih=>exact ih (hs _ _ s r.inS adj.symm hP)
 exact fwd (fl.conn p hp) (bwd (fl.conn a ha) h)
theorem zmk{w:Int}(w1:1≤w){p q:Int}(ha:Adj w p q):∃ c,c ∈ cAt w p/\c ∈ cAt w q:=by
 have dw:∀ z:Int,(z+w) / w=z / w+1:=fun z=>Int.add_ediv_of_dvd_right (Int.dvd_refl w) |>.trans (by rw [Int.ediv_self (by omega)])
 rcases ha with ⟨rfl,e⟩ | ⟨e1,e⟩ | rfl | e
 ·refine ⟨p+p / w+1,by simp [cAt],?_⟩
  unfold cAt
  rw [← e,show p+1+p / w=p+p / w+1 by omega]
  simp
 ·obtain rfl:q=p - 1:=by omega
  refine ⟨p+p / w,by simp [cAt],?_⟩
  unfold cAt
  rw [← e,show p - 1+p / w+1=p+p / w by omega]
  simp
 ·refine ⟨p+p / w+w+1,by simp [cAt],?_⟩
  unfold cAt
  rw [dw,show p+w+(p / w+1)=p+p / w+w+1 by omega]
  simp
 ·subst e
  refine ⟨q+q / w+w+1,?_,by simp [cAt]⟩
  unfold cAt
  rw [dw,show q+w+(q / w+1)=q+q / w+w+1 by omega]
  simp
theorem zdO{w h:Int}{F:List Int}{ls:List (List Int)}{st:List (Int × Int)}(fl:IsFloor w h F){L:List Int}(cl:∀ s ∈ L,∀ t ∈ xW w ls st F,t.1=s->t.2.1 ∈ L){c0:Int}(h0:c0 ∈ L)(hc0:c0 ∈ xY w F):∀ c ∈ xY w F,c ∈ L:=by
 have mem:∀ p ∈ F,∀ z ∈ zaD (acr ls st p) (upw ls st p),∀ s ∈ qF w p z,s ∈ xW w ls st F:=fun p hp z hz s hs=>List.mem_flatMap.mpr ⟨p,hp,List.mem_flatMap.mpr ⟨z,hz,hs⟩⟩
 have two:∀ p ∈ F,∀ z ∈ zaD (acr ls st p) (upw ls st p),((cAt w p).getD z.1 0 ∈ L ↔ (cAt w p).getD z.2.1 0 ∈ L):=fun p hp z hz=>
  ⟨fun h=>cl _ h _ (mem p hp z hz _ List.mem_cons_self) rfl,fun h=>cl _ h _ (mem p hp z hz _ (List.mem_cons_of_mem _ List.mem_cons_self)) rfl⟩
 have one:∀ p ∈ F,∀ c ∈ cAt w p,(c ∈ L ↔ p+p / w ∈ L):=fun p hp c hc=>by
  have e1:(p+p / w ∈ L ↔ p+p / w+1 ∈ L):=two p hp (0,1,acr ls st p) (by simp [zaD])
  have e2:(p+p / w+w+1 ∈ L ↔ p+p / w+w+1+1 ∈ L):=two p hp (2,3,acr ls st p) (by simp [zaD])
  have e3:(p+p / w ∈ L ↔ p+p / w+w+1 ∈ L):=two p hp (0,2,upw ls st p) (by simp [zaD])
  unfold cAt at hc
  simp only [List.mem_cons,List.not_mem_nil,or_false] at hc
  rcases hc with rfl | rfl | rfl | rfl
  ·exact Iff.rfl
  ·exact e1.symm
  ·exact e3.symm
  ·exact e2.symm.trans e3.symm
 obtain ⟨p0,hp0,hcp⟩:=mem_corF.mp hc0
 intro c hc
 obtain ⟨p,hp,hcp'⟩:=mem_corF.mp hc
 refine (one p hp c hcp').mpr (zgl fl (fun p=>p+p / w ∈ L) (fun p q hp hq ha h=>?_) hp0 hp ((one p0 hp0 c0 hcp).mp h0))
 obtain ⟨c,c1,c2⟩:=zmk fl.w1 ha
 exact (one q hq c c2).mp ((one p hp c c1).mpr h)
noncomputable def yn(X Y:Int->Int)(c0 c:Int):PV:=.tup [.int c,.int (X c - X c0),.int (Y c - Y c0)]
theorem laid_ok{w h:Int}{F:List Int}{rs cs:List (Int × Nat)}{L:List Int}{G:Int->PV}(S:Strips w h F rs cs)(C:Cross w h F (zm w rs cs) L G){st:List (Int × Int)}(hst:st.length=rs.length+cs.length){X Y:Int->Int}
  (px:Pot w F (zm w rs cs) (fun c=>(st.getD c (0,0)).1) (fun r => -(st.getD r (0,0)).2) X)(py:Pot w F (zm w rs cs) (fun c=>(st.getD c (0,0)).2) (fun r=>(st.getD r (0,0)).1) Y):
  ∃ c0,(xY w F).head?=some c0/\vM [flV w h F,.lst (st.map yd)]=some (.lst ((xY w F).map (yn X Y c0))):=by
 have fl:=S.fl
 have fz:=yx fl
 have cz:=zaR fl
 obtain ⟨f0,hf0⟩:=List.exists_mem_of_ne_nil F fl.ne
 obtain ⟨c0,cr,hcr⟩:∃ c0 cr,xY w F=c0::cr:=by
  cases hq:xY w F with
  | nil=>
   have:f0+f0 / w ∈ xY w F:=mem_corF.mpr ⟨f0,hf0,by simp [cAt]⟩
   rw [hq] at this;exact nomatch this
  | cons a r=>exact ⟨a,r,rfl⟩
 have hc0:c0 ∈ xY w F:=by rw [hcr];exact List.mem_cons_self
 have hco:=zeF fl
 have hgr:=zgk S C hst
 have hfit:=zeA px py
 have hglen:=ju w (zm w rs cs) st F
 have htgt:∀ s ∈ xW w (zm w rs cs) st F,s.2.1 ∈ xY w F:=fun s hs=>by
  obtain ⟨p,hp,hs⟩:=List.mem_flatMap.mp hs
  unfold jx at hs
  obtain ⟨z,hz,hs⟩:=List.mem_flatMap.mp hs
  refine mem_corF.mpr ⟨p,hp,?_⟩
  simp only [zaD,List.mem_cons,List.not_mem_nil,or_false] at hz
  unfold qF at hs
  simp only [List.mem_cons,List.not_mem_nil,or_false] at hs
  rcases hz with rfl | rfl | rfl | rfl<;>rcases hs with rfl | rfl<;>simp [cAt]
 have hdat:∀ s ∈ xW w (zm w rs cs) st F,zw s.2.2=true:=fun s hs=>by
  obtain ⟨g,e,_⟩:=hfit s hs
  rw [e];rfl
 obtain ⟨W,ws,hw,Wok⟩:=zgI (start:=c0) (U:=xY w F) hdat (by omega) htgt hc0 (by omega)
 have hall:=zdO fl (fun s hs t ht e=>Wok.cl s hs (by simp) (by simp) t ht e) Wok.st hc0
 generalize xW w (zm w rs cs) st F=ss at *
 let mk:List PV->Option PV->Option PV->Option PV->En:=fun R x y z=>[some (flV w h F),some (.lst (st.map yd)),some (.lst ((xY w F).map PV.int)),some (dF W fun s=>.lst (ws s)),some (.lst R),x,y,z]
 obtain ⟨e,l1,x,y,z,rfl⟩:=yj (b:=zL 5) (g:=uf) (xs:=xY w F) (hh:=PV.int) (env:=mk [] none none none) (fun pre e=>∃ x y z,e=mk (pre.map (yn X Y c0)) x y z) ⟨none,none,none,rfl⟩ (by
  rintro pre c post e hF ⟨x,y,z,rfl⟩
  have hc:c ∈ xY w F:=by rw [hF];simp
  have hpl:pre.length≤49:=by have:=congrArg List.length hF;rw [List.length_append] at this;omega
  have hcW:=hall c hc
  obtain ⟨gs,g1,g2,g3⟩:=zhJ hfit (Wok.path c hcW).1
  have hgl:gs.length≤1000:=by
   have h1:=(Wok.path c hcW).2
   have h2:=zX W (xY w F) Wok.nd Wok.sub
   rw [g1,List.length_map] at h1
   omega
  have vW:∀ x y,fOp vIx (zA 3) (zA 5) (mk (pre.map (yn X Y c0)) (some (.int c)) x y)=some (.lst (gs.map yd)):=fun x y=>by
   show vIx (dF W _) (.int c)=_
   rw [zaw hcW,g1]
  have lx:∀ x y,fLC (zc (fOp vIx (zA 3) (zA 5))) 1 [] (zL 0) wo (zx (fOp vIx (zA 0) (fC (.int 0)))) (mk (pre.map (yn X Y c0)) (some (.int c)) x y)=some (.lst ((gs.map (·.1)).map PV.int)):=fun x y=>
   lcv (qs:=gs.map yd) (by rw [xC,vW];rfl) rfl (by rw [List.length_map];omega) (by
    rw [List.map_map]
    exact yu _ gs fun g _=>⟨[some (yd g)],rfl,rfl,zdD (zbU rfl) rfl⟩)
  have ly:∀ x y,fLC (zc (fOp vIx (zA 3) (zA 5))) 1 [] (zL 0) wo (zx (fOp vIx (zA 0) (fC (.int 1)))) (mk (pre.map (yn X Y c0)) (some (.int c)) x y)=some (.lst ((gs.map (·.2)).map PV.int)):=fun x y=>
   lcv (qs:=gs.map yd) (by rw [xC,vW];rfl) rfl (by rw [List.length_map];omega) (by
    rw [List.map_map]
    exact yu _ gs fun g _=>⟨[some (yd g)],rfl,rfl,zdD (zfK rfl) rfl⟩)
  have sm:∀ ns:List Int,zfM [.lst (ns.map PV.int)]=some (.int ns.sum):=fun ns=>by
   unfold zfM
   dsimp only
   rw [uU]
  refine ⟨mk (pre.map (yn X Y c0)) (some (.int c)) y z,mk ((pre++[c]).map (yn X Y c0)) (some (.int c)) (some (.int (X c - X c0))) (some (.int (Y c - Y c0))),rfl,.inl ?_,_,_,_,rfl⟩
  unfold uf
  rw [zH (e:=mk (pre.map (yn X Y c0)) (some (.int c)) (some (.int (X c - X c0))) z) (by
   refine yB (as:=[.lst ((gs.map (·.1)).map PV.int)]) (by rw [zU,lx];rfl) ?_
   rw [sm,g2])]
  rw [zH (e:=mk (pre.map (yn X Y c0)) (some (.int c)) (some (.int (X c - X c0))) (some (.int (Y c - Y c0)))) (by
   refine yB (as:=[.lst ((gs.map (·.2)).map PV.int)]) (by rw [zU,ly];rfl) ?_
   rw [sm,g3])]
  rw [jQ (qs:=pre.map (yn X Y c0)) (q:=yn X Y c0 c) rfl rfl (by rw [List.length_map];omega),List.map_append]
  rfl)
 refine ⟨c0,by rw [hcr];rfl,yo (e:=mk ((xY w F).map (yn X Y c0)) x y z) [some (flV w h F),some (.lst (st.map yd)),none,none,none,none,none,none] rfl ?_⟩
 unfold jr
 rw [zH (e:=[some (flV w h F),some (.lst (st.map yd)),some (.lst ((xY w F).map PV.int)),none,none,none,none,none]) (yB (as:=[flV w h F]) rfl hco)]
 rw [zH (e:=[some (flV w h F),some (.lst (st.map yd)),some (.lst ((xY w F).map PV.int)),some (dF W fun s=>.lst (ws s)),none,none,none,none]) (by
  refine yB (as:=[.lst (ss.map yP),.int c0]) ?_ hw
  have v0:fOp vIx (zA 2) (fC (.int 0)) [some (flV w h F),some (.lst (st.map yd)),some (.lst ((xY w F).map PV.int)),none,none,none,none,none]=some (.int c0):=by
   show atI ((xY w F).map PV.int) 0=_
   rw [hcr,List.map_cons,zbO]
  rw [zU,zY (as:=[flV w h F,.lst (st.map yd)]) rfl hgr,zU,v0];rfl)]
 rw [zH (e:=mk [] none none none) rfl]
 rw [zH (e:=mk ((xY w F).map (yn X Y c0)) x y z) (by rw [yZ];exact l1)]
 rfl
noncomputable def zaC:FS:=(yq (zJ vM (zC (zA 0) (zC (fLC (zc (zA 1)) 1 [] (zL 0) wo (yp (zC (fC (.int 0)) (zC (zx (zA 0)) zI)))) zI))))
noncomputable def xD:List PV->Option PV:=fnV 2 zaC
theorem xV(T:List Int)(k:Nat):(T.map fun t=>((0:Int),t)).getD k (0,0)=(0,T.getD k 0):=by
 simp only [List.getD_eq_getElem?_getD,List.getElem?_map]
 cases T[k]?<;>rfl
structure Spd (w:Int) (F:List Int) (ls:List (List Int)) (T:List Int) (X Y:Int->Int):Prop where
 px:Pot w F ls (fun _=>0) (fun r => -T.getD r 0) X
 py:Pot w F ls (fun c=>T.getD c 0) (fun _=>0) Y
theorem zhd{w h:Int}{F:List Int}{rs cs:List (Int × Nat)}(S:Strips w h F rs cs)(T:List Int):∃ X Y,Spd w F (zm w rs cs) T X Y:=by
 obtain ⟨X,px⟩:=zhz S (fun _=>0) (fun r => -T.getD r 0)
 obtain ⟨Y,py⟩:=zhz S (fun c=>T.getD c 0) (fun _=>0)
 exact ⟨X,Y,px,py⟩
theorem jK{w h:Int}{F:List Int}{rs cs:List (Int × Nat)}{L:List Int}{G:Int->PV}(S:Strips w h F rs cs)(C:Cross w h F (zm w rs cs) L G){T:List Int}(hT:T.length=rs.length+cs.length){X Y:Int->Int}(sp:Spd w F (zm w rs cs) T X Y):
  ∃ c0,(xY w F).head?=some c0/\xD [flV w h F,.lst (T.map PV.int)]=some (.lst ((xY w F).map (yn X Y c0))):=by
 have hl:=S.lens
 obtain ⟨c0,h1,h2⟩:=laid_ok S C (st:=T.map fun t=>((0:Int),t)) (by rw [List.length_map];exact hT) (X:=X) (Y:=Y)
  ⟨fun p hp=>by rw [xV];exact sp.px.a1 p hp,fun p hp=>by rw [xV];exact sp.px.a2 p hp,fun p hp=>by rw [xV];exact sp.px.u1 p hp,fun p hp=>by rw [xV];exact sp.px.u2 p hp⟩
  ⟨fun p hp=>by rw [xV];exact sp.py.a1 p hp,fun p hp=>by rw [xV];exact sp.py.a2 p hp,fun p hp=>by rw [xV];exact sp.py.u1 p hp,fun p hp=>by rw [xV];exact sp.py.u2 p hp⟩
 refine ⟨c0,h1,yo (e:=[some (flV w h F),some (.lst (T.map PV.int))]) [some (flV w h F),some (.lst (T.map PV.int))] rfl ?_⟩
 unfold zaC
 have hlc:fLC (zc (zA 1)) 1 [] (zL 0) wo (yp (zC (fC (.int 0)) (zC (zx (zA 0)) zI))) [some (flV w h F),some (.lst (T.map PV.int))]=some (.lst ((T.map fun t=>((0:Int),t)).map yd)):=
  lcv (qs:=T.map PV.int) rfl rfl (by rw [List.length_map];omega) (by
   rw [List.map_map]
   exact yu _ T fun t _=>⟨[some (.int t)],rfl,rfl,rfl⟩)
 rw [vL,zY (as:=[flV w h F,.lst ((T.map fun t=>((0:Int),t)).map yd)]) (by rw [zU,zU,hlc];rfl) h2];rfl
theorem zjP(X Y:Int->Int)(c0 c:Int):okB 1 (yn X Y c0 c):=zcp (zhR [c,X c - X c0,Y c - Y c0])
theorem zhQ(X Y:Int->Int)(c0:Int)(C:List Int):okB 2 (.lst (C.map (yn X Y c0))):=zjQ fun p hp=>by
 obtain ⟨c,_,rfl⟩:=List.mem_map.mp hp
 exact zjP X Y c0 c
noncomputable def vn:FS:=(yq (yp (zC (fOp yg (zA 1) (fOp yX (fOp vIx (zA 0) (fC (.int 0))) (fC (.int 1)))) (zC (fOp y3 (zA 1) (fOp yX (fOp vIx (zA 0) (fC (.int 0))) (fC (.int 1)))) zI))))
noncomputable def yN:List PV->Option PV:=fnV 2 vn
noncomputable def jF:FS:=(ui 4 (zA 5) (yp (zC (zA 6) (zC (zA 7) zI))))
noncomputable def vU:FS:=(zW (zp 10 (fOp wT (fOp vIx (fOp vIx (zA 4) (zA 3)) (zA 9)) (fOp vIx (fOp vIx (zA 4) (zA 2)) (zA 9))))
 (zfu 8 (fun a b=>a+b) (fOp wU (zA 10) (fOp wT (fOp vIx (zJ yN (zC (zA 0) (zC (zA 3) zI))) (zA 9)) (fOp vIx (zJ yN (zC (zA 0) (zC (zA 2) zI))) (zA 9))))))
noncomputable def kt:FS:=(zW (zp 4 ky)
 (zW (yt (zc (zJ xD (zC (zA 0) (zC (zA 1) zI)))) (xM 3 (zZ (zL 5) (zZ (zL 6) (zZ (zL 7) xN)))) jF)
 (zW (zp 8 (fC (.int 0)))
 (zW (yt (zc (yp (zC (fC (.int 0)) (zC (fC (.int 1)) zI)))) (zL 9) vU)
 (yq (zx (zA 8)))))))
noncomputable def uG:List PV->Option PV:=fnV 11 kt
noncomputable def vX(X Y:Int->Int)(c0 c:Int):PV:=yd (X c - X c0,Y c - Y c0)
theorem zgT(X Y:Int->Int)(c0:Int)(L:List Int):k8 L (vX X Y c0):=fun _ _=>rfl
theorem ziH{L:List Int}{G G':Int->PV}(h:∀ p ∈ L,G p=G' p):dF L G=dF L G':=by
 unfold dF
 rw [List.map_congr_left h]
theorem zeT{w h c:Int}{F:List Int}(w1:1≤w)(w6:w≤6):yN [flV w h F,.int c]=some (.tup [.int (c % (w+1)),.int (c / (w+1))]):=by
 let E:En:=[some (flV w h F),some (.int c)]
 have v0:fOp vIx (zA 0) (fC (.int 0)) E=some (.int w):=zbU rfl
 refine yo (e:=E) E rfl ?_
 unfold vn
 rw [vL,jH,zU,yK,yK,v0,zU,yK,yK,v0]
 show (((yg (.int c) (.int (w+1))).bind fun p=>(((y3 (.int c) (.int (w+1))).bind fun q=>some [q]).map fun ps=>p::ps)).map PV.tup).map (fun p=>Out.rt p E)=_
 rw [yQ (by omega),wN ⟨by omega,by omega⟩];rfl
noncomputable def spD(w:Int)(X Y:Int->Int)(a b:Int):Int:=(X b - X a) * (b % (w+1) - a % (w+1))+(Y b - Y a) * (b / (w+1) - a / (w+1))
theorem ziN{w h:Int}{F:List Int}(fl:IsFloor w h F){c:Int}(hc:c ∈ xY w F):(0≤c % (w+1)/\c % (w+1)≤6)/\0≤c / (w+1)/\c / (w+1)≤6:=by
 obtain ⟨p,hp,hcp⟩:=mem_corF.mp hc
 obtain ⟨x,y,rfl,x0,x1,y0,y1⟩:=zbG fl.w1 (fl.inn p hp) hcp
 obtain ⟨e1,e2⟩:=vy (y:=y) x0 x1
 have:=fl.w6;have:=fl.h6
 rw [e1,e2]
 omega
theorem zit{b:PV->En->Option En}{g:FS}{p:PV}{ps:List PV}{e e1 e2:En}(h1:b p e=some e1)(h2:g e1=some (.nx e2)):xw b g (p::ps) e=xw b g ps e2:=by
 show ((b p e).bind fun e1=>(g e1).bind fun o=>_)=_
 rw [h1,Option.bind_some,h2];rfl
theorem zeb{w h:Int}{F:List Int}{rs cs:List (Int × Nat)}{L:List Int}{G:Int->PV}(S:Strips w h F rs cs)(C:Cross w h F (zm w rs cs) L G){T:List Int}(hT:T.length=rs.length+cs.length){X Y:Int->Int}(sp:Spd w F (zm w rs cs) T X Y){a b:Int}(ha:a ∈ xY w F)(hb:b ∈ xY w F):
  uG [flV w h F,.lst (T.map PV.int),.int a,.int b]=some (.int (spD w X Y a b)):=by
 have fl:=S.fl
 have w1:=fl.w1;have w6:=fl.w6
 have cz:=zaR fl
 obtain ⟨c0,hc0,h4⟩:=jK S C hT sp
 have bda:=ziN fl ha
 have bdb:=ziN fl hb
 have sa:=zeT (h:=h) (F:=F) (c:=a) w1 w6
 have sb:=zeT (h:=h) (F:=F) (c:=b) w1 w6
 unfold spD
 have nd:=zaQ w F
 generalize a % (w+1)=ax at *
 generalize b % (w+1)=bx at *
 generalize a / (w+1)=ay at *
 generalize b / (w+1)=by_ at *
 generalize xY w F=CO at *
 let mk:PV->Option PV->Option PV->Option PV->Option PV->Option PV->Option PV->En:=fun d x5 x6 x7 x8 x9 x10=>[some (flV w h F),some (.lst (T.map PV.int)),some (.int a),some (.int b),some d,x5,x6,x7,x8,x9,x10]
 obtain ⟨e,l1,x5,x6,x7,rfl⟩:=yj (b:=xM 3 (zZ (zL 5) (zZ (zL 6) (zZ (zL 7) xN)))) (g:=jF) (xs:=CO) (hh:=yn X Y c0) (env:=mk (dF [] (vX X Y c0)) none none none none none none) (fun pre e=>∃ x5 x6 x7,e=mk (dF pre (vX X Y c0)) x5 x6 x7 none none none) ⟨none,none,none,rfl⟩ (by
  rintro pre c post e hF ⟨x5,x6,x7,rfl⟩
  have hnin:c ∉ pre:=by
   rw [hF] at nd
   have:=List.nodup_append.mp nd
   exact fun z=>this.2.2 c z c List.mem_cons_self rfl
  have hpl:pre.length≤49:=by
   have:=congrArg List.length hF
   rw [List.length_append] at this;omega
  let A5:=some (PV.int c)
  let A6:=some (PV.int (X c - X c0))
  let A7:=some (PV.int (Y c - Y c0))
  refine ⟨mk (dF pre (vX X Y c0)) A5 A6 A7 none none none,mk (dF (pre++[c]) (vX X Y c0)) A5 A6 A7 none none none,rfl,.inl ?_,_,_,_,rfl⟩
  have v4:zA 4 (mk (dF pre (vX X Y c0)) A5 A6 A7 none none none)=some (dF pre (vX X Y c0)):=rfl
  have v5:zA 5 (mk (dF pre (vX X Y c0)) A5 A6 A7 none none none)=some (.int c):=rfl
  have vt:yp (zC (zA 6) (zC (zA 7) zI)) (mk (dF pre (vX X Y c0)) A5 A6 A7 none none none)=some (vX X Y c0 c):=rfl
  have hput:=zcf (p:=c) (q:=vX X Y c0 c) (zgT X Y c0 pre) rfl (by omega)
  rw [if_neg hnin] at hput
  unfold jF ui
  simp only [v4,v5,vt,Option.bind_some,hput]
  have e3:dF (pre++[c]) (upF (vX X Y c0) c (vX X Y c0 c))=dF (pre++[c]) (vX X Y c0):=ziH fun q _=>by
   unfold upF
   split
   ·rename_i e;rw [e]
   ·rfl
  rw [e3];rfl)
 let E:Int->Option PV->Option PV->En:=fun t x9 x10=>mk (dF CO (vX X Y c0)) x5 x6 x7 (some (.int t)) x9 x10
 have ax_:∀ (t k gb ga kb ka:Int) (x10:Option PV),vIx (vX X Y c0 b) (.int k)=some (.int gb)->vIx (vX X Y c0 a) (.int k)=some (.int ga)->vIx (.tup [.int bx,.int by_]) (.int k)=some (.int kb)->vIx (.tup [.int ax,.int ay]) (.int k)=some (.int ka)->(-(2 ^ 64)<kb - ka/\kb - ka<2 ^ 64)->
   vU (E t (some (.int k)) x10)=some (.nx (E (t+(gb - ga) * (kb - ka)) (some (.int k)) (some (.int (gb - ga))))):=by
  intro t k gb ga kb ka x10 g1 g2 g3 g4 hs
  have b1:∀ x10,fOp vIx (fOp vIx (zA 4) (zA 3)) (zA 9) (E t (some (.int k)) x10)=some (.int gb):=fun x10=>by
   show ((vIx (dF CO (vX X Y c0)) (.int b)).bind fun x=>vIx x (.int k))=_
   rw [zaw hb];exact g1
  have b2:∀ x10,fOp vIx (fOp vIx (zA 4) (zA 2)) (zA 9) (E t (some (.int k)) x10)=some (.int ga):=fun x10=>by
   show ((vIx (dF CO (vX X Y c0)) (.int a)).bind fun x=>vIx x (.int k))=_
   rw [zaw ha];exact g2
  let x':=some (PV.int (gb - ga))
  have b3:fOp vIx (zJ yN (zC (zA 0) (zC (zA 3) zI))) (zA 9) (E t (some (.int k)) x')=some (.int kb):=by
   rw [yK,zY (as:=[flV w h F,.int b]) rfl sb];exact g3
  have b4:fOp vIx (zJ yN (zC (zA 0) (zC (zA 2) zI))) (zA 9) (E t (some (.int k)) x')=some (.int ka):=by
   rw [yK,zY (as:=[flV w h F,.int a]) rfl sa];exact g4
  unfold vU
  rw [zH (e:=E t (some (.int k)) x') (kF (by rw [yK,b1,b2];rfl))]
  have b5:fOp wU (zA 10) (fOp wT (fOp vIx (zJ yN (zC (zA 0) (zC (zA 3) zI))) (zA 9)) (fOp vIx (zJ yN (zC (zA 0) (zC (zA 2) zI))) (zA 9))) (E t (some (.int k)) x')=some (.int ((gb - ga) * (kb - ka))):=by
   rw [yK,yK,b3,b4]
   exact zmH hs
  have v8:zA 8 (E t (some (.int k)) x')=some (.int t):=rfl
  unfold zfu
  rw [v8,b5];rfl
 have l2:xw (zL 9) vU [.int 0,.int 1] (E 0 none none)=some (.nx (E (0+(X b - X c0 - (X a - X c0)) * (bx - ax)+(Y b - Y c0 - (Y a - Y c0)) * (by_ - ay)) (some (.int 1)) (some (.int (Y b - Y c0 - (Y a - Y c0)))))):=by
  rw [zit (e1:=E 0 (some (.int 0)) none) rfl (ax_ 0 0 _ _ _ _ none zbO zbO zbO zbO (by omega))]
  rw [zit (e1:=E (0+(X b - X c0 - (X a - X c0)) * (bx - ax)) (some (.int 1)) (some (.int (X b - X c0 - (X a - X c0))))) rfl (ax_ _ 1 _ _ _ _ _ zdM zdM zdM zdM (by omega))]
  rfl
 have e1:X b - X c0 - (X a - X c0)=X b - X a:=by omega
 have e2:Y b - Y c0 - (Y a - Y c0)=Y b - Y a:=by omega
 rw [e1,e2,Int.zero_add] at l2
 refine yo (e:=E ((X b - X a) * (bx - ax)+(Y b - Y a) * (by_ - ay)) (some (.int 1)) (some (.int (Y b - Y a)))) [some (flV w h F),some (.lst (T.map PV.int)),some (.int a),some (.int b),none,none,none,none,none,none,none] rfl ?_
 unfold kt
 rw [zH (e:=mk (dF [] (vX X Y c0)) none none none none none none) rfl]
 rw [zH (e:=mk (dF CO (vX X Y c0)) x5 x6 x7 none none none) (by
  rw [yZ,xC,zY (as:=[flV w h F,.lst (T.map PV.int)]) rfl h4];exact l1)]
 rw [zH (e:=E 0 none none) rfl]
 rw [zH (e:=E ((X b - X a) * (bx - ax)+(Y b - Y a) * (by_ - ay)) (some (.int 1)) (some (.int (Y b - Y a)))) (by
  rw [yZ];exact l2)]
 rfl
theorem cxy{w p:Int}(w1:1≤w):((p+p / w) % (w+1)=p % w/\(p+p / w) / (w+1)=p / w)/\((p+p / w+1) % (w+1)=p % w+1/\(p+p / w+1) / (w+1)=p / w)/\((p+p / w+w+1) % (w+1)=p % w/\(p+p / w+w+1) / (w+1)=p / w+1)/\((p+p / w+w+1+1) % (w+1)=p % w+1/\(p+p / w+w+1+1) / (w+1)=p / w+1):=by
 have hc:=zcH w p
 unfold cAt at hc
 injection hc with c1 hc
 injection hc with c2 hc
 injection hc with c3 hc
 injection hc with c4 _
 have m0:=Int.emod_nonneg p (show w≠0 by omega)
 have m1:=Int.emod_lt_of_pos p (show 0<w by omega)
 rw [c4,c3,c2,c1]
 have k:=fun (x y:Int) (h0:0≤x) (h1:x≤w)=>And.comm.mp (vy (w:=w) (x:=x) (y:=y) h0 h1)
 exact ⟨⟨(k _ _ m0 (by omega)).1,(k _ _ m0 (by omega)).2⟩,⟨(k _ _ (by omega) (by omega)).1,(k _ _ (by omega) (by omega)).2⟩,⟨(k _ _ m0 (by omega)).1,(k _ _ m0 (by omega)).2⟩,⟨(k _ _ (by omega) (by omega)).1,(k _ _ (by omega) (by omega)).2⟩⟩
noncomputable def jA:FS:=(zW (wG (fT (fOp vLt (zA 1) (zJ wM (zC (zA 0) zI)))) (yq (zx (fOp vIx (zA 0) (zA 1)))) fNx)
 (zW (wG (fT (fOp vEq (zJ wM (zC (zA 0) zI)) (fC (.int 0)))) (yq (fOp yX (fOp wU (fOp wU (zA 1) (zA 1)) (fC (.int 43))) (fC (.int 3)))) fNx)
 (yq (fOp yX (fOp wU (fOp yg (fOp vIx (zA 0) (fOp yg (fOp wU (zA 1) (fC (.int 3))) (zJ wM (zC (zA 0) zI)))) (fC (.int 2147483629))) (fC (.int 39373))) (fOp wU (fOp wU (zA 1) (zA 1)) (fC (.int 7727)))))))
noncomputable def zV:List PV->Option PV:=fnV 2 jA
noncomputable def xt:FS:=(wG (fT (fOp vEq (fOp yg (zA 0) (fC (.int 2))) (fC (.int 0)))) (zW (zf 3 (fOp yg (zA 4) (zA 2)))
 (zp 4 (fOp y3 (zA 4) (zA 2)))) (zW (zp 6 (fOp yg (fOp wU (fOp yX (fOp yX (fOp yg (zA 4) (fC (.int 2147483629))) (fOp wU (fC (.int 7919)) (zA 5))) (fC (.int 1))) (fC (.int 48271))) (fC (.int 2147483647))))
 (zW (zp 7 (fOp yg (fOp wU (zA 6) (fOp yX (fOp yg (zA 6) (fC (.int 65521))) (zA 5))) (fC (.int 2147483629))))
 (zf 3 (fOp yg (fOp y3 (fOp yg (fOp wU (zA 7) (fC (.int 16807))) (fC (.int 2147483563))) (fC (.int 7))) (zA 2))))))
noncomputable def vw:FS:=(zW (zp 3 (wF zI))
 (zW (zp 4 (fOp y3 (zA 0) (fC (.int 2))))
 (zW (yt (vT (zC (zA 1) zI)) (zL 5) xt)
 (yq (zA 3)))))
noncomputable def zy:List PV->Option PV:=fnV 8 vw
noncomputable def zbl:FS:=(wG (fT (fOp vV (zA 6) (zA 2))) (zf 4 (zx (zA 6))) fNx)
noncomputable def xG:FT:=(fT (fOp vGt (zJ wM (zC (zA 4) zI)) (fC (.int 0))))
noncomputable def xo:FS:=(zW (ziy 5 4)
 (wG (fT (fOp xv (zA 5) (zA 3))) (zW (zf 3 (zx (zA 5)))
 (zW (yt (zc (wF (zC (fOp wT (zA 5) (zA 0)) (zC (fOp yX (zA 5) (zA 0)) zI)))) (zL 6) zbl)
 (zW (wG (zbi (fT (fOp vGt (fOp yg (zA 5) (zA 0)) (fC (.int 0)))) (fT (fOp vV (fOp wT (zA 5) (fC (.int 1))) (zA 2)))) (zf 4 (fOp wT (zA 5) (fC (.int 1)))) fNx)
 (wG (zbi (fT (fOp vLt (fOp yg (zA 5) (zA 0)) (fOp wT (zA 0) (fC (.int 1))))) (fT (fOp vV (fOp yX (zA 5) (fC (.int 1))) (zA 2)))) (zf 4 (fOp yX (zA 5) (fC (.int 1)))) fNx)))) fNx))
noncomputable def u9:FS:=(zW (zp 3 (wF zI))
 (zW (zp 4 (fLC (zc (zA 1)) 1 [2] (zL 0) (fT (fOp vV (zA 0) (zA 1))) (zx (zA 0))))
 (zW (fWh xG xo 1000000)
 (yq (zA 3)))))
noncomputable def xa:List PV->Option PV:=fnV 7 u9
noncomputable def wx:FS:=(zW (zp 2 (zJ zV (zC (zA 0) (zC (zA 1) zI))))
 (zW (zp 3 (fOp yX (fC (.int 1)) (fOp yg (zA 2) (fC (.int 6)))))
 (zW (zp 4 (fOp yX (fC (.int 1)) (fOp yg (fOp y3 (zA 2) (fC (.int 6))) (fC (.int 6)))))
 (zW (zp 5 (zfr (vT (zC (fOp wU (zA 3) (zA 4)) zI))))
 (zW (zp 6 (zJ zy (zC (zJ zV (zC (zA 0) (zC (fOp yX (zA 1) (fC (.int 1))) zI))) (zC (fOp wU (zA 3) (zA 4)) (zC (fOp yX (fC (.int 2)) (fOp yg (fOp y3 (zA 2) (fC (.int 36))) (fC (.int 5)))) zI)))))
 (zW (zp 7 (fLC (zc (zA 5)) 1 [6] (zL 0) (fT (fOp vGt (fOp vIx (zA 1) (zA 0)) (fC (.int 0)))) (zx (zA 0))))
 (zW (wG (fT (fOp vEq (zA 7) (wF zI))) (zp 7 (fSl (zA 5) ua (zaH (fC (.int 1))))) fNx)
 (zW (zp 8 (zJ xa (zC (zA 3) (zC (fSl (zA 7) ua (zaH (fC (.int 1)))) (zC (zA 7) zI)))))
 (zW (zp 9 (fLC (zc (zA 5)) 1 [8] (zL 0) (fT (fOp xv (zA 0) (zA 1))) (zx (zA 0))))
 (zW (zp 10 (fLC (zc (zA 9)) 1 [3,4] (zL 0) (fOr (fT (fOp vV (fOp yg (zA 0) (zA 1)) (yp (zC (fC (.int 0)) (zC (fOp wT (zA 1) (fC (.int 1))) zI))))) (fT (fOp vV (fOp y3 (zA 0) (zA 1)) (yp (zC (fC (.int 0)) (zC (fOp wT (zA 2) (fC (.int 1))) zI)))))) (zx (zA 0))))
 (zW (zp 11 (zJ xa (zC (zA 3) (zC (zA 10) (zC (zA 9) zI)))))
 (yq (yp (zC (zx (zA 3)) (zC (zx (zA 4)) (zC (zJ jf (zC (fLC (zc (zA 5)) 1 [11] (zL 0) (fT (fOp xv (zA 0) (zA 1))) (zx (zA 0))) zI)) zI))))))))))))))))
noncomputable def we:List PV->Option PV:=fnV 12 wx
noncomputable def vx:FS:=(zW (zp 3 (zJ zV (zC (zA 0) (zC (zA 1) zI))))
 (zW (zp 4 (zJ zy (zC (zJ zV (zC (zA 0) (zC (fOp yX (zA 1) (fC (.int 1))) zI))) (zC (zJ wM (zC (fOp vIx (zA 2) (fC (.int 2))) zI)) (zC (fOp yX (fC (.int 2)) (fOp yg (zA 3) (fC (.int 6)))) zI)))))
 (zW (zp 5 (fOp yg (fOp y3 (zA 3) (fC (.int 6))) (fC (.int 2))))
 (yq (fLC (zbh (zC (fOp vIx (zA 2) (fC (.int 2))) (zC (zA 4) zI))) 2 [5] (xM 2 (zZ (zL 0) (zZ (zL 1) xN))) (fT (fOp vEq (fOp vGt (zA 1) (fC (.int 0))) (fOp vGt (zA 2) (fC (.int 0))))) (zx (zA 0)))))))
noncomputable def xR:List PV->Option PV:=fnV 6 vx
structure Scr (ns:List Int):Prop where
 len:ns.length≤63
 bits:∀ m ∈ ns,Builtin.Int.intBits m≤1048576
noncomputable abbrev scr(ns:List Int):PV:=.fls (ns.map PV.int)
theorem wP{ns:List Int}(S:Scr ns){k:Int}(k0:0≤k)(k1:k≤1000):∃ n,zV [scr ns,.int k]=some (.int n):=by
 have kk:0≤k * k/\k * k≤1000000:=⟨Int.mul_nonneg k0 k0,by have:=Int.mul_le_mul k1 k1 k0 (by omega:(0:Int)≤1000);omega⟩
 unfold zV fnV jA scr
 by_cases h1:k<(ns.length:Int)
 ·have hj:k.toNat<ns.length:=by omega
  simp [h1,qX,wm k0 h1,List.getElem?_eq_getElem hj]
 ·by_cases h2:ns=[]
  ·simp [h2,Int.not_lt.mpr k0,uD (i:=k) (j:=k) ⟨by omega,by omega⟩,(fun j=>uD (i:=k * k) (j:=j) ⟨by omega,by omega⟩)]
  ·have h2':(0:Int)<(ns.length:Int):=by have:=List.length_pos_iff.mpr h2;omega
   have h3:¬ (ns.length:Int)=0:=by omega
   have hm:0≤k * 3 % (ns.length:Int)/\k * 3 % (ns.length:Int)<ns.length:=⟨Int.emod_nonneg _ (by omega),Int.emod_lt_of_pos _ h2'⟩
   have hj:(k * 3 % (ns.length:Int)).toNat<ns.length:=by omega
   generalize hn:ns[(k * 3 % (ns.length:Int)).toNat]'hj=m
   have q:0≤m % 2147483629/\m % 2147483629<2147483629:=⟨Int.emod_nonneg _ (by decide),Int.emod_lt_of_pos _ (by decide)⟩
   simp [h1,h2,h3,uD (i:=k) (j:=3) ⟨by omega,by omega⟩,uD (i:=k) (j:=k) ⟨by omega,by omega⟩,(fun j=>uD (i:=k * k) (j:=j) ⟨by omega,by omega⟩),yQ h2',qX,wm hm.1 hm.2,List.getElem?_eq_getElem hj,hn,yQ (show (0:Int)<2147483629 by decide),(fun j=>uD (i:=m % 2147483629) (j:=j) ⟨by omega,by omega⟩)]
theorem jP{c n b:Int}(n0:0≤n)(n1:n≤1000)(b1:1≤b)(b2:b≤1000000000):
  ∃ ds:List Int,zy [.int c,.int n,.int b]=some (.lst (ds.map PV.int))/\ds.length=n.toNat/\∀ d ∈ ds,0≤d/\d<b:=by
 unfold zy fnV vw
 have loop:=zkd (b:=zL 5) (g:=xt)
  (ps:=uA 0 n.toNat) (env:=[some (.int c),some (.int n),some (.int b),some (.lst []),some (.int (c / 2)),none,none,none])
  (fun pre e=>∃ (l:Int) (ds:List Int) (x5 x6 x7:Option PV),e=[some (.int c),some (.int n),some (.int b),some (.lst (ds.map PV.int)),some (.int l),x5,x6,x7]/\ds.length=pre.length/\∀ d ∈ ds,0≤d/\d<b)
  ⟨c / 2,[],none,none,none,rfl,rfl,by simp⟩ ?_
 ·obtain ⟨e,h1,l',ds,x5,x6,x7,rfl,h2,h3⟩:=loop
  refine ⟨ds,?_,by rw [h2,ux],h3⟩
  have hn:n<4611686018427387904/\-4611686018427387904≤n:=by omega
  simp [vT,hn,wN (show (0:Int)<2/\(2:Int)<1073741824 by decide),h1]
 ·rintro pre p post e hp ⟨l,ds,x5,x6,x7,rfl,h2,h3⟩
  have hl:(uA 0 n.toNat).length=pre.length+(post.length+1):=by rw [hp];simp
  rw [ux] at hl
  have hj:∃ j:Int,p=.int j/\0≤j/\j≤1000:=by
   have:p ∈ uA 0 n.toNat:=by rw [hp];simp
   rw [zho] at this
   obtain ⟨j,hj,rfl⟩:=List.mem_map.mp this
   obtain ⟨i,hi,rfl⟩:=List.mem_map.mp hj
   exact ⟨i,rfl,by omega,by have:=List.mem_range.mp hi;omega⟩
  obtain ⟨j,rfl,j0,j1⟩:=hj
  have hlen:ds.length<100000:=by omega
  by_cases h0:c % 2=0
  ·refine ⟨_,_,rfl,.inl ?_,l / b,ds++[l % b],some (.int j),x6,x7,rfl,by simp [h2],fun d hd=>?_⟩
   ·simp [xt,yQ (show (0:Int)<2 by decide),h0,yQ (show 0<b by omega),zf,wN (show 0<b/\b<1073741824 by omega),hlen]
   ·rcases List.mem_append.mp hd with hd | hd
    ·exact h3 d hd
    ·rw [List.mem_singleton.mp hd];exact ⟨Int.emod_nonneg _ (by omega),Int.emod_lt_of_pos _ (by omega)⟩
  ·have o1:∀ z:Int,0≤z % 2147483629/\z % 2147483629<2147483629:=fun z=>⟨Int.emod_nonneg _ (by decide),Int.emod_lt_of_pos _ (by decide)⟩
   have o2:∀ z:Int,0≤z % 2147483647/\z % 2147483647<2147483647:=fun z=>⟨Int.emod_nonneg _ (by decide),Int.emod_lt_of_pos _ (by decide)⟩
   have q0:=o1 l
   have q1:=o2 ((l % 2147483629+7919 * j+1) * 48271)
   generalize hz:(l % 2147483629+7919 * j+1) * 48271 % 2147483647=z at q1
   have q2:=o1 (z * (z % 65521+j))
   generalize hy:z * (z % 65521+j) % 2147483629=y at q2
   refine ⟨_,_,rfl,.inl ?_,l,ds++[y * 16807 % 2147483563 / 7 % b],some (.int j),some (.int z),some (.int y),rfl,by simp [h2],fun d hd=>?_⟩
   ·simp [xt,yQ (show (0:Int)<2 by decide),h0,zf,hlen,yQ (show (0:Int)<2147483647 by decide),yQ (show (0:Int)<2147483629 by decide),yQ (show (0:Int)<2147483563 by decide),yQ (show (0:Int)<65521 by decide),
     uD (i:=7919) (j:=j) ⟨by omega,by omega⟩,uD (i:=l % 2147483629+7919 * j+1) (j:=48271) ⟨by omega,by omega⟩,hz,uD (i:=z) (j:=z % 65521+j) ⟨by omega,by omega⟩,hy,uD (i:=y) (j:=16807) ⟨by omega,by omega⟩,
     wN (show (0:Int)<7/\(7:Int)<1073741824 by decide),yQ (show 0<b by omega)]
   ·rcases List.mem_append.mp hd with hd | hd
    ·exact h3 d hd
    ·rw [List.mem_singleton.mp hd];exact ⟨Int.emod_nonneg _ (by omega),Int.emod_lt_of_pos _ (by omega)⟩
noncomputable def zap(w p:Int)(Pl:List Int):List Int:=([p - w,p+w].filter fun q=>decide (q ∈ Pl))++(if 0<p % w/\p - 1 ∈ Pl then [p - 1] else [])++(if p % w<w - 1/\p+1 ∈ Pl then [p+1] else [])
theorem zge{w h p q:Int}{Pl:List Int}(w1:1≤w)(w6:w≤6)(pl:∀ p ∈ Pl,CB.Place w h p)(hp:p ∈ Pl):q ∈ zap w p Pl ↔ Adj w p q/\q ∈ Pl:=by
 have h1:=pl p hp
 unfold zap
 rw [List.mem_append,List.mem_append,List.mem_filter,zdo,zdo]
 simp only [List.mem_cons,List.not_mem_nil,or_false,decide_eq_true_eq]
 unfold Adj
 unfold CB.Place at h1
 constructor
 ·rintro ((⟨h | h,m⟩ | ⟨⟨c,m⟩,rfl⟩) | ⟨⟨c,m⟩,rfl⟩)
  ·exact ⟨.inr (.inr (.inr (by omega))),m⟩
  ·exact ⟨.inr (.inr (.inl h)),m⟩
  ·exact ⟨.inr (.inl ⟨Int.sub_add_cancel p 1,(zdL w1 c).1.symm⟩),m⟩
  ·exact ⟨.inl ⟨rfl,(qo w1 c).1.symm⟩,m⟩
 ·rintro ⟨⟨rfl,c⟩ | ⟨e,c⟩ | rfl | e,m⟩
  ·exact .inr ⟨⟨zcV w1 c,m⟩,rfl⟩
  ·obtain rfl:q=p - 1:=by omega
   exact .inl (.inr ⟨⟨zhj w1 c,m⟩,rfl⟩)
  ·exact .inl (.inl ⟨.inr rfl,m⟩)
  ·exact .inl (.inl ⟨.inl (by omega),m⟩)
theorem zcu(w p:Int)(Pl:List Int):(zap w p Pl).length≤4:=by
 unfold zap
 have:=List.length_filter_le (fun q=>decide (q ∈ Pl)) [p - w,p+w]
 simp only [List.length_append,List.length_cons,List.length_nil] at this ⊢
 split<;>split<;>simp only [List.length_cons,List.length_nil]<;>omega
theorem ziW{t1 t2:FT}{E:En}{fx:FE}{i:Nat}{X:List Int}{q:Int}{a b:Prop}[Decidable a][Decidable b](h1:t1 E=some (decide a))(h2:t2 E=some (decide b))(hi:zA i E=some (.lst (X.map PV.int)))(hE:E.set i (some (.lst (X.map PV.int)))=E)(hx:fx E=some (.int q))(hl:X.length<100000):
  wG (zbi t1 t2) (zf i fx) fNx E=some (.nx (E.set i (some (.lst ((X++if a/\b then [q] else []).map PV.int))))):=by
 rw [yc,zcP,h1,Option.bind_some]
 by_cases ha:a
 ·rw [decide_eq_true ha,if_pos rfl,h2,Option.bind_some]
  by_cases hb:b
  ·rw [decide_eq_true hb,if_pos rfl,if_pos ⟨ha,hb⟩,List.map_append]
   unfold zf
   rw [hi,hx,Option.bind_some,Option.bind_some]
   dsimp only
   rw [if_pos (by rw [List.length_map];exact hl)];rfl
  ·rw [decide_eq_false hb,if_neg Bool.false_ne_true,if_neg fun z=>hb z.2,List.append_nil,hE];rfl
 ·rw [decide_eq_false ha,if_neg Bool.false_ne_true,Option.bind_some,if_neg Bool.false_ne_true,if_neg fun z=>ha z.1,List.append_nil,hE];rfl
theorem zfz{w h:Int}{S Pl:List Int}(w1:1≤w)(w6:w≤6)(pl:∀ p ∈ Pl,CB.Place w h p)(sz:S.length≤100)(pz:Pl.length≤100):
  ∃ L:List Int,xa [.int w,.lst (S.map PV.int),.lst (Pl.map PV.int)]=some (.lst (L.map PV.int))/\L.Nodup/\∀ p,p ∈ L ↔ Reach (Adj w) (· ∈ Pl) (· ∈ S) p:=by
 have hinit:yk (zL 0) (fT (fOp vV (zA 0) (zA 1))) (zx (zA 0)) (S.map PV.int) [none,some (.lst (Pl.map PV.int))]=some ((S.filter fun n=>decide (n ∈ Pl)).map PV.int):=
  uF (fun n=>decide (n ∈ Pl)) PV.int S fun n _=>⟨_,rfl,by simp,fun _=>by simp⟩
 have fz:(S.filter fun n=>decide (n ∈ Pl)).length≤100:=Nat.le_trans (List.length_filter_le _ _) sz
 let mk:List Int->List Int->Option PV->Option PV->En:=fun L ws x y=>[some (.int w),some (.lst (S.map PV.int)),some (.lst (Pl.map PV.int)),some (.lst (L.map PV.int)),some (.lst (ws.map PV.int)),x,y]
 have loop:=zbQ (t:=xG) (g:=xo) (fun e=>∃ L ws x y,e=mk L ws x y/\Dfs (Adj w) (· ∈ Pl) (· ∈ S) L ws/\ws.length≤100+4 * L.length)
  (fun e=>match e with | [_,_,_,some (.lst ls),some (.lst ws),_,_]=>5 * (Pl.length - ls.length)+ws.length | _=>0) ?_ 1000000 (mk [] (S.filter fun n=>decide (n ∈ Pl)) none none)
  ⟨[],_,none,none,rfl,Dfs.init fun q=>by simp [List.mem_filter],by simpa using fz⟩ (by simp [mk];omega)
 ·obtain ⟨e,h1,⟨L,ws,x,y,rfl,df,lz⟩,h2⟩:=loop
  have hw:ws=[]:=by
   cases ws with
   | nil=>rfl
   | cons a r=>simp [xG,mk] at h2
  subst hw
  refine ⟨L,?_,df.nd,df.done⟩
  have h1':fWh xG xo 1000000 [some (.int w),some (.lst (S.map PV.int)),some (.lst (Pl.map PV.int)),some (.lst []),some (.lst ((S.filter fun n=>decide (n ∈ Pl)).map PV.int)),none,none]=some (.nx (mk L [] x y)):=h1
  have hS:S.length≤100000:=by omega
  simp only [xa,fnV,u9,zke,zaW,zlS,zeL,zdN,xC,ug,vL,List.length_cons,List.length_nil,List.map_cons,List.map_nil]
  simp [cE,hS,hinit,h1',mk]
 ·rintro e ⟨L,ws,x,y,rfl,df,lz⟩
  have Lz:L.length≤Pl.length:=zX _ _ df.nd fun p hp=>(df.sound p hp).inS
  by_cases hw:ws=[]
  ·subst hw;exact .inl (by simp [xG,mk])
  ·obtain ⟨ws',p,rfl⟩:∃ ws' p,ws=ws'++[p]:=⟨ws.dropLast,ws.getLast hw,(List.dropLast_concat_getLast _).symm⟩
   have hp:p ∈ Pl:=(df.soundW p (by simp)).inS
   refine .inr ⟨by simp [xG,mk],?_⟩
   simp only [List.length_append,List.length_singleton] at lz
   by_cases hL:p ∈ L
   ·refine ⟨mk L ws' (some (.int p)) y,.inl ?_,⟨L,ws',_,_,rfl,df.old hL,by omega⟩,by simp [mk]⟩
    simp [xo,mk,ziy,hL]
   ·have hbl:=zcu w p Pl
    have hnew:=df.new (nbs:=zap w p Pl) hL fun q=>zge w1 w6 pl hp
    have hlL:=zX _ _ hnew.nd fun q hq=>(hnew.sound q hq).inS
    simp only [List.length_append,List.length_singleton] at hlL
    have hLz:L.length<100000:=by omega
    have hwz:ws'.length<1000:=by omega
    have hmod:=yQ (i:=p) (show 0<w by omega)
    obtain ⟨y1,l1⟩:=jv (t:=fT (fOp vV (zA 6) (zA 2))) 4 6 (fun acc z=>mk (L++[p]) acc (some (.int p)) z) (fun n=>decide (n ∈ Pl)) (fun _ _ _=>rfl) (fun _ _ _=>rfl) (fun _ _=>rfl) (fun _ _=>rfl) [p - w,p+w] ws' y
     (fun n _ acc=>by simp [mk]) (by simp only [List.length_cons,List.length_nil];omega)
    refine ⟨mk (L++[p]) (ws'++zap w p Pl) (some (.int p)) y1,.inl ?_,⟨_,_,_,_,rfl,hnew,by simp only [List.length_append,List.length_singleton];omega⟩,by simp [mk];omega⟩
    unfold xo
    rw [zH (e:=mk L ws' (some (.int p)) y) (by simp [mk,ziy])]
    have ht:fT (fOp xv (zA 5) (zA 3)) (mk L ws' (some (.int p)) y)=some true:=by simp [mk,hL]
    rw [yc,ht,Option.bind_some,if_pos rfl]
    rw [zH (e:=mk (L++[p]) ws' (some (.int p)) y) (by simp [mk,zf,hLz])]
    simp only [List.map_cons,List.map_nil] at l1
    rw [zH (e:=mk (L++[p]) (ws'++[p - w,p+w].filter fun n=>decide (n ∈ Pl)) (some (.int p)) y1) (by
     rw [yZ]
     have:zc (wF (zC (fOp wT (zA 5) (zA 0)) (zC (fOp yX (zA 5) (zA 0)) zI))) (mk (L++[p]) ws' (some (.int p)) y)=some [.int (p - w),.int (p+w)]:=by simp [mk]
     rw [this,Option.bind_some]
     exact l1)]
    have fl:=List.length_filter_le (fun n=>decide (n ∈ Pl)) [p - w,p+w]
    simp only [List.length_cons,List.length_nil] at fl
    unfold zap
    generalize ([p - w,p+w].filter fun n=>decide (n ∈ Pl))=fs at fl
    rw [← List.append_assoc,← List.append_assoc]
    have hA:(ws'++fs++if 0<p % w/\p - 1 ∈ Pl then [p - 1] else []).length<100000:=by
     rw [List.length_append,List.length_append]
     split<;>simp only [List.length_cons,List.length_nil]<;>omega
    rw [zH (e:=mk (L++[p]) (ws'++fs++if 0<p % w/\p - 1 ∈ Pl then [p - 1] else []) (some (.int p)) y1) (ziW (i:=4) (X:=ws'++fs) (by simp [mk,hmod]) (by simp [mk]) rfl rfl rfl (by rw [List.length_append];omega))]
    exact ziW (i:=4) (by simp [mk,hmod]) (by simp [mk]) rfl rfl rfl hA
theorem ji{f:FE}{env:En}{i:Nat}{p:PV}(h:f env=some p):zp i f env=some (.nx (env.set i (some p))):=by rw [zaW,h];rfl
theorem zfg{E E':En}{j n:Nat}{js:List Nat}{X:List Int}{R:List PV}{b:PV->En->Option En}{t:FT}{f:FE}(hX:zA j E=some (.lst (X.map PV.int)))(hce:cE n js E=E')(hl:X.length≤100000)(hc:yk b t f (X.map PV.int) E'=some R):fLC (zc (zA j)) n js b t f E=some (.lst R):=by
 rw [zdN,xC,hX,Option.bind_some,zjt,Option.bind_some,if_pos (by rw [List.length_map];exact hl),hce,hc];rfl
theorem zdX(F:List Int):jf [.lst (F.map PV.int)]=some (.tup (F.map PV.int)):=by simp
theorem znB{w h:Int}(w1:1≤w)(w6:w≤6)(h1:1≤h)(h6:h≤6):1≤w * h/\w * h≤36:=by
 have h2:w * h≤6 * 6:=Int.mul_le_mul w6 h6 (by omega) (by omega)
 exact ⟨Int.mul_pos (by omega) (by omega),h2⟩
theorem zeh(w h:Int):uA 0 (w * h).toNat=(zi w h).map PV.int:=by rw [zho];rfl
theorem zek(w h:Int):(zi w h).length=(w * h).toNat:=by simp [zi]
theorem ziv{ns:List Int}(S:Scr ns){k:Int}(k0:0≤k)(k1:k≤900):∃ w h F,we [scr ns,.int k]=some (flV w h F)/\IsFloor w h F:=by
 obtain ⟨c,hc⟩:=wP S k0 (show k≤1000 by omega)
 obtain ⟨c',hc'⟩:=wP S (show 0≤k+1 by omega) (show k+1≤1000 by omega)
 have m6:∀ z:Int,0≤z % 6/\z % 6<6:=fun z=>⟨Int.emod_nonneg _ (by decide),Int.emod_lt_of_pos _ (by decide)⟩
 have q1:=m6 c
 have q2:=m6 (c / 6)
 have q3:0≤c / 36 % 5/\c / 36 % 5<5:=⟨Int.emod_nonneg _ (by decide),Int.emod_lt_of_pos _ (by decide)⟩
 generalize hw:1+c % 6=w
 generalize hh:1+c / 6 % 6=h
 have w1:1≤w:=by omega
 have w6:w≤6:=by omega
 have h1:1≤h:=by omega
 have h6:h≤6:=by omega
 have wh:=znB w1 w6 h1 h6
 have hm:=uD (i:=w) (j:=h) ⟨by omega,by omega⟩
 obtain ⟨ds,e1,dl,e3⟩:=jP (c:=c') (show 0≤w * h by omega) (by omega) (show 1≤2+c / 36 % 5 by omega) (by omega)
 have hpl:=zek w h
 have c1:∀ x,yk (zL 0) (fT (fOp vGt (fOp vIx (zA 1) (zA 0)) (fC (.int 0)))) (zx (zA 0)) ((zi w h).map PV.int) [x,some (.lst (ds.map PV.int))]=some (((zi w h).filter fun n=>decide (0<ds.getD n.toNat 0)).map PV.int):=fun x=>
  uF (fun n=>decide (0<ds.getD n.toNat 0)) PV.int _ fun n hn=>by
   have hp:=mem_places.mp hn
   unfold CB.Place at hp
   have hj:n.toNat<ds.length:=by omega
   have hg:atI (ds.map PV.int) n=some (.int (ds.getD n.toNat 0)):=by
    rw [qX,wm hp.1 (by omega),List.getElem?_eq_getElem hj]
    simp [List.getD,List.getElem?_eq_getElem hj]
   exact ⟨_,rfl,by simp [hg],fun _=>by simp⟩
 obtain ⟨f0,fr,hfr⟩:∃ f0 fr,zi w h=f0::fr:=by
  cases hq:zi w h with
  | nil=>rw [hq] at hpl;simp at hpl;omega
  | cons a r=>exact ⟨a,r,rfl⟩
 have hf0:CB.Place w h f0:=mem_places.mp (by rw [hfr];simp)
 obtain ⟨so,hso,sn,spl⟩:∃ so:List Int,(if ((zi w h).filter fun n=>decide (0<ds.getD n.toNat 0))=[] then [f0] else (zi w h).filter fun n=>decide (0<ds.getD n.toNat 0))=so/\so≠[]/\(∀ p ∈ so,CB.Place w h p)/\so.length≤36:=by
  refine ⟨_,rfl,?_⟩
  split
  ·exact ⟨by simp,fun p hp=>by rw [List.mem_singleton.mp hp];exact hf0,by simp⟩
  ·rename_i hn
   exact ⟨hn,fun p hp=>mem_places.mp (List.mem_filter.mp hp).1,Nat.le_trans (List.length_filter_le _ _) (by omega)⟩
 obtain ⟨x0,sr,rfl⟩:∃ x0 sr,so=x0::sr:=by
  cases so with
  | nil=>exact absurd rfl sn
  | cons a r=>exact ⟨a,r,rfl⟩
 obtain ⟨L7,f1,f2,f3⟩:=zfz (w:=w) (h:=h) (S:=[x0]) (Pl:=x0::sr) w1 w6 spl.1 (by simp) (by omega)
 have mem7:∀ p,p ∈ L7 ↔ Reach (Adj w) (· ∈ x0::sr) (·=x0) p:=fun p=>by rw [f3 p];exact ⟨fun r=>r.mono (fun q z s=>.start (List.mem_singleton.mp z) s) fun q r=>r.inS,fun r=>r.mono (fun q z s=>.start (List.mem_singleton.mpr z) s) fun q r=>r.inS⟩
 have c2:∀ x,yk (zL 0) (fT (fOp xv (zA 0) (zA 1))) (zx (zA 0)) ((zi w h).map PV.int) [x,some (.lst (L7.map PV.int))]=some (((zi w h).filter fun n=>!decide (n ∈ L7)).map PV.int):=fun x=>
  uF (fun n=>!decide (n ∈ L7)) PV.int _ fun n _=>⟨_,rfl,by simp,fun _=>by simp⟩
 have hbl:=List.length_filter_le (fun n=>!decide (n ∈ L7)) (zi w h)
 have mem:∀ q,q ∈ (zi w h).filter (fun n=>!decide (n ∈ L7)) ↔ CB.Place w h q/\q ∉ L7:=fun q=>by rw [List.mem_filter,mem_places];simp
 generalize hbare:((zi w h).filter fun n=>!decide (n ∈ L7))=bare at c2 hbl mem
 have hd:=fun x=>wN (i:=x) (show 0<w/\w<1073741824 by omega)
 have hmod:=fun x=>yQ (i:=x) (show 0<w by omega)
 have c3:∀ x,yk (zL 0) (fOr (fT (fOp vV (fOp yg (zA 0) (zA 1)) (yp (zC (fC (.int 0)) (zC (fOp wT (zA 1) (fC (.int 1))) zI))))) (fT (fOp vV (fOp y3 (zA 0) (zA 1)) (yp (zC (fC (.int 0)) (zC (fOp wT (zA 2) (fC (.int 1))) zI)))))) (zx (zA 0)) (bare.map PV.int) [x,some (.int w),some (.int h)]=some ((bare.filter fun n=>decide (n % w=0∨n % w=w - 1) || decide (n / w=0∨n / w=h - 1)).map PV.int):=fun x=>
  uF (fun n=>decide (n % w=0∨n % w=w - 1) || decide (n / w=0∨n / w=h - 1)) PV.int _ fun n _=>⟨_,rfl,by by_cases c:n % w=0∨n % w=w - 1<;>simp [hd,hmod,c],fun _=>by simp⟩
 have hrl:=List.length_filter_le (fun n=>decide (n % w=0∨n % w=w - 1) || decide (n / w=0∨n / w=h - 1)) bare
 obtain ⟨L8,g1,g2,g3⟩:=zfz (w:=w) (h:=h) (S:=bare.filter fun n=>decide (n % w=0∨n % w=w - 1) || decide (n / w=0∨n / w=h - 1)) (Pl:=bare) w1 w6 (fun p hp=>((mem p).mp hp).1) (by omega) (by omega)
 have rim:∀ q,q ∈ (bare.filter fun n=>decide (n % w=0∨n % w=w - 1) || decide (n / w=0∨n / w=h - 1)) ↔ (CB.Place w h q/\q ∉ L7)/\Rim w h q:=fun q=>by
  rw [List.mem_filter,mem]
  unfold Rim
  simp only [Bool.or_eq_true,decide_eq_true_eq,or_assoc]
 generalize (bare.filter fun n=>decide (n % w=0∨n % w=w - 1) || decide (n / w=0∨n / w=h - 1))=rims at c3 g1 g3 rim
 have c4:∀ x,yk (zL 0) (fT (fOp xv (zA 0) (zA 1))) (zx (zA 0)) ((zi w h).map PV.int) [x,some (.lst (L8.map PV.int))]=some (((zi w h).filter fun n=>!decide (n ∈ L8)).map PV.int):=fun x=>
  uF (fun n=>!decide (n ∈ L8)) PV.int _ fun n _=>⟨_,rfl,by simp,fun _=>by simp⟩
 refine ⟨w,h,(zi w h).filter fun n=>!decide (n ∈ L8),?_,?_⟩
 ·have hb:w * h<4611686018427387904/\-4611686018427387904≤w * h:=by omega
  have hpl':(zi w h).length≤100000:=by omega
  have hbl':bare.length≤100000:=by omega
  have hsl:∀ (a:Int) (r:List Int),vSl (.lst ((a::r).map PV.int)) none (some 1)=some (.lst ([a].map PV.int)):=fun a r=>by
   simp only [vSl,j2,if_true,znd];rfl
  let mk:Option PV->Option PV->Option PV->Option PV->Option PV->Option PV->Option PV->Option PV->Option PV->Option PV->En:=fun x2 x3 x4 x5 x6 x7 x8 x9 x10 x11=>[some (scr ns),some (.int k),x2,x3,x4,x5,x6,x7,x8,x9,x10,x11]
  let C:=some (PV.int c)
  let W:=some (PV.int w)
  let H:=some (PV.int h)
  let V:=some (PV.lst ((zi w h).map PV.int))
  let D:=some (PV.lst (ds.map PV.int))
  suffices hz:∃ e,wx (mk none none none none none none none none none none)=some (.rt (flV w h ((zi w h).filter fun n=>!decide (n ∈ L8))) e) by
   obtain ⟨e,hz⟩:=hz
   exact yo _ rfl hz
  unfold wx
  rw [zH (e:=mk C none none none none none none none none none) (yB (as:=[scr ns,.int k]) rfl hc)]
  rw [zH (e:=mk C W none none none none none none none none) (ji (by
   show ((yg (.int c) (.int 6)).bind fun y=>yX (.int 1) y)=_
   rw [yQ (by decide),← hw];rfl))]
  rw [zH (e:=mk C W H none none none none none none none) (ji (by
   show (((y3 (.int c) (.int 6)).bind fun x=>yg x (.int 6)).bind fun y=>yX (.int 1) y)=_
   rw [wN (by decide),Option.bind_some,yQ (by decide),← hh];rfl))]
  rw [zH (e:=mk C W H V none none none none none none) (ji (by
   have hr:vT (zC (fOp wU (zA 3) (zA 4)) zI) (mk C W H none none none none none none none)=some (uA 0 (w * h).toNat):=zcd (j:=w * h) (by
    show ((wU (.int w) (.int h)).bind fun p=>some [p])=_
    rw [hm];rfl) (by omega) (by omega)
   rw [zkn,hr,zeh,Option.bind_some,if_pos (by rw [List.length_map];exact hpl')]))]
  rw [zH (e:=mk C W H V D none none none none none) (by
   refine yB (as:=[.int c',.int (w * h),.int (2+c / 36 % 5)]) ?_ e1
   have a2:fOp wU (zA 3) (zA 4) (mk C W H V none none none none none none)=some (.int (w * h)):=hm
   have a3:fOp yX (fC (.int 2)) (fOp yg (fOp y3 (zA 2) (fC (.int 36))) (fC (.int 5))) (mk C W H V none none none none none none)=some (.int (2+c / 36 % 5)):=by
    show (((y3 (.int c) (.int 36)).bind fun x=>yg x (.int 5)).bind fun y=>yX (.int 2) y)=_
    rw [wN (by decide),Option.bind_some,yQ (by decide)];rfl
   rw [zU,zY (as:=[scr ns,.int (k+1)]) rfl hc',zU,a2,zU,a3];rfl)]
  rw [zH (e:=mk C W H V D (some (.lst (((zi w h).filter fun n=>decide (0<ds.getD n.toNat 0)).map PV.int))) none none none none) (ji (zfg rfl rfl hpl' (c1 none)))]
  rw [zH (e:=mk C W H V D (some (.lst ((x0::sr).map PV.int))) none none none none) (by
   rw [← hso]
   have hs0:=hsl f0 fr
   rw [← hfr] at hs0
   generalize ((zi w h).filter fun n=>decide (0<ds.getD n.toNat 0))=so
   have ht:fT (fOp vEq (zA 7) (wF zI)) (mk C W H V D (some (.lst (so.map PV.int))) none none none none)=some (decide (so=[])):=by
    show (vEq (.lst (so.map PV.int)) (.lst [])).bind wS=_
    rw [zlH];rfl
   rw [yc,ht,Option.bind_some]
   by_cases h9:so=[]
   ·rw [decide_eq_true h9,if_pos rfl,if_pos h9]
    exact ji hs0
   ·rw [decide_eq_false h9,if_neg Bool.false_ne_true,if_neg h9];rfl)]
  rw [zH (e:=mk C W H V D (some (.lst ((x0::sr).map PV.int))) (some (.lst (L7.map PV.int))) none none none) (by
   refine yB (as:=[.int w,.lst ([x0].map PV.int),.lst ((x0::sr).map PV.int)]) ?_ f1
   have hsx:fSl (zA 7) ua (zaH (fC (.int 1))) (mk C W H V D (some (.lst ((x0::sr).map PV.int))) none none none none)=some (.lst ([x0].map PV.int)):=hsl x0 sr
   rw [zU,zU,hsx,zU];rfl)]
  rw [zH (e:=mk C W H V D (some (.lst ((x0::sr).map PV.int))) (some (.lst (L7.map PV.int))) (some (.lst (bare.map PV.int))) none none) (ji (zfg rfl rfl hpl' (c2 none)))]
  rw [zH (e:=mk C W H V D (some (.lst ((x0::sr).map PV.int))) (some (.lst (L7.map PV.int))) (some (.lst (bare.map PV.int))) (some (.lst (rims.map PV.int))) none) (ji (zfg rfl rfl hbl' (c3 none)))]
  rw [zH (e:=mk C W H V D (some (.lst ((x0::sr).map PV.int))) (some (.lst (L7.map PV.int))) (some (.lst (bare.map PV.int))) (some (.lst (rims.map PV.int))) (some (.lst (L8.map PV.int)))) (yB (as:=[.int w,.lst (rims.map PV.int),.lst (bare.map PV.int)]) rfl g1)]
  have l12:=zfg (E:=mk C W H V D (some (.lst ((x0::sr).map PV.int))) (some (.lst (L7.map PV.int))) (some (.lst (bare.map PV.int))) (some (.lst (rims.map PV.int))) (some (.lst (L8.map PV.int)))) (j:=5) (n:=1) (js:=[11]) rfl rfl hpl' (c4 none)
  generalize ((zi w h).filter fun n=>!decide (n ∈ L8))=F at l12
  exact ⟨_,by
   rw [vL,jH,zU,zU,zU,zY (as:=[.lst (F.map PV.int)]) (by rw [zU,l12];rfl) (zdX F)];rfl⟩
 ·refine zlF (L:=(· ∈ L7)) (O:=(· ∈ L8)) (a:=x0) w1 w6 h1 h6 (fun p hp=>spl.1 p ((mem7 p).mp hp).inS) ((mem7 x0).mpr (.start rfl List.mem_cons_self)) (fun p hp=>?_) (fun p=>?_)
  ·exact ((mem7 p).mp hp).mono (fun q e s=>.start e ((mem7 q).mpr (.start e s))) fun q r=>(mem7 q).mpr r
  ·rw [g3 p]
   exact ⟨fun r=>r.mono (fun q a s=>.start ((rim q).mp a).2 ((mem q).mp s)) fun q r=>(mem q).mp r.inS,fun r=>r.mono (fun q a s=>.start ((rim q).mpr ⟨s,a⟩) ((mem q).mpr s)) fun q r=>(mem q).mpr r.inS⟩
theorem zlJ(a b:Bool):eqP (.bl a) (.bl b)=decide (a=b):=by cases a<;>cases b<;>rfl
theorem zmX(a b:Bool):vEq (.bl a) (.bl b)=some (.bl (decide (a=b))):=by
 simp only [vEq,(zcs a).ok (by decide),(zcs b).ok (by decide),Bool.and_self,if_true,zlJ]
theorem zgE{ns:List Int}(S:Scr ns){k:Int}(k0:0≤k)(k1:k≤900){w h:Int}{F:List Int}(hl:F.length≤36):∃ B:List Int,xR [scr ns,.int k,flV w h F]=some (.lst (B.map PV.int))/\B.Sublist F:=by
 obtain ⟨c,hc⟩:=wP S k0 (show k≤1000 by omega)
 obtain ⟨c',hc'⟩:=wP S (show 0≤k+1 by omega) (show k+1≤1000 by omega)
 have q1:0≤c % 6/\c % 6<6:=⟨Int.emod_nonneg _ (by decide),Int.emod_lt_of_pos _ (by decide)⟩
 obtain ⟨ds,e1,dl,e3⟩:=jP (c:=c') (n:=(F.length:Int)) (b:=2+c % 6) (by omega) (by omega) (by omega) (by omega)
 have dl':ds.length=F.length:=by omega
 generalize hy:c / 6 % 2=y
 refine ⟨((F.zip ds).filter fun z=>decide (decide (0<z.2)=decide (0<y))).map (·.1),?_,?_⟩
 ·have hz:(List.zip (F.map PV.int) (ds.map PV.int)).map (fun z=>PV.tup [z.1,z.2])=(F.zip ds).map fun z=>PV.tup [.int z.1,.int z.2]:=by
   rw [List.zip_map,List.map_map];rfl
  have hcomp:yk (xM 2 (zZ (zL 0) (zZ (zL 1) xN))) (fT (fOp vEq (fOp vGt (zA 1) (fC (.int 0))) (fOp vGt (zA 2) (fC (.int 0))))) (zx (zA 0)) ((F.zip ds).map fun z=>PV.tup [.int z.1,.int z.2]) [none,none,some (.int y)]=some (((F.zip ds).filter fun z=>decide (decide (0<z.2)=decide (0<y))).map fun z=>PV.int z.1):=
   k6 _ _ _ fun z _=>⟨[some (.int z.1),some (.int z.2),some (.int y)],by simp [xM,zZ,xN],by simp [zmX],fun _=>by simp⟩
  have hzl:((F.zip ds).map fun z=>PV.tup [.int z.1,.int z.2]).length≤100000:=by rw [List.length_map,List.length_zip];omega
  have hargs:zC (zJ zV (zC (zA 0) (zC (fOp yX (zA 1) (fC (.int 1))) zI))) (zC (zJ wM (zC (fOp vIx (zA 2) (fC (.int 2))) zI)) (zC (fOp yX (fC (.int 2)) (fOp yg (zA 3) (fC (.int 6)))) zI)) [some (scr ns),some (.int k),some (flV w h F),some (.int c),none,none]=some [.int c',.int (F.length:Int),.int (2+c % 6)]:=by
   simp [hc',yQ (show (0:Int)<6 by decide)]
  unfold xR fnV vx
  rw [zH (e:=[some (scr ns),some (.int k),some (flV w h F),some (.int c),none,none]) (by simp [hc])]
  rw [zH (e:=[some (scr ns),some (.int k),some (flV w h F),some (.int c),some (.lst (ds.map PV.int)),none]) (by rw [zaW,zcO,hargs,Option.bind_some,e1];rfl)]
  rw [zH (e:=[some (scr ns),some (.int k),some (flV w h F),some (.int c),some (.lst (ds.map PV.int)),some (.int y)]) (by simp [yQ (show (0:Int)<2 by decide),wN (show (0:Int)<6/\(6:Int)<1073741824 by decide),hy])]
  have hsrc:zbh (zC (fOp vIx (zA 2) (fC (.int 2))) (zC (zA 4) zI)) [some (scr ns),some (.int k),some (flV w h F),some (.int c),some (.lst (ds.map PV.int)),some (.int y)]=some ((F.zip ds).map fun z=>PV.tup [.int z.1,.int z.2]):=by
   rw [zcM,← hz];simp
  have hce:cE 2 [5] [some (scr ns),some (.int k),some (flV w h F),some (.int c),some (.lst (ds.map PV.int)),some (.int y)]=[none,none,some (.int y)]:=rfl
  rw [vL,zdN,hsrc,Option.bind_some,if_pos hzl,hce,hcomp]
  simp [List.map_map,Function.comp_def]
 ·have h1:((F.zip ds).filter fun z=>decide (decide (0<z.2)=decide (0<y))).Sublist (F.zip ds):=List.filter_sublist
  have h2:=h1.map (·.1)
  rwa [List.map_fst_zip (by omega)] at h2
noncomputable def wR:FS:=(wG (fT (fOp xv (zA 7) (zA 3))) (zW (wG (fT (fOp vEq (fOp vIx (zA 4) (fOp wU (fC (.int 2)) (zA 6))) (fC (.int 1)))) (zf 5 (yp (zC (zx (zA 7)) (zC (fC (.str "falling")) zI)))) fNx)
 (wG (fT (fOp vEq (fOp vIx (zA 4) (fOp yX (fOp wU (fC (.int 2)) (zA 6)) (fC (.int 1)))) (fC (.int 1)))) (zf 5 (yp (zC (zx (zA 7)) (zC (fC (.str "rising")) zI)))) fNx)) fNx)
noncomputable def uX:FS:=(zW (zp 4 (zJ zy (zC (zJ zV (zC (zA 0) (zC (zA 1) zI))) (zC (fOp wU (fC (.int 2)) (zJ wM (zC (fOp vIx (zA 2) (fC (.int 2))) zI))) (zC (fOp yX (fC (.int 3)) (fOp yg (zJ zV (zC (zA 0) (zC (fOp yX (zA 1) (fC (.int 1))) zI))) (fC (.int 4)))) zI)))))
 (zW (zp 5 (wF zI))
 (zW (yt (jD (zC (fOp vIx (zA 2) (fC (.int 2))) zI)) (xM 2 (zZ (zL 6) (zZ (zL 7) xN))) wR)
 (yq (zA 5)))))
noncomputable def wc:List PV->Option PV:=fnV 8 uX
noncomputable def vp:FS:=(zW (zp 3 (fOp wT (fOp vIx (zA 1) (fOp vIx (zA 0) (fC (.int 1)))) (fOp vIx (zA 1) (fOp vIx (zA 0) (fC (.int 0))))))
 (yq (fIf (fT (fOp vEq (zA 2) (fC (.str "rising")))) (zx (zA 3)) (fUn kC (zA 3)))))
noncomputable def zg:List PV->Option PV:=fnV 4 vp
noncomputable def wa:FS:=(wG (fT (fOp vNe (zJ zg (zC (fOp vIx (zA 4) (zA 5)) (zC (zA 3) (zC (fC (.str "rising")) zI)))) (fC (.int 0)))) (yq (yp (zC (fC (.str "brace")) (zC (zx (zA 5)) zI)))) fNx)
noncomputable def wZ:FS:=(wG (fT (fOp vGt (zJ zg (zC (fOp vIx (zA 4) (zA 5)) (zC (zA 3) (zC (zA 6) zI)))) (fC (.int 0)))) (yq (yp (zC (fC (.str "rope")) (zC (zx (zA 5)) (zC (zx (zA 6)) zI))))) fNx)
noncomputable def u7:FS:=(zW (zp 4 (zJ yH (zC (zA 0) zI)))
 (zW (yt (zc (zA 1)) (zL 5) wa)
 (zW (yt (zc (zA 2)) (xM 2 (zZ (zL 5) (zZ (zL 6) xN))) wZ)
 (yq (fC .non)))))
noncomputable def yR:List PV->Option PV:=fnV 7 u7
noncomputable def zcz:FS:=(yq (fOp vLt (zJ zg (zC (zJ wA (zC (zA 0) (zC (fOp vIx (zA 2) (fC (.int 0))) zI))) (zC (zA 1) (zC (fOp vIx (zA 2) (fC (.int 1))) zI)))) (fC (.int 0))))
noncomputable def yD:List PV->Option PV:=fnV 3 zcz
noncomputable def wv:FS:=(zW (zgo (xM 2 (zZ (zL 6) (zZ (zL 7) xN))) (zJ yy (zC (zA 1) (zC (zA 5) zI))))
 (zp 4 (fOp yX (zA 4) (wF (zC (yp (zC (zA 6) (zC (zA 7) zI))) (zC (yp (zC (zA 7) (zC (zA 6) zI))) zI))))))
noncomputable def wu:FS:=(zW (zgo (xM 2 (zZ (zL 6) (zZ (zL 7) xN))) (zJ yy (zC (zA 1) (zC (zA 5) zI))))
 (zf 4 (zx (fOp vIx (wF (zC (yp (zC (zA 6) (zC (zA 7) zI))) (zC (yp (zC (zA 7) (zC (zA 6) zI))) zI))) (zJ zfN (zC (fOp vEq (zA 8) (fC (.str "rising"))) zI))))))
noncomputable def wt:FS:=(ui 0 (zA 11) (zJ zgO (zC (fOp vIx (zA 0) (zA 11)) (zC (fOp vIx (zA 0) (zA 10)) zI))))
noncomputable def xr:FS:=(yt (zc (zA 4)) (xM 2 (zZ (zL 10) (zZ (zL 11) xN))) wt)
noncomputable def vv:FS:=(zW (zp 4 (wF zI))
 (zW (yt (zc (zA 2)) (zL 5) wv)
 (zW (yt (zc (zA 3)) (xM 2 (zZ (zL 5) (zZ (zL 8) xN))) wu)
 (zft (zW (yt (vT (zC (zJ wM (zC (zA 1) zI)) zI)) (zL 9) xr)
 (zkG 0))))))
noncomputable def wI:List PV->Option PV:=fnV 12 vv
noncomputable def vR:FS:=(zW (zp 5 (zJ zV (zC (zA 0) (zC (zA 1) zI))))
 (zW (zp 6 (fOp vIx (wF (zC (fC (.int 2)) (zC (fC (.int 5)) (zC (fC (.int 99999)) zI)))) (fOp yg (zA 5) (fC (.int 3)))))
 (zW (zp 7 (fLC (zc (zJ zy (zC (zJ zV (zC (zA 0) (zC (fOp yX (zA 1) (fC (.int 1))) zI))) (zC (zJ wM (zC (zA 2) zI)) (zC (zA 6) zI))))) 1 [6] (zL 0) wo (fOp wT (zA 0) (fOp y3 (zA 1) (fC (.int 2))))))
 (zW (wG (fT (fOp vGt (fOp yg (fOp y3 (zA 5) (fC (.int 3))) (fC (.int 4))) (fC (.int 0)))) (zfp wI 7 (zC (zA 2) (zC (zA 3) (zC (zA 4) zI)))) fNx)
 (yq (zA 7))))))
noncomputable def wJ:List PV->Option PV:=fnV 8 vR
noncomputable def uY:FS:=(yq (fLC (zbh (zC (zA 0) (zC (zA 1) zI))) 2 [] (xM 2 (zZ (zL 0) (zZ (zL 1) xN))) wo (fOp yX (zA 0) (zA 1))))
noncomputable def yM:List PV->Option PV:=fnV 2 uY
noncomputable def v6:FS:=(wG (fT (fOp vNe (zJ yD (zC (zA 0) (zC (zA 5) (zC (zA 6) zI)))) (zgm (zJ yD (zC (zA 0) (zC (zA 3) (zC (zA 6) zI)))) (zJ yD (zC (zA 0) (zC (zA 4) (zC (zA 6) zI))))))) (yq (fC (.bl false))) fNx)
noncomputable def vS:FS:=(zW (zp 5 (zJ yM (zC (zA 3) (zC (zA 4) zI))))
 (zW (wG (zbi (fT (fOp zgP (zJ yR (zC (zA 0) (zC (zA 1) (zC (zA 2) (zC (zA 3) zI))))) (fC .non))) (fT (fOp zgP (zJ yR (zC (zA 0) (zC (zA 1) (zC (zA 2) (zC (zA 4) zI))))) (fC .non)))) (zW (wG (fT (fOp zeS (zJ yR (zC (zA 0) (zC (zA 1) (zC (zA 2) (zC (zA 5) zI))))) (fC .non))) (yq (fC (.bl false))) fNx)
 (zW (wG (fT (fOp zeS (zJ yR (zC (zA 0) (zC (zA 1) (zC (zA 2) (zC (zJ yM (zC (zA 3) (zC (zA 3) zI))) zI))))) (fC .non))) (yq (fC (.bl false))) fNx)
 (yt (zc (zA 2)) (zL 6) v6))) fNx)
 (yq (fC (.bl true)))))
noncomputable def wK:List PV->Option PV:=fnV 7 vS
noncomputable def zcJ:FS:=(wG (fT (fOp vNe (zJ yD (zC (zA 1) (zC (zA 10) (zC (zA 11) zI)))) (zJ yD (zC (zA 1) (zC (zA 5) (zC (zA 11) zI)))))) (yq (fC (.bl false))) fNx)
noncomputable def zir:FS:=(zW (zp 1 (zJ we (zC (zA 0) (zC (fC (.int 0)) zI))))
 (zW (zp 2 (zJ xQ (zC (zA 1) zI)))
 (zW (zp 3 (zJ xR (zC (zA 0) (zC (fC (.int 2)) (zC (zA 1) zI)))))
 (zW (zp 4 (zJ wc (zC (zA 0) (zC (fC (.int 4)) (zC (zA 1) (zC (zA 3) zI))))))
 (zW (zp 5 (zJ wJ (zC (zA 0) (zC (fC (.int 6)) (zC (zA 2) (zC (zA 3) (zC (zA 4) zI)))))))
 (zW (zp 6 (zJ wJ (zC (zA 0) (zC (fC (.int 8)) (zC (zA 2) (zC (zA 3) (zC (zA 4) zI)))))))
 (zW (zp 7 (zJ xD (zC (zA 1) (zC (zA 5) zI))))
 (zW (zp 8 (fLC (zbh (zC (zA 7) (zC (zJ xD (zC (zA 1) (zC (zA 6) zI))) zI))) 2 [] (xM 2 (zZ (zL 0) (zZ (zL 1) xN))) wo (yp (zC (zx (fOp vIx (zA 0) (fC (.int 0)))) (zC (fOp yX (fOp vIx (zA 0) (fC (.int 1))) (fOp vIx (zA 1) (fC (.int 1)))) (zC (fOp yX (fOp vIx (zA 0) (fC (.int 2))) (fOp vIx (zA 1) (fC (.int 2)))) zI))))))
 (zW (wG (fOr (fT (fOp vNe (zJ xD (zC (zA 1) (zC (zJ yM (zC (zA 5) (zC (zA 6) zI))) zI))) (zA 8))) (ziA (zix (zJ wK (zC (zA 1) (zC (zA 3) (zC (zA 4) (zC (zA 5) (zC (zA 6) zI))))))))) (yq (fC (.bl false))) fNx)
 (zW (zp 9 (fOp wT (fOp yg (zJ zV (zC (zA 0) (zC (fC (.int 10)) zI))) (fC (.int 1999))) (fC (.int 999))))
 (zW (zp 10 (fLC (zc (zA 5)) 1 [9] (zL 0) wo (fOp yX (zA 0) (zA 1))))
 (zW (wG (fT (fOp vNe (zJ yR (zC (zA 1) (zC (zA 3) (zC (zA 4) (zC (zA 10) zI))))) (zJ yR (zC (zA 1) (zC (zA 3) (zC (zA 4) (zC (zA 5) zI))))))) (yq (fC (.bl false))) fNx)
 (zW (yt (zc (fSl (zA 4) ua (zaH (fC (.int 6))))) (zL 11) zcJ)
 (zW (zp 12 (fOp vIx (fOp vIx (zA 7) (fOp yg (zJ zV (zC (zA 0) (zC (fC (.int 11)) zI))) (zJ wM (zC (zA 7) zI)))) (fC (.int 0))))
 (zW (zp 13 (fOp vIx (fOp vIx (zA 7) (fOp yg (zJ zV (zC (zA 0) (zC (fC (.int 12)) zI))) (zJ wM (zC (zA 7) zI)))) (fC (.int 0))))
 (yq (fOp vEq (zJ uG (zC (zA 1) (zC (fLC (zc (zA 5)) 1 [9] (zL 0) wo (zx (zA 1))) (zC (zA 12) (zC (zA 13) zI))))) (fC (.int 0)))))))))))))))))))
noncomputable def qY:List PV->Option PV:=fnV 14 zir
noncomputable def xL(b:Bool):PV:=.str (Str.ofString (if b=true then "rising" else "falling"))
noncomputable def zb(x:Int × Bool):PV:=.tup [.int x.1,xL x.2]
theorem zbP(b:Bool):okB 0 (xL b):=zcq (by cases b<;>decide +kernel)
theorem zfv(b:Bool):vEq (xL b) (.str (Str.ofString "rising"))=some (.bl b):=by
 have h1:=(zbP b).ok (by decide)
 have h2:=(zbP true).ok (by decide)
 have h3:eqP (xL b) (.str (Str.ofString "rising"))=b:=by cases b<;>decide +kernel
 unfold vEq
 rw [h3,h1,show jy (.str (Str.ofString "rising"))=true from h2];rfl
theorem zbE(b:Bool):zw (xL b)=true:=by cases b<;>rfl
theorem zhk{ns:List Int}(S:Scr ns){k:Int}(k0:0≤k)(k1:k≤900){w h:Int}{F B:List Int}(hl:F.length≤36):∃ R:List (Int × Bool),wc [scr ns,.int k,flV w h F,.lst (B.map PV.int)]=some (.lst (R.map zb))/\(∀ x ∈ R,x.1 ∈ F)/\R.length≤72:=by
 obtain ⟨c,hc⟩:=wP S k0 (show k≤1000 by omega)
 obtain ⟨c',hc'⟩:=wP S (show 0≤k+1 by omega) (show k+1≤1000 by omega)
 have q1:0≤c' % 4/\c' % 4<4:=⟨Int.emod_nonneg _ (by decide),Int.emod_lt_of_pos _ (by decide)⟩
 obtain ⟨ds,e1,dl,e3⟩:=jP (c:=c) (n:=2 * (F.length:Int)) (b:=3+c' % 4) (by omega) (by omega) (by omega) (by omega)
 have dl':ds.length=2 * F.length:=by omega
 have hargs:zC (zJ zV (zC (zA 0) (zC (zA 1) zI))) (zC (fOp wU (fC (.int 2)) (zJ wM (zC (fOp vIx (zA 2) (fC (.int 2))) zI))) (zC (fOp yX (fC (.int 3)) (fOp yg (zJ zV (zC (zA 0) (zC (fOp yX (zA 1) (fC (.int 1))) zI))) (fC (.int 4)))) zI)) [some (scr ns),some (.int k),some (flV w h F),some (.lst (B.map PV.int)),none,none,none,none]=some [.int c,.int (2 * (F.length:Int)),.int (3+c' % 4)]:=by
  simp [hc,hc',yQ (show (0:Int)<4 by decide),uD (i:=2) (j:=(F.length:Int)) ⟨by decide,by decide⟩]
 let mk:List (Int × Bool)->Option PV->Option PV->En:=fun R x y=>[some (scr ns),some (.int k),some (flV w h F),some (.lst (B.map PV.int)),some (.lst (ds.map PV.int)),some (.lst (R.map zb)),x,y]
 obtain ⟨e,h1,R,x,y,rfl,hR,hRl⟩:=yj (b:=xM 2 (zZ (zL 6) (zZ (zL 7) xN))) (g:=wR) (xs:=F.zipIdx) (hh:=fun z=>PV.tup [.int (z.2:Int),.int z.1]) (env:=mk [] none none)
  (fun pre e=>∃ R x y,e=mk R x y/\(∀ x ∈ R,x.1 ∈ F)/\R.length≤2 * pre.length) ⟨[],none,none,rfl,by simp,by simp⟩ (by
   rintro pre ⟨f,n⟩ post e hp ⟨R,x,y,rfl,hR,hRl⟩
   have hm:(f,n) ∈ F.zipIdx:=by rw [hp];simp
   have hf:f ∈ F:=List.fst_mem_of_mem_zipIdx hm
   have hn:n<F.length:=by have:=List.snd_lt_of_mem_zipIdx hm;omega
   have hpl:pre.length≤F.length:=by
    have:=congrArg List.length hp
    rw [List.length_zipIdx,List.length_append] at this;omega
   refine ⟨mk R (some (.int n)) (some (.int f)),?_⟩
   have a1:atI (ds.map PV.int) (2 * (n:Int))=some (.int (ds.getD (2 * n) 0)):=by
    have:(2 * (n:Int))=((2 * n:Nat):Int):=by omega
    rw [this,_root_.F.atI_nat (by simp;omega)]
    simp [List.getD,show 2 * n<ds.length by omega]
   have a2:atI (ds.map PV.int) (2 * (n:Int)+1)=some (.int (ds.getD (2 * n+1) 0)):=by
    have:(2 * (n:Int)+1)=((2 * n+1:Nat):Int):=by omega
    rw [this,_root_.F.atI_nat (by simp;omega)]
    simp [List.getD,show 2 * n+1<ds.length by omega]
   generalize ds.getD (2 * n) 0=d1 at a1
   generalize ds.getD (2 * n+1) 0=d2 at a2
   have m2:=uD (i:=2) (j:=(n:Int)) ⟨by decide,by decide⟩
   by_cases hB:f ∈ B
   ·refine ⟨mk R (some (.int n)) (some (.int f)),by simp [xM,zZ,xN,mk],.inl ?_,R,_,_,rfl,hR,by simp;omega⟩
    simp [wR,mk,hB]
   ·have w0:xL false=.str (Str.ofString "falling"):=rfl
    have w1:xL true=.str (Str.ofString "rising"):=rfl
    refine ⟨mk (R++(if d1=1 then [(f,false)] else [])++(if d2=1 then [(f,true)] else [])) (some (.int n)) (some (.int f)),by simp [xM,zZ,xN,mk],.inl ?_,_,_,_,rfl,?_,?_⟩
    ·by_cases c1:d1=1<;>by_cases c2:d2=1<;>simp [wR,mk,hB,m2,a1,a2,c1,c2,zf,zb,w0,w1,show R.length<100000 by omega,show R.length+1<100000 by omega]
    ·intro x hx
     rcases List.mem_append.mp hx with hx | hx
     ·rcases List.mem_append.mp hx with hx | hx
      ·exact hR x hx
      ·split at hx
       ·rw [List.mem_singleton.mp hx];exact hf
       ·cases hx
     ·split at hx
      ·rw [List.mem_singleton.mp hx];exact hf
      ·cases hx
    ·simp only [List.length_append,List.length_singleton]
     split<;>split<;>simp<;>omega)
 refine ⟨R,?_,hR,by rw [List.length_zipIdx] at hRl;omega⟩
 refine yo (e:=mk R x y) [some (scr ns),some (.int k),some (flV w h F),some (.lst (B.map PV.int)),none,none,none,none] rfl ?_
 unfold uX
 rw [zH (yB hargs e1)]
 rw [zH (e:=mk [] none none) (by simp [mk])]
 rw [zH (e:=mk R x y) (by
  rw [yZ]
  have:jD (zC (fOp vIx (zA 2) (fC (.int 2))) zI) (mk [] none none)=some (F.zipIdx.map fun z=>PV.tup [.int (z.2:Int),.int z.1]):=by
   simp [jD,mk,jc,List.zipIdx_map,List.map_map,Function.comp_def]
  rw [this,Option.bind_some]
  exact h1)]
 simp [mk]
noncomputable def yv(T:List Int)(ls:List (List Int))(f:Int):Int:=T.getD (rc ls f).2 0 - T.getD (rc ls f).1 0
noncomputable def yG(T:List Int)(ls:List (List Int))(x:Int × Bool):Int:=if x.2=true then yv T ls x.1 else -yv T ls x.1
noncomputable def Two(T:List Int)(ls:List (List Int))(f:Int):Prop:=∃ r c,idx ls f=[r,c]/\r<T.length/\c<T.length
theorem ziV{T:List Int}{r c:Nat}(hr:r<T.length)(hc:c<T.length)(b:Bool):zg [.tup [.int r,.int c],.lst (T.map PV.int),xL b]=some (.int (if b=true then T.getD c 0 - T.getD r 0 else -(T.getD c 0 - T.getD r 0))):=by
 have a1:=kY hr
 have a2:=kY hc
 generalize T.getD r 0=x at a1
 generalize T.getD c 0=y at a2
 refine yo (e:=[some (.tup [.int r,.int c]),some (.lst (T.map PV.int)),some (xL b),some (.int (y - x))]) [some (.tup [.int r,.int c]),some (.lst (T.map PV.int)),some (xL b),none] rfl ?_
 unfold vp
 rw [zH (e:=[some (.tup [.int r,.int c]),some (.lst (T.map PV.int)),some (xL b),some (.int (y - x))]) (by simp [a1,a2])]
 cases b<;>simp [zfv]
noncomputable def uc(T:List Int)(ls:List (List Int))(B:List Int)(R:List (Int × Bool)):PV:=match B.find? (fun f=>decide (yv T ls f≠0)) with
 | some f=>.tup [.str (Str.ofString "brace"),.int f]
 | none=>match R.find? (fun x=>decide (0<yG T ls x)) with
  | some x=>.tup [.str (Str.ofString "rope"),.int x.1,xL x.2]
  | none=>.non
theorem k7{w h:Int}{F:List Int}{T:List Int}{ls:List (List Int)}{B:List Int}{R:List (Int × Bool)}{L:List Int}{G:Int->PV}(C:Cross w h F ls L G)(hB:∀ f ∈ B,f ∈ F/\Two T ls f)(hR:∀ x ∈ R,x.1 ∈ F/\Two T ls x.1):yR [flV w h F,.lst (B.map PV.int),.lst (R.map zb),.lst (T.map PV.int)]=some (uc T ls B R):=by
 let mk:Option PV->Option PV->En:=fun x5 x6=>[some (flV w h F),some (.lst (B.map PV.int)),some (.lst (R.map zb)),some (.lst (T.map PV.int)),some (dF L G),x5,x6]
 have hgr:∀ x:Int × Bool,x.1 ∈ F->Two T ls x.1->∀ r c,idx ls x.1=[r,c]->zg [.tup [.int r,.int c],.lst (T.map PV.int),xL x.2]=some (.int (yG T ls x)):=fun x _ ⟨r',c',hi,hr,hc⟩ r c hi'=>by
  rw [hi] at hi'
  cases hi'
  rw [ziV hr hc]
  simp only [yG,yv,rc,hi]
 have l1:=zaE (b:=zL 5) (g:=wa) (hh:=PV.int) (fun f=>decide (yv T ls f≠0)) (fun f=>.tup [.str (Str.ofString "brace"),.int f]) (fun e=>∃ x5 x6,e=mk x5 x6) B (mk none none) ⟨_,_,rfl⟩ (by
  rintro f hf e ⟨x5,x6,rfl⟩
  obtain ⟨hF,r,c,hi,hr,hc⟩:=hB f hf
  have hb:=hgr (f,true) hF ⟨r,c,hi,hr,hc⟩ r c hi
  have hcl:zJ zg (zC (fOp vIx (zA 4) (zA 5)) (zC (zA 3) (zC (fC (.str (Str.ofString "rising"))) zI))) (mk (some (.int f)) x6)=some (.int (yv T ls f)):=zY (as:=[.tup [.int r,.int c],.lst (T.map PV.int),xL true]) (by simp [mk,C.ix hF hi];rfl) hb
  generalize yv T ls f=g at hcl
  have ht:fT (fOp vNe (zJ zg (zC (fOp vIx (zA 4) (zA 5)) (zC (zA 3) (zC (fC (.str (Str.ofString "rising"))) zI)))) (fC (.int 0))) (mk (some (.int f)) x6)=some (decide (g≠0)):=by
   rw [qL,yK,hcl];simp
  refine ⟨mk (some (.int f)) x6,rfl,fun h=>⟨mk (some (.int f)) x6,?_⟩,fun h=>⟨mk (some (.int f)) x6,?_,_,_,rfl⟩⟩
  ·unfold wa
   rw [yc,ht,h,Option.bind_some,if_pos rfl]
   simp [mk]
  ·unfold wa
   rw [yc,ht,h,Option.bind_some,if_neg Bool.false_ne_true];rfl)
 unfold uc
 have s0:zp 4 (zJ yH (zC (zA 0) zI)) [some (flV w h F),some (.lst (B.map PV.int)),some (.lst (R.map zb)),some (.lst (T.map PV.int)),none,none,none]=some (.nx (mk none none)):=yB (as:=[flV w h F]) rfl C.val
 have s1:yt (zc (zA 1)) (zL 5) wa (mk none none)=xw (zL 5) wa (B.map PV.int) (mk none none):=rfl
 cases hf:B.find? (fun f=>decide (yv T ls f≠0)) with
 | some f=>
  rw [hf] at l1
  obtain ⟨e,l1⟩:=l1
  exact yo [some (flV w h F),some (.lst (B.map PV.int)),some (.lst (R.map zb)),some (.lst (T.map PV.int)),none,none,none] rfl (by unfold u7;rw [zH s0,zcC (s1.trans l1)])
 | none=>
  rw [hf] at l1
  obtain ⟨e,l1,x5,x6,rfl⟩:=l1
  have l2:=zaE (b:=xM 2 (zZ (zL 5) (zZ (zL 6) xN))) (g:=wZ) (hh:=zb) (fun x=>decide (0<yG T ls x)) (fun x=>.tup [.str (Str.ofString "rope"),.int x.1,xL x.2]) (fun e=>∃ x5 x6,e=mk x5 x6) R (mk x5 x6) ⟨_,_,rfl⟩ (by
   rintro x hx e ⟨x5,x6,rfl⟩
   obtain ⟨hF,r,c,hi,hr,hc⟩:=hR x hx
   have hb:=hgr x hF ⟨r,c,hi,hr,hc⟩ r c hi
   have hcl:zJ zg (zC (fOp vIx (zA 4) (zA 5)) (zC (zA 3) (zC (zA 6) zI))) (mk (some (.int x.1)) (some (xL x.2)))=some (.int (yG T ls x)):=zY (as:=[.tup [.int r,.int c],.lst (T.map PV.int),xL x.2]) (by simp [mk,C.ix hF hi]) hb
   generalize yG T ls x=g at hcl
   have ht:fT (fOp vGt (zJ zg (zC (fOp vIx (zA 4) (zA 5)) (zC (zA 3) (zC (zA 6) zI)))) (fC (.int 0))) (mk (some (.int x.1)) (some (xL x.2)))=some (decide (0<g)):=by
    rw [qL,yK,hcl];rfl
   refine ⟨mk (some (.int x.1)) (some (xL x.2)),by simp [xM,zZ,xN,mk,zb],fun h=>⟨mk (some (.int x.1)) (some (xL x.2)),?_⟩,fun h=>⟨mk (some (.int x.1)) (some (xL x.2)),?_,_,_,rfl⟩⟩
   ·unfold wZ
    rw [yc,ht,h,Option.bind_some,if_pos rfl]
    simp [mk,zbE]
   ·unfold wZ
    rw [yc,ht,h,Option.bind_some,if_neg Bool.false_ne_true];rfl)
  have s2:yt (zc (zA 2)) (xM 2 (zZ (zL 5) (zZ (zL 6) xN))) wZ (mk x5 x6)=xw (xM 2 (zZ (zL 5) (zZ (zL 6) xN))) wZ (R.map zb) (mk x5 x6):=rfl
  cases hg:R.find? (fun x=>decide (0<yG T ls x)) with
  | some x=>
   rw [hg] at l2
   obtain ⟨e,l2⟩:=l2
   exact yo [some (flV w h F),some (.lst (B.map PV.int)),some (.lst (R.map zb)),some (.lst (T.map PV.int)),none,none,none] rfl (by unfold u7;rw [zH s0,zH (s1.trans l1),zcC (s2.trans l2)])
  | none=>
   rw [hg] at l2
   obtain ⟨e,l2,y5,y6,rfl⟩:=l2
   exact yo [some (flV w h F),some (.lst (B.map PV.int)),some (.lst (R.map zb)),some (.lst (T.map PV.int)),none,none,none] rfl (by unfold u7;rw [zH s0,zH (s1.trans l1),zH (s2.trans l2)];rfl)
theorem qu{w h:Int}{F:List Int}{T:List Int}{ls:List (List Int)}{x:Int × Bool}{L:List Int}{G:Int->PV}(C:Cross w h F ls L G)(hx:x.1 ∈ F/\Two T ls x.1):yD [flV w h F,.lst (T.map PV.int),zb x]=some (.bl (decide (yG T ls x<0))):=by
 obtain ⟨hF,r,c,hi,hr,hc⟩:=hx
 have hb:zg [.tup [.int r,.int c],.lst (T.map PV.int),xL x.2]=some (.int (yG T ls x)):=by
  rw [ziV hr hc];simp only [yG,yv,rc,hi]
 have hcr:wA [flV w h F,.int x.1]=some (.tup [.int r,.int c]):=by
  refine yo (e:=[some (flV w h F),some (.int x.1)]) [some (flV w h F),some (.int x.1)] rfl ?_
  unfold jt
  rw [vL,yK,zY (as:=[flV w h F]) rfl C.val]
  simp [C.ix hF hi]
 generalize yG T ls x=g at hb
 refine yo (e:=[some (flV w h F),some (.lst (T.map PV.int)),some (zb x)]) [some (flV w h F),some (.lst (T.map PV.int)),some (zb x)] rfl ?_
 unfold zcz
 have h1:zJ wA (zC (zA 0) (zC (fOp vIx (zA 2) (fC (.int 0))) zI)) [some (flV w h F),some (.lst (T.map PV.int)),some (zb x)]=some (.tup [.int r,.int c]):=zY (as:=[flV w h F,.int x.1]) (by simp [zb]) hcr
 have h2:zJ zg (zC (zJ wA (zC (zA 0) (zC (fOp vIx (zA 2) (fC (.int 0))) zI))) (zC (zA 1) (zC (fOp vIx (zA 2) (fC (.int 1))) zI))) [some (flV w h F),some (.lst (T.map PV.int)),some (zb x)]=some (.int g):=zY (as:=[.tup [.int r,.int c],.lst (T.map PV.int),xL x.2]) (by rw [zU,h1];simp [zb]) hb
 rw [vL,yK,h2];rfl
theorem zjR(T:List Int)(ls:List (List Int))(B:List Int)(R:List (Int × Bool)):okB 1 (uc T ls B R):=by
 unfold uc
 split
 ·refine zcp fun p hp=>?_
  simp only [List.mem_cons,List.not_mem_nil,or_false] at hp
  rcases hp with rfl | rfl
  ·exact zcq (by decide +kernel)
  ·exact zcr _
 ·split
  ·refine zcp fun p hp=>?_
   simp only [List.mem_cons,List.not_mem_nil,or_false] at hp
   rcases hp with rfl | rfl | rfl
   ·exact zcq (by decide +kernel)
   ·exact zcr _
   ·exact zbP _
  ·exact okB_non.mono (by decide)
theorem zeE(R:List (Int × Bool)):isDatas (R.map zb)=true:=wC _ (fun x=>by simp [zb,zbE]) R
noncomputable def prV(z:Nat × Nat):PV:=.tup [.int (z.1:Int),.int (z.2:Int)]
theorem zdG(Z:List (Nat × Nat)):isDatas (Z.map prV)=true:=wC _ (fun _=>rfl) Z
theorem zfT{w h:Int}{F:List Int}{rs cs:List (Int × Nat)}(S:Strips w h F rs cs){B:List Int}(hB:∀ p ∈ B,p ∈ F)(hBl:B.length≤100){R:List (Int × Bool)}(hR:∀ x ∈ R,x.1 ∈ F)(hRl:R.length≤100){T:List Int}(hT:T.length=rs.length+cs.length):
  ∃ T':List Int,wI [.lst (T.map PV.int),yw (zm w rs cs),.lst (B.map PV.int),.lst (R.map zb)]=some (.lst (T'.map PV.int))/\T'.length=rs.length+cs.length:=by
 have hll:=S.lens
 have hsl:=ql w rs cs
 have prc:∀ p ∈ F,yy [yw (zm w rs cs),.int p]=some (.lst [.int ((rc (zm w rs cs) p).1:Int),.int ((rc (zm w rs cs) p).2:Int)])/\(rc (zm w rs cs) p).1<rs.length+cs.length/\(rc (zm w rs cs) p).2<rs.length+cs.length:=fun p hp=>by
  obtain ⟨i1,i2,i3,i4⟩:=S.rc_of hp
  have:=zjM (zm w rs cs) p (by omega)
  rw [i1] at this
  exact ⟨this,by omega,by omega⟩
 have hlv:yw (zm w rs cs)=.lst ((zm w rs cs).map fun l=>.lst (l.map PV.int)):=rfl
 have hslen:wM [yw (zm w rs cs)]=some (.int ((rs.length+cs.length:Nat):Int)):=by rw [hlv,zcv,List.length_map,hsl]
 have n72:rs.length+cs.length≤72:=by omega
 generalize yw (zm w rs cs)=LV at *
 generalize rs.length+cs.length=n at *
 let Ok:List (Nat × Nat)->Prop:=fun Z=>∀ z ∈ Z,z.1<n/\z.2<n
 let mk:List Int->Option PV->Option PV->Option PV->Option PV->Option PV->Option PV->Option PV->Option PV->En:=fun T x4 x5 x6 x7 x8 x9 x10 x11=>[some (.lst (T.map PV.int)),some LV,some (.lst (B.map PV.int)),some (.lst (R.map zb)),x4,x5,x6,x7,x8,x9,x10,x11]
 let Zv:List (Nat × Nat)->Option PV:=fun Z=>some (.lst (Z.map prV))
 obtain ⟨e,l1,Z1,x5,x6,x7,ok1,len1,rfl⟩:=yj (b:=zL 5) (g:=wv) (xs:=B) (hh:=PV.int) (env:=mk T (Zv []) none none none none none none none) (fun pre e=>∃ Z x5 x6 x7,Ok Z/\Z.length=2 * pre.length/\e=mk T (Zv Z) x5 x6 x7 none none none none) ⟨[],none,none,none,(fun _ z=>nomatch z),rfl,rfl⟩ (by
  rintro pre p post e hF ⟨Z,x5,x6,x7,ok,zl,rfl⟩
  obtain ⟨q1,q2,q3⟩:=prc p (hB p (by rw [hF];simp))
  have hpl:pre.length≤100:=by have:=congrArg List.length hF;rw [List.length_append] at this;omega
  generalize (rc (zm w rs cs) p).1=r at *
  generalize (rc (zm w rs cs) p).2=c at *
  let Q5:=some (PV.int p)
  let Q6:=some (PV.int (r:Int))
  let Q7:=some (PV.int (c:Int))
  refine ⟨mk T (Zv Z) Q5 x6 x7 none none none none,mk T (Zv (Z++[(r,c),(c,r)])) Q5 Q6 Q7 none none none none,rfl,.inl ?_,Z++[(r,c),(c,r)],_,_,_,?_,?_,rfl⟩
  ·unfold wv
   rw [zH (e:=mk T (Zv Z) Q5 Q6 Q7 none none none none) (by rw [ziY,zY (as:=[LV,.int p]) rfl q1];rfl)]
   refine kF ?_
   show yX (.lst (Z.map prV)) (.lst ([(r,c),(c,r)].map prV))=_
   unfold yX
   dsimp only
   rw [if_pos (by rw [zdG,zdG,List.length_map,List.length_map,decide_eq_true (by show Z.length+2≤100000;omega)];rfl),← List.map_append]
  ·intro z hz
   rcases List.mem_append.mp hz with y | y
   ·exact ok z y
   ·simp only [List.mem_cons,List.not_mem_nil,or_false] at y
    rcases y with rfl | rfl
    ·exact ⟨q2,q3⟩
    ·exact ⟨q3,q2⟩
  ·rw [List.length_append,List.length_append,zl]
   show 2 * pre.length+2=2 * (pre.length+1)
   omega)
 obtain ⟨e,l2,Z2,y5,y6,y7,x8,ok2,len2,rfl⟩:=yj (b:=xM 2 (zZ (zL 5) (zZ (zL 8) xN))) (g:=wu) (xs:=R) (hh:=zb) (env:=mk T (Zv Z1) x5 x6 x7 none none none none) (fun pre e=>∃ Z x5 x6 x7 x8,Ok Z/\Z.length≤200+pre.length/\e=mk T (Zv Z) x5 x6 x7 x8 none none none) ⟨Z1,_,_,_,none,ok1,by omega,rfl⟩ (by
  rintro pre x post e hF ⟨Z,x5,x6,x7,x8,ok,zl,rfl⟩
  obtain ⟨q1,q2,q3⟩:=prc x.1 (hR x (by rw [hF];simp))
  have hpl:pre.length≤100:=by have:=congrArg List.length hF;rw [List.length_append] at this;omega
  generalize (rc (zm w rs cs) x.1).1=r at *
  generalize (rc (zm w rs cs) x.1).2=c at *
  let z:=if x.2=true then (c,r) else (r,c)
  let Q5:=some (PV.int x.1)
  let Q6:=some (PV.int (r:Int))
  let Q7:=some (PV.int (c:Int))
  let Q8:=some (xL x.2)
  refine ⟨mk T (Zv Z) Q5 x6 x7 Q8 none none none,mk T (Zv (Z++[z])) Q5 Q6 Q7 Q8 none none none,rfl,.inl ?_,Z++[z],_,_,_,_,?_,?_,rfl⟩
  ·unfold wu
   rw [zH (e:=mk T (Zv Z) Q5 Q6 Q7 Q8 none none none) (by rw [ziY,zY (as:=[LV,.int x.1]) rfl q1];rfl)]
   have e1:fOp vEq (zA 8) (fC (.str "rising")) (mk T (Zv Z) Q5 Q6 Q7 Q8 none none none)=some (.bl x.2):=zfv x.2
   have e2:zJ zfN (zC (fOp vEq (zA 8) (fC (.str "rising"))) zI) (mk T (Zv Z) Q5 Q6 Q7 Q8 none none none)=some (.int (if x.2=true then 1 else 0)):=zY (as:=[.bl x.2]) (by rw [zU,e1];rfl) (by cases x.2<;>rfl)
   have e3:fOp vIx (wF (zC (yp (zC (zA 6) (zC (zA 7) zI))) (zC (yp (zC (zA 7) (zC (zA 6) zI))) zI))) (zJ zfN (zC (fOp vEq (zA 8) (fC (.str "rising"))) zI)) (mk T (Zv Z) Q5 Q6 Q7 Q8 none none none)=some (prV z):=by
    rw [yK,e2]
    show vIx (.lst [prV (r,c),prV (c,r)]) (.int (if x.2=true then 1 else 0))=some (prV (if x.2=true then (c,r) else (r,c)))
    cases x.2<;>rfl
   rw [jQ (qs:=Z.map prV) (q:=prV z) rfl (zdD e3 rfl) (by rw [List.length_map];omega)]
   show some (Out.nx (mk T (some (.lst (Z.map prV++[prV z]))) Q5 Q6 Q7 Q8 none none none))=some (Out.nx (mk T (some (.lst ((Z++[z]).map prV))) Q5 Q6 Q7 Q8 none none none))
   rw [List.map_append];rfl
  ·intro y hy
   rcases List.mem_append.mp hy with y' | y'
   ·exact ok y y'
   ·rw [List.mem_singleton.mp y']
    show (if x.2=true then (c,r) else (r,c)).1<n/\(if x.2=true then (c,r) else (r,c)).2<n
    cases x.2
    ·exact ⟨q2,q3⟩
    ·exact ⟨q3,q2⟩
  ·rw [List.length_append,List.length_append]
   show Z.length+1≤200+(pre.length+1)
   omega)
 have inner:∀ (T:List Int) (x9 x10 x11:Option PV),T.length=n->∃ T' z10 z11,T'.length=n/\xr (mk T (Zv Z2) y5 y6 y7 x8 x9 x10 x11)=some (.nx (mk T' (Zv Z2) y5 y6 y7 x8 x9 z10 z11)):=by
  intro T x9 x10 x11 hT
  obtain ⟨e,k1,T',z10,z11,hT',rfl⟩:=yj (b:=xM 2 (zZ (zL 10) (zZ (zL 11) xN))) (g:=wt) (xs:=Z2) (hh:=prV) (env:=mk T (Zv Z2) y5 y6 y7 x8 x9 x10 x11) (fun _ e=>∃ T' z10 z11,T'.length=n/\e=mk T' (Zv Z2) y5 y6 y7 x8 x9 z10 z11) ⟨T,x10,x11,hT,rfl⟩ (by
   rintro pre z post e hF ⟨T',z10,z11,hT',rfl⟩
   obtain ⟨q1,q2⟩:=ok2 z (by rw [hF];simp)
   have a1:=kY (T:=T') (k:=z.1) (by omega)
   have a2:=kY (T:=T') (k:=z.2) (by omega)
   generalize T'.getD z.1 0=t1 at a1
   generalize T'.getD z.2 0=t2 at a2
   let Q10:=some (PV.int (z.1:Int))
   let Q11:=some (PV.int (z.2:Int))
   let E:=mk T' (Zv Z2) y5 y6 y7 x8 x9 Q10 Q11
   obtain ⟨v,hv⟩:∃ v,zgO [.int t2,.int t1]=some (.int v):=⟨_,rfl⟩
   refine ⟨E,mk (T'.set z.2 v) (Zv Z2) y5 y6 y7 x8 x9 Q10 Q11,rfl,.inl ?_,T'.set z.2 v,_,_,by rw [List.length_set];exact hT',rfl⟩
   have v0:zA 0 E=some (.lst (T'.map PV.int)):=rfl
   have v11:zA 11 E=some (.int (z.2:Int)):=rfl
   have i11:fOp vIx (zA 0) (zA 11) E=some (.int t2):=a2
   have i10:fOp vIx (zA 0) (zA 10) E=some (.int t1):=a1
   have vm:zJ zgO (zC (fOp vIx (zA 0) (zA 11)) (zC (fOp vIx (zA 0) (zA 10)) zI)) E=some (.int v):=zY (as:=[.int t2,.int t1]) (by rw [zU,i11,zU,i10];rfl) hv
   have s1:=zhg (T:=T') (k:=z.2) (v:=v) (by omega)
   unfold wt ui
   simp only [v0,v11,vm,Option.bind_some,s1];rfl)
  refine ⟨T',z10,z11,hT',?_⟩
  unfold xr
  rw [yZ];exact k1
 obtain ⟨e,l3,T',z9,z10,z11,hT',rfl⟩:=yj (b:=zL 9) (g:=xr) (xs:=(List.range n).map fun (i:Nat)=>(i:Int)) (hh:=PV.int) (env:=mk T (Zv Z2) y5 y6 y7 x8 none none none) (fun _ e=>∃ T' z9 z10 z11,T'.length=n/\e=mk T' (Zv Z2) y5 y6 y7 x8 z9 z10 z11) ⟨T,none,none,none,hT,rfl⟩ (by
  rintro pre k post e hF ⟨T',z9,z10,z11,hT',rfl⟩
  obtain ⟨T2,u10,u11,hT2,h2⟩:=inner T' (some (.int k)) z10 z11 hT'
  exact ⟨_,_,rfl,.inl h2,T2,_,u10,u11,hT2,rfl⟩)
 refine ⟨T',?_,hT'⟩
 refine yo (e:=List.replicate 12 none) [some (.lst (T.map PV.int)),some LV,some (.lst (B.map PV.int)),some (.lst (R.map zb)),none,none,none,none,none,none,none,none] rfl ?_
 unfold vv
 rw [zH (e:=mk T (Zv []) none none none none none none none) rfl]
 rw [zH (e:=mk T (Zv Z1) x5 x6 x7 none none none none) (by rw [yZ];exact l1)]
 rw [zH (e:=mk T (Zv Z2) y5 y6 y7 x8 none none none) (by rw [yZ];exact l2)]
 have hr:vT (zC (zJ wM (zC (zA 1) zI)) zI) (mk T (Zv Z2) y5 y6 y7 x8 none none none)=some (((List.range n).map fun (i:Nat)=>(i:Int)).map PV.int):=by
  rw [zcd (j:=(n:Int)) (by rw [zU,zY (as:=[LV]) rfl hslen];rfl) (by omega) (by omega),Int.toNat_natCast,zho]
 unfold zft
 rw [zH (e:=mk T' (Zv Z2) y5 y6 y7 x8 z9 z10 z11) (by rw [yZ,hr];exact l3)]
 rfl
theorem zff{ns:List Int}(Sc:Scr ns){k:Int}(k0:0≤k)(k1:k≤900){w h:Int}{F:List Int}{rs cs:List (Int × Nat)}(S:Strips w h F rs cs){B:List Int}(hB:∀ p ∈ B,p ∈ F)(hBl:B.length≤100){R:List (Int × Bool)}(hR:∀ x ∈ R,x.1 ∈ F)(hRl:R.length≤100):
  ∃ T:List Int,wJ [scr ns,.int k,yw (zm w rs cs),.lst (B.map PV.int),.lst (R.map zb)]=some (.lst (T.map PV.int))/\T.length=rs.length+cs.length:=by
 have hll:=S.lens
 have hsl:=ql w rs cs
 obtain ⟨c,hc⟩:=wP Sc k0 (show k≤1000 by omega)
 obtain ⟨c',hc'⟩:=wP Sc (show 0≤k+1 by omega) (show k+1≤1000 by omega)
 obtain ⟨wd,hwd,wd1,wd2⟩:∃ wd:Int,atI [PV.int 2,.int 5,.int 99999] (c % 3)=some (.int wd)/\1≤wd/\wd≤1999999:=by
  have q:0≤c % 3/\c % 3<3:=⟨Int.emod_nonneg _ (by decide),Int.emod_lt_of_pos _ (by decide)⟩
  generalize c % 3=m at q
  have:m=0∨m=1∨m=2:=by omega
  rcases this with rfl | rfl | rfl
  ·exact ⟨2,rfl,by decide,by decide⟩
  ·exact ⟨5,rfl,by decide,by decide⟩
  ·exact ⟨99999,rfl,by decide,by decide⟩
 obtain ⟨ds,e1,dl,_⟩:=jP (c:=c') (n:=((rs.length+cs.length:Nat):Int)) (b:=wd) (by omega) (by omega) (by omega) (by omega)
 have hra:=fun {T:List Int} (hT:T.length=rs.length+cs.length)=>zfT S hB hBl hR hRl hT
 have hlv:yw (zm w rs cs)=.lst ((zm w rs cs).map fun l=>.lst (l.map PV.int)):=rfl
 have hslen:wM [yw (zm w rs cs)]=some (.int ((rs.length+cs.length:Nat):Int)):=by rw [hlv,zcv,List.length_map,hsl]
 have n72:rs.length+cs.length≤72:=by omega
 generalize yw (zm w rs cs)=LV at *
 generalize rs.length+cs.length=n at *
 have hmap:yk (zL 0) wo (fOp wT (zA 0) (fOp y3 (zA 1) (fC (.int 2)))) (ds.map PV.int) [none,some (.int wd)]=some ((ds.map fun d=>d - wd / 2).map PV.int):=by
  rw [List.map_map]
  exact yu _ ds fun t _=>⟨[some (.int t),some (.int wd)],rfl,rfl,by
   show ((y3 (.int wd) (.int 2)).bind fun y=>wT (.int t) y)=_
   rw [wN (by decide)];rfl⟩
 have hT:(ds.map fun d=>d - wd / 2).length=n:=by rw [List.length_map];omega
 have dlen:ds.length≤72:=by omega
 generalize ds.map (fun d=>d - wd / 2)=T at *
 let mk:Option PV->Option PV->Option PV->En:=fun x5 x6 x7=>[some (scr ns),some (.int k),some LV,some (.lst (B.map PV.int)),some (.lst (R.map zb)),x5,x6,x7]
 let P5:=some (PV.int c)
 let P6:=some (PV.int wd)
 let P7:=some (PV.lst (T.map PV.int))
 suffices hz:∃ (T':List Int) (e:En),T'.length=n/\vR (mk none none none)=some (.rt (.lst (T'.map PV.int)) e) by
  obtain ⟨T',e,hT',hz⟩:=hz
  exact ⟨T',yo _ rfl hz,hT'⟩
 unfold vR
 rw [zH (e:=mk P5 none none) (yB (as:=[scr ns,.int k]) rfl hc)]
 rw [zH (e:=mk P5 P6 none) (kF (by
  show ((yg (.int c) (.int 3)).bind fun y=>vIx (.lst [.int 2,.int 5,.int 99999]) y)=_
  rw [yQ (by decide)];exact hwd))]
 rw [zH (e:=mk P5 P6 P7) (kF (lcv (qs:=ds.map PV.int) (by
  rw [xC,zY (as:=[.int c',.int (n:Int),.int wd]) (by rw [zU,zY (as:=[scr ns,.int (k+1)]) rfl hc',zU,zY (as:=[LV]) rfl hslen];rfl) e1];rfl) rfl (by rw [List.length_map];omega) hmap))]
 have ht:fT (fOp vGt (fOp yg (fOp y3 (zA 5) (fC (.int 3))) (fC (.int 4))) (fC (.int 0))) (mk P5 P6 P7)=some (decide (0<c / 3 % 4)):=by
  show (((y3 (.int c) (.int 3)).bind fun x=>yg x (.int 4)).bind fun x=>vGt x (.int 0)).bind wS=_
  rw [wN (by decide),Option.bind_some,yQ (by decide)];rfl
 by_cases hq:0<c / 3 % 4
 ·obtain ⟨T',hr,hT'⟩:=hra hT
  refine ⟨T',_,hT',zcC (e:=List.replicate 8 none) ?_⟩
  rw [yc,ht,Option.bind_some,decide_eq_true hq,if_pos rfl]
  have v7:zA 7 (mk P5 P6 P7)=some (.lst (T.map PV.int)):=rfl
  have va:zC (zA 2) (zC (zA 3) (zC (zA 4) zI)) (mk P5 P6 P7)=some [LV,.lst (B.map PV.int),.lst (R.map zb)]:=rfl
  have hp:zfa (.lst (T.map PV.int))=some T:=uU T
  unfold zfp
  rw [v7,Option.bind_some,va,Option.bind_some,hp,Option.bind_some,hr];rfl
 ·refine ⟨T,mk P5 P6 P7,hT,?_⟩
  rw [zH (e:=mk P5 P6 P7) (by rw [yc,ht,Option.bind_some,decide_eq_false hq];rfl)]
  rfl
noncomputable def ul(T U:List Int):List Int:=(T.zip U).map fun z=>z.1+z.2
theorem qk{T U:List Int}(h:T.length=U.length):(ul T U).length=T.length:=by
 unfold ul
 rw [List.length_map,List.length_zip,h,Nat.min_self]
theorem jJ{T U:List Int}(h:T.length=U.length)(k:Nat):(ul T U).getD k 0=T.getD k 0+U.getD k 0:=by
 unfold ul
 simp only [List.getD_eq_getElem?_getD,List.getElem?_map,List.getElem?_zip_eq_some]
 by_cases hk:k<T.length
 ·rw [List.getElem?_eq_getElem (by rw [List.length_zip];omega),List.getElem?_eq_getElem hk,List.getElem?_eq_getElem (by omega:k<U.length)]
  simp
 ·rw [List.getElem?_eq_none (by rw [List.length_zip];omega),List.getElem?_eq_none (by omega),List.getElem?_eq_none (by omega)];rfl
theorem zaX{T U:List Int}(hl:T.length≤1000):yM [.lst (T.map PV.int),.lst (U.map PV.int)]=some (.lst ((ul T U).map PV.int)):=by
 let E:En:=[some (.lst (T.map PV.int)),some (.lst (U.map PV.int))]
 refine yo (e:=E) E rfl ?_
 unfold uY
 have hz:zbh (zC (zA 0) (zC (zA 1) zI)) E=some ((T.zip U).map fun z=>PV.tup [.int z.1,.int z.2]):=by
  rw [zcM]
  show some ((List.zip (T.map PV.int) (U.map PV.int)).map fun z=>PV.tup [z.1,z.2])=_
  rw [List.zip_map,List.map_map];rfl
 rw [vL,lcv (qs:=(T.zip U).map fun z=>PV.tup [.int z.1,.int z.2]) hz rfl (by rw [List.length_map,List.length_zip];omega) (R:=(ul T U).map PV.int) (by
  unfold ul
  rw [List.map_map]
  exact yu _ (T.zip U) fun z _=>⟨[some (.int z.1),some (.int z.2)],rfl,rfl,rfl⟩)];rfl
theorem Spd.add{w:Int}{F:List Int}{ls:List (List Int)}{T U:List Int}(h:T.length=U.length){X Y X' Y':Int->Int}(s:Spd w F ls T X Y)(s':Spd w F ls U X' Y'):Spd w F ls (ul T U) (fun c=>X c+X' c) (fun c=>Y c+Y' c):=by
 refine ⟨⟨fun p hp=>?_,fun p hp=>?_,fun p hp=>?_,fun p hp=>?_⟩,⟨fun p hp=>?_,fun p hp=>?_,fun p hp=>?_,fun p hp=>?_⟩⟩
 ·have a:=s.px.a1 p hp;have b:=s'.px.a1 p hp;omega
 ·have a:=s.px.a2 p hp;have b:=s'.px.a2 p hp;omega
 ·have a:=s.px.u1 p hp;have b:=s'.px.u1 p hp;rw [jJ h];omega
 ·have a:=s.px.u2 p hp;have b:=s'.px.u2 p hp;rw [jJ h];omega
 ·have a:=s.py.a1 p hp;have b:=s'.py.a1 p hp;rw [jJ h];omega
 ·have a:=s.py.a2 p hp;have b:=s'.py.a2 p hp;rw [jJ h];omega
 ·have a:=s.py.u1 p hp;have b:=s'.py.u1 p hp;omega
 ·have a:=s.py.u2 p hp;have b:=s'.py.u2 p hp;omega
theorem zda{T U:List Int}(h:T.length=U.length)(ls:List (List Int))(f:Int):yv (ul T U) ls f=yv T ls f+yv U ls f:=by
 unfold yv
 rw [jJ h,jJ h];omega
theorem zdw{T U:List Int}(h:T.length=U.length)(ls:List (List Int))(x:Int × Bool):yG (ul T U) ls x=yG T ls x+yG U ls x:=by
 unfold yG
 rw [zda h]
 split
 ·rfl
 ·omega
noncomputable def Calm(T:List Int)(ls:List (List Int))(B:List Int)(R:List (Int × Bool)):Prop:=(∀ f ∈ B,yv T ls f=0)/\∀ x ∈ R,yG T ls x≤0
theorem zdz{T:List Int}{ls:List (List Int)}{B:List Int}{R:List (Int × Bool)}(h:Calm T ls B R):uc T ls B R=.non:=by
 have h1:B.find? (fun f=>decide (yv T ls f≠0))=none:=List.find?_eq_none.mpr fun f hf=>by rw [decide_eq_false (fun z=>z (h.1 f hf))];exact Bool.false_ne_true
 have h2:R.find? (fun x=>decide (0<yG T ls x))=none:=List.find?_eq_none.mpr fun x hx=>by
  have:=h.2 x hx
  rw [decide_eq_false (by omega)];exact Bool.false_ne_true
 unfold uc
 rw [h1]
 dsimp only
 rw [h2]
theorem zkj{T:List Int}{ls:List (List Int)}{B:List Int}{R:List (Int × Bool)}(h:¬ Calm T ls B R):∃ ps,uc T ls B R=.tup ps:=by
 unfold uc
 split
 ·exact ⟨_,rfl⟩
 ·rename_i h1
  split
  ·exact ⟨_,rfl⟩
  ·rename_i h2
   exact absurd ⟨fun f hf=>Classical.byContradiction fun z=>List.find?_eq_none.mp h1 f hf (decide_eq_true z),fun x hx=>Int.not_lt.mp fun z=>List.find?_eq_none.mp h2 x hx (decide_eq_true z)⟩ h
theorem Calm.add{T U:List Int}(h:T.length=U.length){ls:List (List Int)}{B:List Int}{R:List (Int × Bool)}(a:Calm T ls B R)(b:Calm U ls B R):Calm (ul T U) ls B R:=
 ⟨fun f hf=>by rw [zda h,a.1 f hf,b.1 f hf];rfl,fun x hx=>by rw [zdw h];have:=a.2 x hx;have:=b.2 x hx;omega⟩
theorem zkm{w h:Int}{F:List Int}{rs cs:List (Int × Nat)}{L:List Int}{G:Int->PV}(S:Strips w h F rs cs)(C:Cross w h F (zm w rs cs) L G){B:List Int}(hB:∀ p ∈ B,p ∈ F){R:List (Int × Bool)}(hR:∀ x ∈ R,x.1 ∈ F){T U:List Int}(hT:T.length=rs.length+cs.length)(hU:U.length=rs.length+cs.length):
  wK [flV w h F,.lst (B.map PV.int),.lst (R.map zb),.lst (T.map PV.int),.lst (U.map PV.int)]=some (.bl true):=by
 have hll:=S.lens
 have hTU:T.length=U.length:=hT.trans hU.symm
 have two:∀ {V:List Int},V.length=rs.length+cs.length->∀ p ∈ F,Two V (zm w rs cs) p:=fun {V} hV p hp=>by
  obtain ⟨i1,i2,i3,i4⟩:=S.rc_of hp
  exact ⟨_,_,i1,by omega,by omega⟩
 have hbr:=fun {V:List Int} (hV:V.length=rs.length+cs.length)=>k7 C (T:=V) (fun f hf=>⟨hB f hf,two hV f (hB f hf)⟩) (fun x hx=>⟨hR x hx,two hV _ (hR x hx)⟩)
 have hsl:=fun {V:List Int} (hV:V.length=rs.length+cs.length) {x:Int × Bool} (hx:x ∈ R)=>qu C (T:=V) ⟨hR x hx,two hV _ (hR x hx)⟩
 have ha:=zaX (T:=T) (U:=U) (by omega)
 have ha2:=zaX (T:=T) (U:=T) (by omega)
 have hSl:(ul T U).length=rs.length+cs.length:=by rw [qk hTU,hT]
 have hDl:(ul T T).length=rs.length+cs.length:=by rw [qk rfl,hT]
 have gad:=zdw hTU (zm w rs cs)
 generalize hls:zm w rs cs=ls at *
 have b1:=hbr hT
 have b2:=hbr hU
 have b3:=hbr hSl
 have b4:=hbr hDl
 have cadd:=fun (a:Calm T ls B R) (b:Calm U ls B R)=>a.add hTU b
 have cdbl:=fun (a:Calm T ls B R)=>a.add rfl a
 have s1:=fun {x:Int × Bool} (hx:x ∈ R)=>hsl hT hx
 have s2:=fun {x:Int × Bool} (hx:x ∈ R)=>hsl hU hx
 have s3:=fun {x:Int × Bool} (hx:x ∈ R)=>hsl hSl hx
 clear hbr hsl
 generalize ul T U=V at *
 generalize ul T T=D at *
 let mk:Option PV->Option PV->En:=fun x5 x6=>[some (flV w h F),some (.lst (B.map PV.int)),some (.lst (R.map zb)),some (.lst (T.map PV.int)),some (.lst (U.map PV.int)),x5,x6]
 let P5:=some (PV.lst (V.map PV.int))
 suffices hz:∃ e,vS (mk none none)=some (.rt (.bl true) e) by
  obtain ⟨e,hz⟩:=hz
  exact yo _ rfl hz
 unfold vS
 rw [zH (e:=mk P5 none) (yB (as:=[.lst (T.map PV.int),.lst (U.map PV.int)]) rfl ha)]
 have c1:zJ yR (zC (zA 0) (zC (zA 1) (zC (zA 2) (zC (zA 3) zI)))) (mk P5 none)=some (uc T ls B R):=zY (as:=[flV w h F,.lst (B.map PV.int),.lst (R.map zb),.lst (T.map PV.int)]) rfl b1
 have c2:zJ yR (zC (zA 0) (zC (zA 1) (zC (zA 2) (zC (zA 4) zI)))) (mk P5 none)=some (uc U ls B R):=zY (as:=[flV w h F,.lst (B.map PV.int),.lst (R.map zb),.lst (U.map PV.int)]) rfl b2
 have no:∀ {f:FE} {V:List Int},f (mk P5 none)=some (uc V ls B R)->¬ Calm V ls B R->fT (fOp zgP f (fC .non)) (mk P5 none)=some false:=fun {f V} hf hn=>by
  obtain ⟨ps,hp⟩:=zkj hn
  rw [qL,yK,hf,hp];rfl
 have yes:∀ {f:FE} {V:List Int},f (mk P5 none)=some (uc V ls B R)->Calm V ls B R->fT (fOp zgP f (fC .non)) (mk P5 none)=some true:=fun {f V} hf hc=>by
  rw [qL,yK,hf,zdz hc];rfl
 have ynot:∀ {f:FE} {V:List Int},f (mk P5 none)=some (uc V ls B R)->Calm V ls B R->fT (fOp zeS f (fC .non)) (mk P5 none)=some false:=fun {f V} hf hc=>by
  rw [qL,yK,hf,zdz hc];rfl
 by_cases q1:Calm T ls B R
 ·by_cases q2:Calm U ls B R
  ·have c3:zJ yR (zC (zA 0) (zC (zA 1) (zC (zA 2) (zC (zA 5) zI)))) (mk P5 none)=some (uc V ls B R):=zY (as:=[flV w h F,.lst (B.map PV.int),.lst (R.map zb),.lst (V.map PV.int)]) rfl b3
   have c4:zJ yR (zC (zA 0) (zC (zA 1) (zC (zA 2) (zC (zJ yM (zC (zA 3) (zC (zA 3) zI))) zI)))) (mk P5 none)=some (uc D ls B R):=zY (as:=[flV w h F,.lst (B.map PV.int),.lst (R.map zb),.lst (D.map PV.int)]) (by
    rw [zU,zU,zU,zU,zY (as:=[.lst (T.map PV.int),.lst (T.map PV.int)]) rfl ha2];rfl) b4
   obtain ⟨e,l1,x6,rfl⟩:=yj (b:=zL 6) (g:=v6) (xs:=R) (hh:=zb) (env:=mk P5 none) (fun _ e=>∃ x6,e=mk P5 x6) ⟨_,rfl⟩ (by
    rintro pre x post e hF ⟨x6,rfl⟩
    have hx:x ∈ R:=by rw [hF];simp
    refine ⟨mk P5 (some (zb x)),mk P5 (some (zb x)),rfl,.inl ?_,_,rfl⟩
    have d1:zJ yD (zC (zA 0) (zC (zA 5) (zC (zA 6) zI))) (mk P5 (some (zb x)))=some (.bl (decide (yG V ls x<0))):=zY (as:=[flV w h F,.lst (V.map PV.int),zb x]) rfl (s3 hx)
    have d2:zJ yD (zC (zA 0) (zC (zA 3) (zC (zA 6) zI))) (mk P5 (some (zb x)))=some (.bl (decide (yG T ls x<0))):=zY (as:=[flV w h F,.lst (T.map PV.int),zb x]) rfl (s1 hx)
    have d3:zJ yD (zC (zA 0) (zC (zA 4) (zC (zA 6) zI))) (mk P5 (some (zb x)))=some (.bl (decide (yG U ls x<0))):=zY (as:=[flV w h F,.lst (U.map PV.int),zb x]) rfl (s2 hx)
    have g1:=gad x
    have g2:=q1.2 x hx
    have g3:=q2.2 x hx
    have d4:zgm (zJ yD (zC (zA 0) (zC (zA 3) (zC (zA 6) zI)))) (zJ yD (zC (zA 0) (zC (zA 4) (zC (zA 6) zI)))) (mk P5 (some (zb x)))=some (.bl (decide (yG V ls x<0))):=by
     rw [zlQ,d2,Option.bind_some]
     show ((some (decide (yG T ls x<0))).bind fun k=>if k=true then some (PV.bl true) else _)=_
     rw [Option.bind_some,d3]
     by_cases z:yG T ls x<0
     ·rw [decide_eq_true z,if_pos rfl,decide_eq_true (by omega)]
     ·rw [decide_eq_false z,if_neg Bool.false_ne_true]
      have e:(yG U ls x<0) ↔ (yG V ls x<0):=by omega
      rw [decide_eq_decide.mpr e]
    unfold v6
    have t1:fT (fOp vNe (zJ yD (zC (zA 0) (zC (zA 5) (zC (zA 6) zI)))) (zgm (zJ yD (zC (zA 0) (zC (zA 3) (zC (zA 6) zI)))) (zJ yD (zC (zA 0) (zC (zA 4) (zC (zA 6) zI)))))) (mk P5 (some (zb x)))=some false:=by
     rw [qL,yK,d1,d4,Option.bind_some,Option.bind_some,qR (zcs _) (by decide)];rfl
    rw [yc,t1];rfl)
   refine ⟨mk P5 x6,?_⟩
   rw [zH (e:=mk P5 x6) (by
    rw [yc,zcP,yes c1 q1,Option.bind_some,if_pos rfl,yes c2 q2,Option.bind_some,if_pos rfl]
    rw [zH (e:=mk P5 none) (by rw [yc,ynot c3 (cadd q1 q2)];rfl)]
    rw [zH (e:=mk P5 none) (by rw [yc,ynot c4 (cdbl q1)];rfl)]
    rw [yZ];exact l1)]
   rfl
  ·refine ⟨mk P5 none,?_⟩
   rw [zH (e:=mk P5 none) (by rw [yc,zcP,yes c1 q1,Option.bind_some,if_pos rfl,no c2 q2];rfl)]
   rfl
 ·refine ⟨mk P5 none,?_⟩
  rw [zH (e:=mk P5 none) (by rw [yc,zcP,no c1 q1];rfl)]
  rfl
theorem jw{α:Type}{p q:α->Bool}:∀ {l:List α},(∀ a ∈ l,p a=q a)->l.find? p=l.find? q
 | [],_=>rfl
 | a::l,h=>by
  rw [List.find?_cons,List.find?_cons,h a List.mem_cons_self,jw fun b hb=>h b (List.mem_cons_of_mem _ hb)]
theorem zaA{T:List Int}{m:Int}{k:Nat}(h:k<T.length):(T.map (·+m)).getD k 0=T.getD k 0+m:=by
 simp only [List.getD_eq_getElem?_getD,List.getElem?_map,List.getElem?_eq_getElem h,Option.map_some,Option.getD_some]
theorem qz{T:List Int}{m:Int}{ls:List (List Int)}{f:Int}(h:Two T ls f):yv (T.map (·+m)) ls f=yv T ls f:=by
 obtain ⟨r,c,hi,hr,hc⟩:=h
 have e:rc ls f=(r,c):=by unfold rc;rw [hi]
 unfold yv
 rw [e]
 show (T.map (·+m)).getD c 0 - (T.map (·+m)).getD r 0=T.getD c 0 - T.getD r 0
 rw [zaA hr,zaA hc]
 omega
theorem zaz{T:List Int}{m:Int}{ls:List (List Int)}{x:Int × Bool}(h:Two T ls x.1):yG (T.map (·+m)) ls x=yG T ls x:=by
 unfold yG
 rw [qz h]
theorem zgp{T:List Int}{m:Int}{ls:List (List Int)}{B:List Int}{R:List (Int × Bool)}(hB:∀ f ∈ B,Two T ls f)(hR:∀ x ∈ R,Two T ls x.1):uc (T.map (·+m)) ls B R=uc T ls B R:=by
 unfold uc
 rw [jw (l:=B) (p:=fun f=>decide (yv (T.map (·+m)) ls f≠0)) (q:=fun f=>decide (yv T ls f≠0)) fun f hf=>by rw [qz (hB f hf)],
  jw (l:=R) (p:=fun x=>decide (0<yG (T.map (·+m)) ls x)) (q:=fun x=>decide (0<yG T ls x)) fun x hx=>by rw [zaz (hR x hx)]]
theorem zhc{w h:Int}{F:List Int}{rs cs:List (Int × Nat)}(S:Strips w h F rs cs){T:List Int}{m:Int}(hT:T.length=rs.length+cs.length)(hm:∀ k,k<T.length->T.getD k 0=m):Spd w F (zm w rs cs) T (fun c => -(m * (c / (w+1)))) (fun c=>m * (c % (w+1))):=by
 have w1:=S.fl.w1
 have r1:∀ p ∈ F,T.getD (rc (zm w rs cs) p).1 0=m/\T.getD (rc (zm w rs cs) p).2 0=m:=fun p hp=>by
  obtain ⟨i1,i2,i3,i4⟩:=S.rc_of hp
  exact ⟨hm _ (by omega),hm _ (by omega)⟩
 refine ⟨⟨fun p hp=>?_,fun p hp=>?_,fun p hp=>?_,fun p hp=>?_⟩,⟨fun p hp=>?_,fun p hp=>?_,fun p hp=>?_,fun p hp=>?_⟩⟩<;>obtain ⟨⟨z1,z2⟩,⟨z3,z4⟩,⟨z5,z6⟩,⟨z7,z8⟩⟩:=cxy (p:=p) w1<;>obtain ⟨u1,u2⟩:=r1 p hp
 ·rw [z2,z4];omega
 ·rw [z6,z8];omega
 ·rw [z2,z6,u1,Int.mul_add,Int.mul_one];omega
 ·rw [z4,z8,u1,Int.mul_add,Int.mul_one];omega
 ·rw [z1,z3,u2,Int.mul_add,Int.mul_one]
 ·rw [z5,z7,u2,Int.mul_add,Int.mul_one]
 ·rw [z1,z5];omega
 ·rw [z3,z7];omega
theorem zhe(w m a b:Int):spD w (fun c => -(m * (c / (w+1)))) (fun c=>m * (c % (w+1))) a b=0:=by
 show (-(m * (b / (w+1))) - -(m * (a / (w+1)))) * (b % (w+1) - a % (w+1))+(m * (b % (w+1)) - m * (a % (w+1))) * (b / (w+1) - a / (w+1))=0
 generalize a % (w+1)=ax
 generalize b % (w+1)=bx
 generalize a / (w+1)=ay
 generalize b / (w+1)=bY
 have e1 : -(m * bY) - -(m * ay) = -(m * (bY - ay)):=by rw [Int.mul_sub];omega
 have e2:m * bx - m * ax=m * (bx - ax):=by rw [Int.mul_sub]
 rw [e1,e2,Int.neg_mul,Int.mul_right_comm m (bY - ay)]
 omega
theorem zib(ns:List Int)(hl:ns.length≤63)(hb:∀ m ∈ ns,Builtin.Int.intBits m≤1048576):qY [.fls (ns.map PV.int)]=some (.bl true):=by
 have Sc:Scr ns:=⟨hl,hb⟩
 obtain ⟨w,h,F,h1,fl⟩:=ziv Sc (k:=0) (by decide) (by decide)
 have fz:=yx fl
 obtain ⟨rs,cs,L,G,S,hst,C⟩:=zgw fl
 have hs:=zbg S
 have hll:=S.lens
 have hsl:=ql w rs cs
 obtain ⟨B,h3,hBs⟩:=zgE Sc (k:=2) (by decide) (by decide) (w:=w) (h:=h) fz
 have hB:∀ p ∈ B,p ∈ F:=fun p hp=>hBs.subset hp
 have hBl:B.length≤36:=Nat.le_trans hBs.length_le fz
 obtain ⟨R,h4,hR,hRl⟩:=zhk Sc (k:=4) (by decide) (by decide) (w:=w) (h:=h) (B:=B) fz
 obtain ⟨T,h5,hT⟩:=zff Sc (k:=6) (by decide) (by decide) S hB (by omega) hR (by omega)
 obtain ⟨U,h6,hU⟩:=zff Sc (k:=8) (by decide) (by decide) S hB (by omega) hR (by omega)
 have hTU:T.length=U.length:=hT.trans hU.symm
 obtain ⟨X,Y,sp⟩:=zhd S T
 obtain ⟨X',Y',sp'⟩:=zhd S U
 obtain ⟨c0,hc0,h7⟩:=jK S C hT sp
 obtain ⟨c0',hc0',h8⟩:=jK S C hU sp'
 rw [hc0] at hc0'
 cases hc0'
 obtain ⟨c0',hc0',h9⟩:=jK S C (by rw [qk hTU];exact hT) (sp.add hTU sp')
 rw [hc0] at hc0'
 cases hc0'
 have hadd:=zaX (T:=T) (U:=U) (by omega)
 have hcalm:=zkm S C hB hR hT hU
 obtain ⟨c10,hc10⟩:=wP Sc (k:=10) (by decide) (by decide)
 obtain ⟨c11,hc11⟩:=wP Sc (k:=11) (by decide) (by decide)
 obtain ⟨c12,hc12⟩:=wP Sc (k:=12) (by decide) (by decide)
 obtain ⟨m,hm⟩:∃ m,m=c10 % 1999 - 999:=⟨_,rfl⟩
 have two:∀ p ∈ F,Two T (zm w rs cs) p:=fun p hp=>by
  obtain ⟨i1,i2,i3,i4⟩:=S.rc_of hp
  exact ⟨_,_,i1,by omega,by omega⟩
 have two':∀ p ∈ F,Two (T.map (·+m)) (zm w rs cs) p:=fun p hp=>by
  obtain ⟨i1,i2,i3,i4⟩:=S.rc_of hp
  exact ⟨_,_,i1,by rw [List.length_map];omega,by rw [List.length_map];omega⟩
 have hb1:=k7 C (B:=B) (R:=R) (fun f hf=>⟨hB f hf,two f (hB f hf)⟩) (fun x hx=>⟨hR x hx,two _ (hR x hx)⟩)
 have hb2:=k7 C (B:=B) (R:=R) (fun f hf=>⟨hB f hf,two' f (hB f hf)⟩) (fun x hx=>⟨hR x hx,two' _ (hR x hx)⟩)
 rw [zgp (fun f hf=>two f (hB f hf)) (fun x hx=>two _ (hR x hx))] at hb2
 have okd:=zjR T (zm w rs cs) B R
 have hsk:∀ x ∈ R,yD [flV w h F,.lst (T.map PV.int),zb x]=some (.bl (decide (yG T (zm w rs cs) x<0)))/\yD [flV w h F,.lst ((T.map (·+m)).map PV.int),zb x]=some (.bl (decide (yG T (zm w rs cs) x<0))):=fun x hx=>by
  refine ⟨qu C ⟨hR x hx,two _ (hR x hx)⟩,?_⟩
  rw [qu C ⟨hR x hx,two' _ (hR x hx)⟩,zaz (two _ (hR x hx))]
 have hfl:=fun {a b:Int} (ha:a ∈ xY w F) (hb:b ∈ xY w F)=>zeb S C (T:=T.map fun _=>m) (by rw [List.length_map];exact hT) (zhc S (m:=m) (by rw [List.length_map];exact hT) fun k hk=>by
  rw [List.length_map] at hk
  simp only [List.getD_eq_getElem?_getD,List.getElem?_map,List.getElem?_eq_getElem hk,Option.map_some,Option.getD_some]) ha hb
 have cz:=zaR fl
 obtain ⟨f0,hf0⟩:=List.exists_mem_of_ne_nil F fl.ne
 have hc0p:1≤(xY w F).length:=List.length_pos_of_mem (mem_corF.mpr ⟨f0,hf0,(by simp [cAt]:f0+f0 / w ∈ cAt w f0)⟩)
 generalize uc T (zm w rs cs) B R=du at *
 generalize yw (zm w rs cs)=LV at *
 generalize hcor:xY w F=CO at *
 have pick:∀ c:Int,∃ a ∈ CO,atI (CO.map (yn X Y c0)) (c % (CO.length:Int))=some (yn X Y c0 a):=fun c=>by
  have m0:=Int.emod_nonneg c (show (CO.length:Int)≠0 by omega)
  have m1:=Int.emod_lt_of_pos c (show 0<(CO.length:Int) by omega)
  obtain ⟨k,hk⟩:=Int.eq_ofNat_of_zero_le m0
  rw [hk] at m1 ⊢
  have hlt:k<CO.length:=by omega
  refine ⟨CO[k],List.getElem_mem hlt,?_⟩
  rw [qX,atI_nat hlt];rfl
 obtain ⟨a,ha,pa⟩:=pick c11
 obtain ⟨b,hb',pb⟩:=pick c12
 have hst0:=hfl ha hb'
 rw [zhe] at hst0
 let mk:Option PV->Option PV->Option PV->Option PV->Option PV->Option PV->Option PV->Option PV->Option PV->Option PV->Option PV->Option PV->Option PV->En:=fun x1 x2 x3 x4 x5 x6 x7 x8 x9 x10 x11 x12 x13=>[some (scr ns),x1,x2,x3,x4,x5,x6,x7,x8,x9,x10,x11,x12,x13]
 let P1:=some (flV w h F)
 let P2:=some LV
 let P3:=some (PV.lst (B.map PV.int))
 let P4:=some (PV.lst (R.map zb))
 let P5:=some (PV.lst (T.map PV.int))
 let P6:=some (PV.lst (U.map PV.int))
 let P7:=some (PV.lst (CO.map (yn X Y c0)))
 let P8:=some (PV.lst (CO.map (yn (fun c=>X c+X' c) (fun c=>Y c+Y' c) c0)))
 let P9:=some (PV.int m)
 let P10:=some (PV.lst ((T.map (·+m)).map PV.int))
 let V:Option PV->Option PV->Option PV->En:=fun x11 x12 x13=>mk P1 P2 P3 P4 P5 P6 P7 P8 P9 P10 x11 x12 x13
 obtain ⟨R6,hR6,hR6s⟩:∃ R6:List (Int × Bool),zbk (R.map zb) none (some 6)=R6.map zb/\∀ x ∈ R6,x ∈ R:=by
  refine ⟨(R.drop (HT.sIx (R.map zb).length 0 none)).take (HT.sIx (R.map zb).length (R.map zb).length (some 6) - HT.sIx (R.map zb).length 0 none),?_,fun x hx=>List.mem_of_mem_drop (List.mem_of_mem_take hx)⟩
  unfold zbk
  rw [List.map_take,List.map_drop]
 obtain ⟨e,l1,x11,rfl⟩:=yj (b:=zL 11) (g:=zcJ) (xs:=R6) (hh:=zb) (env:=V none none none) (fun _ e=>∃ x11,e=V x11 none none) ⟨_,rfl⟩ (by
  rintro pre x post e hF ⟨x11,rfl⟩
  obtain ⟨g1,g2⟩:=hsk x (hR6s x (by rw [hF];simp))
  refine ⟨V (some (zb x)) none none,V (some (zb x)) none none,rfl,.inl ?_,_,rfl⟩
  unfold zcJ
  have t1:fT (fOp vNe (zJ yD (zC (zA 1) (zC (zA 10) (zC (zA 11) zI)))) (zJ yD (zC (zA 1) (zC (zA 5) (zC (zA 11) zI))))) (V (some (zb x)) none none)=some false:=by
   rw [qL,yK,zY (as:=[flV w h F,.lst ((T.map (·+m)).map PV.int),zb x]) rfl g2,zY (as:=[flV w h F,.lst (T.map PV.int),zb x]) rfl g1,Option.bind_some,Option.bind_some,qR (zcs _) (by decide)];rfl
  rw [yc,t1];rfl)
 refine yo (e:=V x11 (some (.int a)) (some (.int b))) (mk none none none none none none none none none none none none none) rfl ?_
 unfold zir
 rw [zH (e:=mk P1 none none none none none none none none none none none none) (yB (as:=[scr ns,.int 0]) rfl h1)]
 rw [zH (e:=mk P1 P2 none none none none none none none none none none none) (yB (as:=[flV w h F]) rfl hs)]
 rw [zH (e:=mk P1 P2 P3 none none none none none none none none none none) (yB (as:=[scr ns,.int 2,flV w h F]) rfl h3)]
 rw [zH (e:=mk P1 P2 P3 P4 none none none none none none none none none) (yB (as:=[scr ns,.int 4,flV w h F,.lst (B.map PV.int)]) rfl h4)]
 rw [zH (e:=mk P1 P2 P3 P4 P5 none none none none none none none none) (yB (as:=[scr ns,.int 6,LV,.lst (B.map PV.int),.lst (R.map zb)]) rfl h5)]
 rw [zH (e:=mk P1 P2 P3 P4 P5 P6 none none none none none none none) (yB (as:=[scr ns,.int 8,LV,.lst (B.map PV.int),.lst (R.map zb)]) rfl h6)]
 rw [zH (e:=mk P1 P2 P3 P4 P5 P6 P7 none none none none none none) (yB (as:=[flV w h F,.lst (T.map PV.int)]) rfl h7)]
 rw [zH (e:=mk P1 P2 P3 P4 P5 P6 P7 P8 none none none none none) (kF (by
  have hz:zbh (zC (zA 7) (zC (zJ xD (zC (zA 1) (zC (zA 6) zI))) zI)) (mk P1 P2 P3 P4 P5 P6 P7 none none none none none none)=some (CO.map fun c=>PV.tup [yn X Y c0 c,yn X' Y' c0 c]):=by
   rw [zcM,zU,zU,zY (as:=[flV w h F,.lst (U.map PV.int)]) rfl h8]
   show some ((List.zip (CO.map (yn X Y c0)) (CO.map (yn X' Y' c0))).map fun z=>PV.tup [z.1,z.2])=_
   rw [List.zip_map',List.map_map];rfl
  refine lcv (qs:=CO.map fun c=>PV.tup [yn X Y c0 c,yn X' Y' c0 c]) hz rfl (by rw [List.length_map];omega) ?_
  refine yu _ CO fun c _=>⟨[some (yn X Y c0 c),some (yn X' Y' c0 c)],rfl,rfl,?_⟩
  have e0:fOp vIx (zA 0) (fC (.int 0)) [some (yn X Y c0 c),some (yn X' Y' c0 c)]=some (.int c):=zbU rfl
  have e1:fOp vIx (zA 0) (fC (.int 1)) [some (yn X Y c0 c),some (yn X' Y' c0 c)]=some (.int (X c - X c0)):=zfK rfl
  have e2:fOp vIx (zA 0) (fC (.int 2)) [some (yn X Y c0 c),some (yn X' Y' c0 c)]=some (.int (Y c - Y c0)):=zji rfl
  have e3:fOp vIx (zA 1) (fC (.int 1)) [some (yn X Y c0 c),some (yn X' Y' c0 c)]=some (.int (X' c - X' c0)):=zfK rfl
  have e4:fOp vIx (zA 1) (fC (.int 2)) [some (yn X Y c0 c),some (yn X' Y' c0 c)]=some (.int (Y' c - Y' c0)):=zji rfl
  rw [jH,zU,zdD e0 rfl,zU,yK,e1,e3,zU,yK,e2,e4]
  show some (PV.tup [.int c,.int (X c - X c0+(X' c - X' c0)),.int (Y c - Y c0+(Y' c - Y' c0))])=some (PV.tup [.int c,.int (X c+X' c - (X c0+X' c0)),.int (Y c+Y' c - (Y c0+Y' c0))])
  have q1:X c - X c0+(X' c - X' c0)=X c+X' c - (X c0+X' c0):=by omega
  have q2:Y c - Y c0+(Y' c - Y' c0)=Y c+Y' c - (Y c0+Y' c0):=by omega
  rw [q1,q2]))]
 let E8:=mk P1 P2 P3 P4 P5 P6 P7 P8 none none none none none
 rw [zH (e:=E8) (by
  have v8:zA 8 E8=some (.lst (CO.map (yn (fun c=>X c+X' c) (fun c=>Y c+Y' c) c0))):=rfl
  have ad:zJ yM (zC (zA 5) (zC (zA 6) zI)) E8=some (.lst ((ul T U).map PV.int)):=zY (as:=[.lst (T.map PV.int),.lst (U.map PV.int)]) rfl hadd
  have t1:fT (fOp vNe (zJ xD (zC (zA 1) (zC (zJ yM (zC (zA 5) (zC (zA 6) zI))) zI))) (zA 8)) E8=some false:=by
   rw [qL,yK,zY (as:=[flV w h F,.lst ((ul T U).map PV.int)]) (by rw [zU,zU,ad];rfl) h9,v8,Option.bind_some,Option.bind_some,qR (zhQ _ _ c0 CO) (by decide)];rfl
  have t2:ziA (zix (zJ wK (zC (zA 1) (zC (zA 3) (zC (zA 4) (zC (zA 5) (zC (zA 6) zI))))))) E8=some false:=by
   rw [zlR];unfold zix
   rw [zY (as:=[flV w h F,.lst (B.map PV.int),.lst (R.map zb),.lst (T.map PV.int),.lst (U.map PV.int)]) rfl hcalm];rfl
  rw [yc,znh,t1,Option.bind_some,if_neg Bool.false_ne_true,t2];rfl)]
 rw [zH (e:=mk P1 P2 P3 P4 P5 P6 P7 P8 P9 none none none none) (kF (by
  rw [yK,yK,zY (as:=[scr ns,.int 10]) rfl hc10]
  show ((yg (.int c10) (.int 1999)).bind fun x=>wT x (.int 999))=_
  rw [yQ (by decide),hm];rfl))]
 rw [zH (e:=V none none none) (kF (lcv (qs:=T.map PV.int) rfl rfl (by rw [List.length_map];omega) (by
  rw [List.map_map]
  exact yu _ T fun t _=>⟨[some (.int t),some (.int m)],rfl,rfl,rfl⟩)))]
 rw [zH (e:=V none none none) (by
  have t1:fT (fOp vNe (zJ yR (zC (zA 1) (zC (zA 3) (zC (zA 4) (zC (zA 10) zI))))) (zJ yR (zC (zA 1) (zC (zA 3) (zC (zA 4) (zC (zA 5) zI)))))) (V none none none)=some false:=by
   rw [qL,yK,zY (as:=[flV w h F,.lst (B.map PV.int),.lst (R.map zb),.lst ((T.map (·+m)).map PV.int)]) rfl hb2,zY (as:=[flV w h F,.lst (B.map PV.int),.lst (R.map zb),.lst (T.map PV.int)]) rfl hb1,Option.bind_some,Option.bind_some,qR okd (by decide)];rfl
  rw [yc,t1];rfl)]
 rw [zH (e:=V x11 none none) (by
  have hs6:zc (fSl (zA 4) ua (zaH (fC (.int 6)))) (V none none none)=some (R6.map zb):=by
   rw [xC]
   unfold fSl
   show (vSl (.lst (R.map zb)) none (some 6)).bind wk=_
   unfold vSl
   dsimp only
   rw [if_pos (zeE R),hR6];rfl
  rw [yZ,hs6];exact l1)]
 have ln:∀ x12 x13,zJ wM (zC (zA 7) zI) (V x11 x12 x13)=some (.int (CO.length:Int)):=fun x12 x13=>zY (as:=[.lst (CO.map (yn X Y c0))]) rfl (by rw [zcv,List.length_map])
 rw [zH (e:=V x11 (some (.int a)) none) (kF (by
  have hr:fOp vIx (zA 7) (fOp yg (zJ zV (zC (zA 0) (zC (fC (.int 11)) zI))) (zJ wM (zC (zA 7) zI))) (V x11 none none)=some (yn X Y c0 a):=by
   rw [yK,yK,zY (as:=[scr ns,.int 11]) rfl hc11,ln]
   show ((yg (.int c11) (.int (CO.length:Int))).bind fun y=>vIx (.lst (CO.map (yn X Y c0))) y)=_
   rw [yQ (by omega)];exact pa
  exact zbU hr))]
 rw [zH (e:=V x11 (some (.int a)) (some (.int b))) (kF (by
  have hr:fOp vIx (zA 7) (fOp yg (zJ zV (zC (zA 0) (zC (fC (.int 12)) zI))) (zJ wM (zC (zA 7) zI))) (V x11 (some (.int a)) none)=some (yn X Y c0 b):=by
   rw [yK,yK,zY (as:=[scr ns,.int 12]) rfl hc12,ln]
   show ((yg (.int c12) (.int (CO.length:Int))).bind fun y=>vIx (.lst (CO.map (yn X Y c0))) y)=_
   rw [yQ (by omega)];exact pb
  exact zbU hr))]
 have hcm:fLC (zc (zA 5)) 1 [9] (zL 0) wo (zx (zA 1)) (V x11 (some (.int a)) (some (.int b)))=some (.lst ((T.map fun _=>m).map PV.int)):=lcv (qs:=T.map PV.int) rfl rfl (by rw [List.length_map];omega) (by
  rw [List.map_map]
  exact yu _ T fun t _=>⟨[some (.int t),some (.int m)],rfl,rfl,rfl⟩)
 rw [vL,yK,zY (as:=[flV w h F,.lst ((T.map fun _=>m).map PV.int),.int a,.int b]) (by rw [zU,zU,hcm];rfl) hst0];rfl
end Cb
namespace Cb
open PySem L2 F PyProof.Rows
noncomputable def top(i:Nat):Stmt:=PySem.Challenge.pw_crossbrace_k12_whole_leans_added.main.body.getD i (.Pass ⟨0,0,0,0⟩)
structure Blt (mg:Str->Option Value):Prop where
 enumerate_:mg "enumerate"=none
 int_:mg "int"=none
 len_:mg "len"=none
 list_:mg "list"=none
 max_:mg "max"=none
 range_:mg "range"=none
 set_:mg "set"=none
 sorted_:mg "sorted"=none
 sum_:mg "sum"=none
 tuple_:mg "tuple"=none
 zip_:mg "zip"=none
variable {P:Program} {w:World} {K:PySem.W.Frag} {mg:Str->Option Value} {base:Heap} {f:Addr} {fd:FuncData}
noncomputable abbrev uu:Stmt:=top 25
theorem sc__law_cell:FnScope ["_law_script","_law_k"] ["_law_script","_law_k"] (zS uu):=⟨rfl,rfl,rfl,by decide +kernel,rfl,by decide +kernel,by decide +kernel⟩
theorem zcn(F:Fun K "_law_cell" "_law_cell" uu f fd)(B:Blt mg):FnOk P w K mg base CX0 1 f fd ["_law_script","_law_k"] (spV K 2 zV):=
 xm (g:=jA) (n:=2) (m:=2) [] rfl rfl (by decide) F sc__law_cell fun cdv A outer s H E hr=>by
  have nd:=sc__law_cell.nd
  have hu:=ye hr
  have hu64:=hr.units
  exact (zD (y2 (ze zhN zhK (zB 1 rfl (pv 1)) (yO xx xy (by rfl) B.len_ PySem.boot_len (zE (zB 0 rfl (pv 0)) (zF (c:=.bo)))) (yF _)) (zK (zj (VE.data (zT hu (zB 0 rfl (pv 0)) (zB 1 rfl (pv 1)) (fun _ _=>rfl)) (.mv [])))) yW)
   (zD (y2 (ze (vi hu64) jY (yO xx xy (by rfl) B.len_ PySem.boot_len (zE (zB 0 rfl (pv 0)) (zF (c:=.bo)))) zG (yF _)) (zK (zj (zQ zo zn (zQ xk xj (zQ xk xj (zB 1 rfl (pv 1)) (zB 1 rfl (pv 1))) zG) zG))) yW)
   (zK (zj (zQ zo zn (zQ xk xj (zQ yV yU (zT hu (zB 0 rfl (pv 0)) (zQ yV yU (zQ xk xj (zB 1 rfl (pv 1)) zG) (yO xx xy (by rfl) B.len_ PySem.boot_len (zE (zB 0 rfl (pv 0)) (zF (c:=.bo))))) (fun _ _=>rfl)) zG) zG) (zQ xk xj (zQ xk xj (zB 1 rfl (pv 1)) (zB 1 rfl (pv 1))) zG))))))
noncomputable abbrev vg:Stmt:=top 26
theorem sc__law_digits:FnScope ["_law_cell_here","_law_many","_law_base","_law_found","_law_left","_law_k","_law_once","_law_twice"] ["_law_cell_here","_law_many","_law_base"] (zS vg):=⟨rfl,rfl,rfl,by decide +kernel,rfl,by decide +kernel,by decide +kernel⟩
theorem zak(F:Fun K "_law_digits" "_law_digits" vg f fd)(B:Blt mg):FnOk P w K mg base CX0 1 f fd ["_law_cell_here","_law_many","_law_base"] (spV K 3 zy):=
 xm (g:=vw) (n:=3) (m:=8) [3] rfl rfl (by decide) F sc__law_digits fun cdv A outer s H E hr=>by
  have nd:=sc__law_digits.nd
  have hu:=ye hr
  have hu64:=hr.units
  exact (zD (z0 (i:=3) (by decide) (zR (i:=3) nd rfl (by first|exact .inl rfl|exact .inr rfl) (ym (zF (c:=.mv [])))))
   (zD (zN (i:=4) rfl (zR (i:=4) nd rfl (by first|exact .inl rfl|exact .inr rfl) (VE.sh (zQ xf xc (zB 0 rfl (pv 0)) zG))))
   (zD (yf PassesOwn.never rfl (zbV true (by rfl) B.range_ (zE (zB 1 rfl (pv 1)) (zF (c:=.bo)))) (zO 5 rfl (zM (i:=5) nd rfl (by first|exact .inl rfl|exact .inr rfl))) (zK (y2 (ze (vi hu64) jY (zQ yV yU (zB 0 rfl (pv 0)) zG) zG (yF _)) (zD (yS 3 (by decide) (yY (xh PySem.F.plainAttrs_list PySem.F.slot_list_append PySem.F.type_list_append zu (pv 3) (yA (zQ yV yU (zB 4 rfl (pv 4)) (zB 2 rfl (pv 2))) pa_nil))))
   (zK (zN (i:=4) rfl (zR (i:=4) nd rfl (by first|exact .inl rfl|exact .inr rfl) (VE.sh (zQ xf xc (zB 4 rfl (pv 4)) (zB 2 rfl (pv 2)))))))) (zD (zN (i:=6) rfl (zR (i:=6) nd rfl (by first|exact .inl rfl|exact .inr rfl) (VE.sh (zQ yV yU (zQ xk xj (zQ zo zn (zQ zo zn (zQ yV yU (zB 4 rfl (pv 4)) zG) (zQ xk xj zG (zB 5 rfl (pv 5)))) zG) zG) zG))))
   (zD (zN (i:=7) rfl (zR (i:=7) nd rfl (by first|exact .inl rfl|exact .inr rfl) (VE.sh (zQ yV yU (zQ xk xj (zB 6 rfl (pv 6)) (zQ zo zn (zQ yV yU (zB 6 rfl (pv 6)) zG) (zB 5 rfl (pv 5)))) zG))))
   (zK (yS 3 (by decide) (yY (xh PySem.F.plainAttrs_list PySem.F.slot_list_append PySem.F.type_list_append zu (pv 3) (yA (zQ yV yU (zQ xf xc (zQ yV yU (zQ xk xj (zB 7 rfl (pv 7)) zG) zG) zG) (zB 2 rfl (pv 2))) pa_nil))))))))))
   (zK (zj (jU 3 rfl (pv 3)))))))
noncomputable abbrev ut:Stmt:=top 27
theorem sc__law_come:FnScope ["_law_wide","_law_starts","_law_some","_law_seen","_law_row","_law_place","_law_other"] ["_law_wide","_law_starts","_law_some"] (zS ut):=⟨rfl,rfl,rfl,by decide +kernel,rfl,by decide +kernel,by decide +kernel⟩
theorem zcm(F:Fun K "_law_come" "_law_come" ut f fd)(B:Blt mg):FnOk P w K mg base CX0 1 f fd ["_law_wide","_law_starts","_law_some"] (spV K 3 xa):=
 xm (g:=u9) (n:=3) (m:=7) [3,4] rfl rfl (by decide) F sc__law_come fun cdv A outer s H E hr=>by
  have nd:=sc__law_come.nd
  have hu:=ye hr
  have hu64:=hr.units
  exact (zD (z0 (i:=3) (by decide) (zR (i:=3) nd rfl (by first|exact .inl rfl|exact .inr rfl) (ym (zF (c:=.mv [])))))
   (zD (z0 (i:=4) (by decide) (by first | exact (kK (i:=4) (ow:=["_law_place"]) (js:=[2]) (.mv []) nd rfl (by first|exact .inl rfl|exact .inr rfl) (Or.inl rfl) (by decide) rfl (zh false (zB 1 rfl (pv 1))) (fun _ _ _ _=>(zO 0 rfl (zM (i:=0) (show (["_law_place","_law_some"]:List Str).Nodup by decide +kernel) rfl (by first|exact .inl rfl|exact .inr rfl)))) (fun _ _ _ _=>(wL (ze (uC hu) uB (zB 0 rfl (pv 0)) (zB 1 rfl (pv 1)) (by with_unfolding_all rfl)))) (fun _ _ _ _=>(VE.data (zB 0 rfl (pv 0)) (.mv [])))) | exact (zR (i:=4) nd rfl (by first|exact .inl rfl|exact .inr rfl) (wB (ow:=["_law_place"]) (js:=[2]) (.mv []) (Or.inl rfl) (by decide) rfl (zh false (zB 1 rfl (pv 1))) (fun _ _ _ _=>(zO 0 rfl (zM (i:=0) (show (["_law_place","_law_some"]:List Str).Nodup by decide +kernel) rfl (by first|exact .inl rfl|exact .inr rfl)))) (fun _ _ _ _=>(wL (ze (uC hu) uB (zB 0 rfl (pv 0)) (zB 1 rfl (pv 1)) (by with_unfolding_all rfl)))) (fun _ _ _ _=>(VE.data (zB 0 rfl (pv 0)) (.mv [])))))))
   (zD (qa 1000000 PassesOwn.never (ze jZ jX (yO xx xy (by rfl) B.len_ PySem.boot_len (zE (xS 4 (pv 4)) (zF (c:=.bo)))) zG (yF _)) (zD (zkJ 5 4 (by decide) (by decide) (zR (i:=5) nd rfl (by first|exact .inl rfl|exact .inr rfl) (zlm PySem.F.plainAttrs_list PySem.F.slot_list_pop PySem.F.type_list_pop zlq (pv 4))))
   (zK (y2 (ze (vC hu) vB (zB 5 rfl (pv 5)) (xS 3 (pv 3)) (by with_unfolding_all rfl)) (zD (yS 3 (by decide) (yY (xh PySem.F.plainAttrs_list PySem.F.slot_list_append PySem.F.type_list_append zu (pv 3) (yA (VE.data (zB 5 rfl (pv 5)) (.mv [])) pa_nil))))
   (zD (yf PassesOwn.never rfl (zh true (ym (yE (VE.sh (zQ xJ xI (zB 5 rfl (pv 5)) (zB 0 rfl (pv 0)))) (yE (VE.sh (zQ zo zn (zB 5 rfl (pv 5)) (zB 0 rfl (pv 0)))) (zF (c:=.sh)))))) (zO 6 rfl (zM (i:=6) nd rfl (by first|exact .inl rfl|exact .inr rfl))) (zK (y2 (ze (uC hu) uB (zB 6 rfl (pv 6)) (zB 2 rfl (pv 2)) (by with_unfolding_all rfl)) (zK (yS 4 (by decide) (yY (xh PySem.F.plainAttrs_list PySem.F.slot_list_append PySem.F.type_list_append zu (pv 4) (yA (VE.data (zB 6 rfl (pv 6)) (.mv [])) pa_nil))))) yW)))
   (zD (y2 (VW.vt (zbR (ze jZ jX (zQ yV yU (zB 5 rfl (pv 5)) (zB 0 rfl (pv 0))) zG (yF _)) (qN (ze (uC hu) uB (zQ xJ xI (zB 5 rfl (pv 5)) zG) (zB 2 rfl (pv 2)) (by with_unfolding_all rfl))))) (zK (yS 4 (by decide) (yY (xh PySem.F.plainAttrs_list PySem.F.slot_list_append PySem.F.type_list_append zu (pv 4) (yA (zQ xJ xI (zB 5 rfl (pv 5)) zG) pa_nil))))) yW)
   (zK (y2 (VW.vt (zbR (ze zhN zhK (zQ yV yU (zB 5 rfl (pv 5)) (zB 0 rfl (pv 0))) (zQ xJ xI (zB 0 rfl (pv 0)) zG) (yF _)) (qN (ze (uC hu) uB (zQ zo zn (zB 5 rfl (pv 5)) zG) (zB 2 rfl (pv 2)) (by with_unfolding_all rfl))))) (zK (yS 4 (by decide) (yY (xh PySem.F.plainAttrs_list PySem.F.slot_list_append PySem.F.type_list_append zu (pv 4) (yA (zQ zo zn (zB 5 rfl (pv 5)) zG) pa_nil))))) yW))))) yW))))
   (zK (zj (jU 3 rfl (pv 3)))))))
noncomputable abbrev uP:Stmt:=top 28
theorem sc__law_floor:FnScope ["_law_script","_law_at","_law_cell_here","_law_wide","_law_high","_law_every","_law_drawn","_law_some","_law_fields","_law_bare","_law_rims","_law_out"] ["_law_script","_law_at"] (zS uP):=⟨rfl,rfl,rfl,by decide +kernel,rfl,by decide +kernel,by decide +kernel⟩
theorem zbe(F:Fun K "_law_floor" "_law_floor" uP f fd)(B:Blt mg)
  (c__law_cell:Fn P w K mg base "_law_cell" 1 ["_law_script","_law_k"] (spV K 2 zV))
  (c__law_digits:Fn P w K mg base "_law_digits" 1 ["_law_cell_here","_law_many","_law_base"] (spV K 3 zy))
  (c__law_come:Fn P w K mg base "_law_come" 1 ["_law_wide","_law_starts","_law_some"] (spV K 3 xa)):FnOk P w K mg base CX0 2 f fd ["_law_script","_law_at"] (spV K 2 we):=
 xm (g:=wx) (n:=2) (m:=12) [] rfl rfl (by decide) F sc__law_floor fun cdv A outer s H E hr=>by
  have nd:=sc__law_floor.nd
  have hu:=ye hr
  have hu64:=hr.units
  exact (zD (zN (i:=2) rfl (zR (i:=2) nd rfl (by first|exact .inl rfl|exact .inr rfl) (VE.sh (zP c__law_cell (hr.mono (by decide)) rfl (zE (zB 0 rfl (pv 0)) (zE (zB 1 rfl (pv 1)) (zF (c:=.bo))))))))
   (zD (zN (i:=3) rfl (zR (i:=3) nd rfl (by first|exact .inl rfl|exact .inr rfl) (VE.sh (zQ zo zn zG (zQ yV yU (zB 2 rfl (pv 2)) zG)))))
   (zD (zN (i:=4) rfl (zR (i:=4) nd rfl (by first|exact .inl rfl|exact .inr rfl) (VE.sh (zQ zo zn zG (zQ yV yU (zQ xf xc (zB 2 rfl (pv 2)) zG) zG)))))
   (zD (zN (i:=5) rfl (zR (i:=5) nd rfl (by first|exact .inl rfl|exact .inr rfl) (VE.sh (zfL (by rfl) (by rfl) B.list_ (by rfl) B.range_ (zE (zQ xk xj (zB 3 rfl (pv 3)) (zB 4 rfl (pv 4))) (zF (c:=.bo)))))))
   (zD (zN (i:=6) rfl (zR (i:=6) nd rfl (by first|exact .inl rfl|exact .inr rfl) (VE.sh (zP c__law_digits (hr.mono (by decide)) rfl (zE (zP c__law_cell (hr.mono (by decide)) rfl (zE (zB 0 rfl (pv 0)) (zE (zQ zo zn (zB 1 rfl (pv 1)) zG) (zF (c:=.bo))))) (zE (zQ xk xj (zB 3 rfl (pv 3)) (zB 4 rfl (pv 4))) (zE (zQ zo zn zG (zQ yV yU (zQ xf xc (zB 2 rfl (pv 2)) zG) zG)) (zF (c:=.bo)))))))))
   (zD (zN (i:=7) rfl (by first | exact jm (kK (i:=7) (ow:=["_law_place"]) (js:=[6]) (.mv []) nd rfl (by first|exact .inl rfl|exact .inr rfl) (Or.inl rfl) (by decide) rfl (zh false (zB 5 rfl (pv 5))) (fun _ _ _ _=>(zO 0 rfl (zM (i:=0) (show (["_law_place","_law_drawn"]:List Str).Nodup by decide +kernel) rfl (by first|exact .inl rfl|exact .inr rfl)))) (fun _ _ _ _=>(wL (ze jZ jX (zT hu (zB 1 rfl (pv 1)) (zB 0 rfl (pv 0)) (fun _ _=>rfl)) zG (yF _)))) (fun _ _ _ _=>(VE.data (zB 0 rfl (pv 0)) (.mv [])))) | exact (zR (i:=7) nd rfl (by first|exact .inl rfl|exact .inr rfl) (VE.sh (wB (ow:=["_law_place"]) (js:=[6]) (.mv []) (Or.inl rfl) (by decide) rfl (zh false (zB 5 rfl (pv 5))) (fun _ _ _ _=>(zO 0 rfl (zM (i:=0) (show (["_law_place","_law_drawn"]:List Str).Nodup by decide +kernel) rfl (by first|exact .inl rfl|exact .inr rfl)))) (fun _ _ _ _=>(wL (ze jZ jX (zT hu (zB 1 rfl (pv 1)) (zB 0 rfl (pv 0)) (fun _ _=>rfl)) zG (yF _)))) (fun _ _ _ _=>(VE.data (zB 0 rfl (pv 0)) (.mv []))))))))
   (zD (y2 (ze (vi hu64) jY (zB 7 rfl (pv 7)) (ym (zF (c:=.bo))) (yF _)) (zK (zN (i:=7) rfl (zR (i:=7) nd rfl (by first|exact .inl rfl|exact .inr rfl) (VE.sh (qd (zB 5 rfl (pv 5)) zbT (zbS zG)))))) yW)
   (zD (zN (i:=8) rfl (zR (i:=8) nd rfl (by first|exact .inl rfl|exact .inr rfl) (VE.sh (zP c__law_come (hr.mono (by decide)) rfl (zE (zB 3 rfl (pv 3)) (zE (qd (zB 7 rfl (pv 7)) zbT (zbS zG)) (zE (zB 7 rfl (pv 7)) (zF (c:=.bo)))))))))
   (zD (zN (i:=9) rfl (by first | exact jm (kK (i:=9) (ow:=["_law_place"]) (js:=[8]) (.mv []) nd rfl (by first|exact .inl rfl|exact .inr rfl) (Or.inl rfl) (by decide) rfl (zh false (zB 5 rfl (pv 5))) (fun _ _ _ _=>(zO 0 rfl (zM (i:=0) (show (["_law_place","_law_fields"]:List Str).Nodup by decide +kernel) rfl (by first|exact .inl rfl|exact .inr rfl)))) (fun _ _ _ _=>(wL (ze (vC hu) vB (zB 0 rfl (pv 0)) (zB 1 rfl (pv 1)) (by with_unfolding_all rfl)))) (fun _ _ _ _=>(VE.data (zB 0 rfl (pv 0)) (.mv [])))) | exact (zR (i:=9) nd rfl (by first|exact .inl rfl|exact .inr rfl) (VE.sh (wB (ow:=["_law_place"]) (js:=[8]) (.mv []) (Or.inl rfl) (by decide) rfl (zh false (zB 5 rfl (pv 5))) (fun _ _ _ _=>(zO 0 rfl (zM (i:=0) (show (["_law_place","_law_fields"]:List Str).Nodup by decide +kernel) rfl (by first|exact .inl rfl|exact .inr rfl)))) (fun _ _ _ _=>(wL (ze (vC hu) vB (zB 0 rfl (pv 0)) (zB 1 rfl (pv 1)) (by with_unfolding_all rfl)))) (fun _ _ _ _=>(VE.data (zB 0 rfl (pv 0)) (.mv []))))))))
   (zD (zN (i:=10) rfl (by first | exact jm (kK (i:=10) (ow:=["_law_place"]) (js:=[3,4]) (.mv []) nd rfl (by first|exact .inl rfl|exact .inr rfl) (Or.inl rfl) (by decide) rfl (zh false (zB 9 rfl (pv 9))) (fun _ _ _ _=>(zO 0 rfl (zM (i:=0) (show (["_law_place","_law_wide","_law_high"]:List Str).Nodup by decide +kernel) rfl (by first|exact .inl rfl|exact .inr rfl)))) (fun _ _ _ _=>(wL (VW.vt (zgK (ze (uC hu) uB (zQ yV yU (zB 0 rfl (pv 0)) (zB 1 rfl (pv 1))) (zq (zE zG (zE (zQ xJ xI (zB 1 rfl (pv 1)) zG) (zF (c:=.bo))))) (by with_unfolding_all rfl)) (zdQ (ze (uC hu) uB (zQ xf xc (zB 0 rfl (pv 0)) (zB 1 rfl (pv 1))) (zq (zE zG (zE (zQ xJ xI (zB 2 rfl (pv 2)) zG) (zF (c:=.bo))))) (by with_unfolding_all rfl))))))) (fun _ _ _ _=>(VE.data (zB 0 rfl (pv 0)) (.mv [])))) | exact (zR (i:=10) nd rfl (by first|exact .inl rfl|exact .inr rfl) (VE.sh (wB (ow:=["_law_place"]) (js:=[3,4]) (.mv []) (Or.inl rfl) (by decide) rfl (zh false (zB 9 rfl (pv 9))) (fun _ _ _ _=>(zO 0 rfl (zM (i:=0) (show (["_law_place","_law_wide","_law_high"]:List Str).Nodup by decide +kernel) rfl (by first|exact .inl rfl|exact .inr rfl)))) (fun _ _ _ _=>(wL (VW.vt (zgK (ze (uC hu) uB (zQ yV yU (zB 0 rfl (pv 0)) (zB 1 rfl (pv 1))) (zq (zE zG (zE (zQ xJ xI (zB 1 rfl (pv 1)) zG) (zF (c:=.bo))))) (by with_unfolding_all rfl)) (zdQ (ze (uC hu) uB (zQ xf xc (zB 0 rfl (pv 0)) (zB 1 rfl (pv 1))) (zq (zE zG (zE (zQ xJ xI (zB 2 rfl (pv 2)) zG) (zF (c:=.bo))))) (by with_unfolding_all rfl))))))) (fun _ _ _ _=>(VE.data (zB 0 rfl (pv 0)) (.mv []))))))))
   (zD (zN (i:=11) rfl (zR (i:=11) nd rfl (by first|exact .inl rfl|exact .inr rfl) (VE.sh (zP c__law_come (hr.mono (by decide)) rfl (zE (zB 3 rfl (pv 3)) (zE (zB 10 rfl (pv 10)) (zE (zB 9 rfl (pv 9)) (zF (c:=.bo)))))))))
   (zK (zj (zq (zr (VE.data (zB 3 rfl (pv 3)) (.mv [])) (zr (VE.data (zB 4 rfl (pv 4)) (.mv [])) (zr (kf zdI je (by rfl) B.tuple_ boot_tuple (zE (wB (ow:=["_law_place"]) (js:=[11]) (.mv []) (Or.inl rfl) (by decide) rfl (zh false (zB 5 rfl (pv 5))) (fun _ _ _ _=>(zO 0 rfl (zM (i:=0) (show (["_law_place","_law_out"]:List Str).Nodup by decide +kernel) rfl (by first|exact .inl rfl|exact .inr rfl)))) (fun _ _ _ _=>(wL (ze (vC hu) vB (zB 0 rfl (pv 0)) (zB 1 rfl (pv 1)) (by with_unfolding_all rfl)))) (fun _ _ _ _=>(VE.data (zB 0 rfl (pv 0)) (.mv [])))) (zF (c:=.bo)))) (zF (c:=.mv [])))))))))))))))))))
noncomputable abbrev ve:Stmt:=top 29
theorem sc__law_strips:FnScope ["_law_floor_here","_law_wide","_law_high","_law_fields","_law_rows","_law_place","_law_strip"] ["_law_floor_here"] (zS ve):=⟨rfl,rfl,rfl,by decide +kernel,rfl,by decide +kernel,by decide +kernel⟩
theorem zai(F:Fun K "_law_strips" "_law_strips" ve f fd)(B:Blt mg):FnOk P w K mg base CX0 1 f fd ["_law_floor_here"] (spV K 1 xQ):=
 xm (g:=vq) (n:=1) (m:=7) [4,6] rfl rfl (by decide) F sc__law_strips fun cdv A outer s H E hr=>by
  have nd:=sc__law_strips.nd
  have hu:=ye hr
  have hu64:=hr.units
  exact (zD (zdS (zB 0 rfl (pv 0)) (xu 3 rfl (za (zO 1 rfl (zM (i:=1) nd rfl (by first|exact .inl rfl|exact .inr rfl))) (za (zO 2 rfl (zM (i:=2) nd rfl (by first|exact .inl rfl|exact .inr rfl))) (za (zO 3 rfl (zM (i:=3) nd rfl (by first|exact .inl rfl|exact .inr rfl))) yz)))))
   (zD (z0 (i:=4) (by decide) (zR (i:=4) nd rfl (by first|exact .inl rfl|exact .inr rfl) (ym (zF (c:=.mv [])))))
   (zD (yf PassesOwn.never rfl (zh true (zB 3 rfl (pv 3))) (zO 5 rfl (zM (i:=5) nd rfl (by first|exact .inl rfl|exact .inr rfl))) (zK (y2 (VW.vt (zbR (ze jZ jX (zQ yV yU (zB 5 rfl (pv 5)) (zB 1 rfl (pv 1))) zG (yF _)) (qN (ze (uC hu) uB (zQ xJ xI (zB 5 rfl (pv 5)) zG) (zB 3 rfl (pv 3)) (by with_unfolding_all rfl))))) (zK (k9 4 (by decide) (yY (xh PySem.F.plainAttrs_list PySem.F.slot_list_append PySem.F.type_list_append zu (zhF zev (pv 4) (qc jh jg zG) (fun _ _=>rfl)) (yA (VE.data (zB 5 rfl (pv 5)) (.mv [])) pa_nil))))) (zK (yS 4 (by decide) (yY (xh PySem.F.plainAttrs_list PySem.F.slot_list_append PySem.F.type_list_append zu (pv 4) (yA (ym (zr (VE.data (zB 5 rfl (pv 5)) (.mv [])) (zF (c:=.mv [])))) pa_nil))))))))
   (zD (yf PassesOwn.never rfl (zh true (zB 3 rfl (pv 3))) (zO 5 rfl (zM (i:=5) nd rfl (by first|exact .inl rfl|exact .inr rfl))) (zK (y2 (ze (vC hu) vB (zQ xJ xI (zB 5 rfl (pv 5)) (zB 1 rfl (pv 1))) (zB 3 rfl (pv 3)) (by with_unfolding_all rfl)) (zD (z0 (i:=6) (by decide) (zR (i:=6) nd rfl (by first|exact .inl rfl|exact .inr rfl) (ym (zr (VE.data (zB 5 rfl (pv 5)) (.mv [])) (zF (c:=.mv []))))))
   (zD (qa 1000000 PassesOwn.never (ze (uC hu) uB (zQ zo zn (zT hu (xS 6 (pv 6)) (qc jh jg zG) (fun _ _=>rfl)) (zB 1 rfl (pv 1))) (zB 3 rfl (pv 3)) (by with_unfolding_all rfl)) (zK (yS 6 (by decide) (yY (xh PySem.F.plainAttrs_list PySem.F.slot_list_append PySem.F.type_list_append zu (pv 6) (yA (zQ zo zn (zT hu (xS 6 (pv 6)) (qc jh jg zG) (fun _ _=>rfl)) (zB 1 rfl (pv 1))) pa_nil))))))
   (zK (zcQ 4 6 (by decide) (by decide) (by decide) (yY (xh PySem.F.plainAttrs_list PySem.F.slot_list_append PySem.F.type_list_append zu (pv 4) (yA (pv 6) pa_nil))))))) yW)))
   (zK (zj (jU 4 rfl (pv 4))))))))
noncomputable abbrev vh:Stmt:=top 31
theorem sc__law_braces:FnScope ["_law_script","_law_at","_law_floor_here","_law_cell_here","_law_drawn","_law_least"] ["_law_script","_law_at","_law_floor_here"] (zS vh):=⟨rfl,rfl,rfl,by decide +kernel,rfl,by decide +kernel,by decide +kernel⟩
theorem zal(F:Fun K "_law_braces" "_law_braces" vh f fd)(B:Blt mg)
  (c__law_cell:Fn P w K mg base "_law_cell" 1 ["_law_script","_law_k"] (spV K 2 zV))
  (c__law_digits:Fn P w K mg base "_law_digits" 1 ["_law_cell_here","_law_many","_law_base"] (spV K 3 zy)):FnOk P w K mg base CX0 2 f fd ["_law_script","_law_at","_law_floor_here"] (spV K 3 xR):=
 xm (g:=vx) (n:=3) (m:=6) [] rfl rfl (by decide) F sc__law_braces fun cdv A outer s H E hr=>by
  have nd:=sc__law_braces.nd
  have hu:=ye hr
  have hu64:=hr.units
  exact (zD (zN (i:=3) rfl (zR (i:=3) nd rfl (by first|exact .inl rfl|exact .inr rfl) (VE.sh (zP c__law_cell (hr.mono (by decide)) rfl (zE (zB 0 rfl (pv 0)) (zE (zB 1 rfl (pv 1)) (zF (c:=.bo))))))))
   (zD (zN (i:=4) rfl (zR (i:=4) nd rfl (by first|exact .inl rfl|exact .inr rfl) (VE.sh (zP c__law_digits (hr.mono (by decide)) rfl (zE (zP c__law_cell (hr.mono (by decide)) rfl (zE (zB 0 rfl (pv 0)) (zE (zQ zo zn (zB 1 rfl (pv 1)) zG) (zF (c:=.bo))))) (zE (yO xx xy (by rfl) B.len_ PySem.boot_len (zE (zT hu (zB 2 rfl (pv 2)) zG (fun _ _=>rfl)) (zF (c:=.bo)))) (zE (zQ zo zn zG (zQ yV yU (zB 3 rfl (pv 3)) zG)) (zF (c:=.bo)))))))))
   (zD (zN (i:=5) rfl (zR (i:=5) nd rfl (by first|exact .inl rfl|exact .inr rfl) (VE.sh (zQ yV yU (zQ xf xc (zB 3 rfl (pv 3)) zG) zG))))
   (zK (zj (wB (ow:=["_law_field","_law_number"]) (js:=[5]) (.mv []) (Or.inl rfl) (by decide) rfl (qb false (by rfl) B.zip_ (yE (zT hu (zB 2 rfl (pv 2)) zG (fun _ _=>rfl)) (yE (zB 4 rfl (pv 4)) (zF (c:=.sh))))) (fun _ _ _ _=>(xu 2 rfl (za (zO 0 rfl (zM (i:=0) (show (["_law_field","_law_number","_law_least"]:List Str).Nodup by decide +kernel) rfl (by first|exact .inl rfl|exact .inr rfl))) (za (zO 1 rfl (zM (i:=1) (show (["_law_field","_law_number","_law_least"]:List Str).Nodup by decide +kernel) rfl (by first|exact .inl rfl|exact .inr rfl))) yz)))) (fun _ _ _ _=>(wL (ze (vi hu64) jY (qe jZ jX (zB 1 rfl (pv 1)) zG (yF _)) (qe jZ jX (zB 2 rfl (pv 2)) zG (yF _)) (yF _)))) (fun _ _ _ _=>(VE.data (zB 0 rfl (pv 0)) (.mv [])))))))))
noncomputable abbrev uO:Stmt:=top 32
theorem sc__law_ropes:FnScope ["_law_script","_law_at","_law_floor_here","_law_braces_here","_law_drawn","_law_ropes_here","_law_k","_law_field"] ["_law_script","_law_at","_law_floor_here","_law_braces_here"] (zS uO):=⟨rfl,rfl,rfl,by decide +kernel,rfl,by decide +kernel,by decide +kernel⟩
theorem zbd(F:Fun K "_law_ropes" "_law_ropes" uO f fd)(B:Blt mg)
  (c__law_digits:Fn P w K mg base "_law_digits" 1 ["_law_cell_here","_law_many","_law_base"] (spV K 3 zy))
  (c__law_cell:Fn P w K mg base "_law_cell" 1 ["_law_script","_law_k"] (spV K 2 zV)):FnOk P w K mg base CX0 2 f fd ["_law_script","_law_at","_law_floor_here","_law_braces_here"] (spV K 4 wc):=
 xm (g:=uX) (n:=4) (m:=8) [5] rfl rfl (by decide) F sc__law_ropes fun cdv A outer s H E hr=>by
  have nd:=sc__law_ropes.nd
  have hu:=ye hr
  have hu64:=hr.units
  exact (zD (zN (i:=4) rfl (zR (i:=4) nd rfl (by first|exact .inl rfl|exact .inr rfl) (VE.sh (zP c__law_digits (hr.mono (by decide)) rfl (zE (zP c__law_cell (hr.mono (by decide)) rfl (zE (zB 0 rfl (pv 0)) (zE (zB 1 rfl (pv 1)) (zF (c:=.bo))))) (zE (zQ xk xj zG (yO xx xy (by rfl) B.len_ PySem.boot_len (zE (zT hu (zB 2 rfl (pv 2)) zG (fun _ _=>rfl)) (zF (c:=.bo))))) (zE (zQ zo zn zG (zQ yV yU (zP c__law_cell (hr.mono (by decide)) rfl (zE (zB 0 rfl (pv 0)) (zE (zQ zo zn (zB 1 rfl (pv 1)) zG) (zF (c:=.bo))))) zG)) (zF (c:=.bo)))))))))
   (zD (z0 (i:=5) (by decide) (zR (i:=5) nd rfl (by first|exact .inl rfl|exact .inr rfl) (ym (zF (c:=.mv [])))))
   (zD (yf PassesOwn.never rfl (zcR true (by rfl) B.enumerate_ (yE (zT hu (zB 2 rfl (pv 2)) zG (fun _ _=>rfl)) (zF (c:=.sh)))) (xu 2 rfl (za (zO 6 rfl (zM (i:=6) nd rfl (by first|exact .inl rfl|exact .inr rfl))) (za (zO 7 rfl (zM (i:=7) nd rfl (by first|exact .inl rfl|exact .inr rfl))) yz))) (zK (y2 (ze (vC hu) vB (zB 7 rfl (pv 7)) (zB 3 rfl (pv 3)) (by with_unfolding_all rfl)) (zD (y2 (ze (vi hu64) jY (zT hu (zB 4 rfl (pv 4)) (zQ xk xj zG (zB 6 rfl (pv 6))) (fun _ _=>rfl)) zG (yF _)) (zK (yS 5 (by decide) (yY (xh PySem.F.plainAttrs_list PySem.F.slot_list_append PySem.F.type_list_append zu (pv 5) (yA (zq (zr (VE.data (zB 7 rfl (pv 7)) (.mv [])) (zr wy (zF (c:=.mv []))))) pa_nil))))) yW)
   (zK (y2 (ze (vi hu64) jY (zT hu (zB 4 rfl (pv 4)) (zQ zo zn (zQ xk xj zG (zB 6 rfl (pv 6))) zG) (fun _ _=>rfl)) zG (yF _)) (zK (yS 5 (by decide) (yY (xh PySem.F.plainAttrs_list PySem.F.slot_list_append PySem.F.type_list_append zu (pv 5) (yA (zq (zr (VE.data (zB 7 rfl (pv 7)) (.mv [])) (zr wy (zF (c:=.mv []))))) pa_nil))))) yW))) yW)))
   (zK (zj (jU 5 rfl (pv 5)))))))
noncomputable abbrev uq:Stmt:=top 30
theorem sc__law_pair:FnScope ["_law_some","_law_field"] ["_law_some","_law_field"] (zS uq):=⟨rfl,rfl,rfl,by decide +kernel,rfl,by decide +kernel,by decide +kernel⟩
theorem zck(F:Fun K "_law_pair" "_law_pair" uq f fd)(B:Blt mg):FnOk P w K mg base CX0 1 f fd ["_law_some","_law_field"] (spV K 2 yy):=
 xm (g:=u8) (n:=2) (m:=2) [] rfl rfl (by decide) F sc__law_pair fun cdv A outer s H E hr=>by
  have nd:=sc__law_pair.nd
  have hu:=ye hr
  have hu64:=hr.units
  exact (zK (zj (wB (ow:=["_law_k"]) (js:=[1,0]) (.mv []) (Or.inl rfl) (by decide) rfl (zbV false (by rfl) B.range_ (zE (yO xx xy (by rfl) B.len_ PySem.boot_len (zE (zB 0 rfl (pv 0)) (zF (c:=.bo)))) (zF (c:=.bo)))) (fun _ _ _ _=>(zO 0 rfl (zM (i:=0) (show (["_law_k","_law_field","_law_some"]:List Str).Nodup by decide +kernel) rfl (by first|exact .inl rfl|exact .inr rfl)))) (fun _ _ _ _=>(wL (ze (uC hu) uB (zB 1 rfl (pv 1)) (zT hu (zB 2 rfl (pv 2)) (zB 0 rfl (pv 0)) (fun _ _=>rfl)) (by with_unfolding_all rfl)))) (fun _ _ _ _=>(VE.data (zB 0 rfl (pv 0)) (.mv []))))))
noncomputable abbrev vf:Stmt:=top 33
theorem sc__law_raised:FnScope ["_law_turns","_law_some","_law_braces_here","_law_ropes_here","_law_ranks","_law_field","_law_row","_law_column","_law_word","_law_k","_law_first","_law_last"] ["_law_turns","_law_some","_law_braces_here","_law_ropes_here"] (zS vf):=⟨rfl,rfl,rfl,by decide +kernel,rfl,by decide +kernel,by decide +kernel⟩
theorem zaj(F:Fun K "_law_raised" "_law_raised" vf f fd)(B:Blt mg)
  (c__law_pair:Fn P w K mg base "_law_pair" 1 ["_law_some","_law_field"] (spV K 2 yy)):FnOk P w K mg base CX0 2 f fd ["_law_turns","_law_some","_law_braces_here","_law_ropes_here"] (spR K 4 wI):=
 zof (g:=vv) (n:=4) (m:=12) [0,4] rfl rfl (by decide) (by decide) F sc__law_raised fun cdv A outer s H G E hr=>by
  have nd:=sc__law_raised.nd
  have hu:=ye hr
  have hu64:=hr.units
  exact (zD (z0 (i:=4) (by decide) (zR (i:=4) nd rfl (by first|exact .inl rfl|exact .inr rfl) (ym (zF (c:=.mv [])))))
   (zD (yf PassesOwn.never rfl (zh true (zB 2 rfl (pv 2))) (zO 5 rfl (zM (i:=5) nd rfl (by first|exact .inl rfl|exact .inr rfl))) (zD (zdS (VE.sh (zP c__law_pair (hr.mono (by decide)) rfl (zE (zB 1 rfl (pv 1)) (zE (zB 5 rfl (pv 5)) (zF (c:=.bo)))))) (xu 2 rfl (za (zO 6 rfl (zM (i:=6) nd rfl (by first|exact .inl rfl|exact .inr rfl))) (za (zO 7 rfl (zM (i:=7) nd rfl (by first|exact .inl rfl|exact .inr rfl))) yz))))
   (zK (z0 (i:=4) (by decide) (zR (i:=4) nd rfl (by first|exact .inl rfl|exact .inr rfl) (zQ zo zn (xS 4 (pv 4)) (ym (zE (zq (zE (zB 6 rfl (pv 6)) (zE (zB 7 rfl (pv 7)) (zF (c:=.bo))))) (zE (zq (zE (zB 7 rfl (pv 7)) (zE (zB 6 rfl (pv 6)) (zF (c:=.bo))))) (zF (c:=.bo)))))))))))
   (zD (yf PassesOwn.never rfl (zh true (zB 3 rfl (pv 3))) (xu 2 rfl (za (zO 5 rfl (zM (i:=5) nd rfl (by first|exact .inl rfl|exact .inr rfl))) (za (zO 8 rfl (zM (i:=8) nd rfl (by first|exact .inl rfl|exact .inr rfl))) yz))) (zD (zdS (VE.sh (zP c__law_pair (hr.mono (by decide)) rfl (zE (zB 1 rfl (pv 1)) (zE (zB 5 rfl (pv 5)) (zF (c:=.bo)))))) (xu 2 rfl (za (zO 6 rfl (zM (i:=6) nd rfl (by first|exact .inl rfl|exact .inr rfl))) (za (zO 7 rfl (zM (i:=7) nd rfl (by first|exact .inl rfl|exact .inr rfl))) yz))))
   (zK (yS 4 (by decide) (yY (xh PySem.F.plainAttrs_list PySem.F.slot_list_append PySem.F.type_list_append zu (pv 4) (yA (VE.data (zT hu (ym (yE (zq (yE (zB 6 rfl (pv 6)) (yE (zB 7 rfl (pv 7)) (zF (c:=.sh))))) (yE (zq (yE (zB 7 rfl (pv 7)) (yE (zB 6 rfl (pv 6)) (zF (c:=.sh))))) (zF (c:=.sh))))) (kf zlN zgD (by rfl) B.int_ boot_int (zE (qe (vi hu64) jY (zB 8 rfl (pv 8)) wy (yF _)) (zF (c:=.bo)))) (fun _ _=>rfl)) (.mv [])) pa_nil)))))))
   (zgM (O':=[0]) (by decide) (zD (yf PassesOwn.never rfl (zbV true (by rfl) B.range_ (zE (yO xx xy (by rfl) B.len_ PySem.boot_len (zE (zB 1 rfl (pv 1)) (zF (c:=.bo)))) (zF (c:=.bo)))) (zO 9 rfl (zM (i:=9) nd rfl (by first|exact .inl rfl|exact .inr rfl))) (zK (yf PassesOwn.never rfl (zh true (zB 4 rfl (pv 4))) (xu 2 rfl (za (zO 10 rfl (zM (i:=10) nd rfl (by first|exact .inl rfl|exact .inr rfl))) (za (zO 11 rfl (zM (i:=11) nd rfl (by first|exact .inl rfl|exact .inr rfl))) yz))) (zK (j7 0 (by decide) (km (yO ziJ (ziL rfl) (by rfl) B.max_ boot_max (zE (zT hu (xS 0 (pv 0)) (zB 11 rfl (pv 11)) (fun _ _=>rfl)) (zE (zT hu (xS 0 (pv 0)) (zB 10 rfl (pv 10)) (fun _ _=>rfl)) (zF (c:=.bo))))) (zaa (pv 0) (zB 11 rfl (pv 11)) um)) (jM hu (pv 0) (zB 11 rfl (pv 11)) (yO ziJ (ziL rfl) (by rfl) B.max_ boot_max (zE (zT hu (xS 0 (pv 0)) (zB 11 rfl (pv 11)) (fun _ _=>rfl)) (zE (zT hu (xS 0 (pv 0)) (zB 10 rfl (pv 10)) (fun _ _=>rfl)) (zF (c:=.bo))))) rfl))))))
   (zK (zje 0 (by decide) (pv 0))))))))
noncomputable abbrev ur:Stmt:=top 34
theorem sc__law_lean:FnScope ["_law_script","_law_at","_law_some","_law_braces_here","_law_ropes_here","_law_cell_here","_law_wide","_law_turns"] ["_law_script","_law_at","_law_some","_law_braces_here","_law_ropes_here"] (zS ur):=⟨rfl,rfl,rfl,by decide +kernel,rfl,by decide +kernel,by decide +kernel⟩
theorem zcl(F:Fun K "_law_lean" "_law_lean" ur f fd)(B:Blt mg)
  (c__law_cell:Fn P w K mg base "_law_cell" 1 ["_law_script","_law_k"] (spV K 2 zV))
  (c__law_raised:Fn P w K mg base "_law_raised" 2 ["_law_turns","_law_some","_law_braces_here","_law_ropes_here"] (spR K 4 wI))
  (c__law_digits:Fn P w K mg base "_law_digits" 1 ["_law_cell_here","_law_many","_law_base"] (spV K 3 zy)):FnOk P w K mg base CX0 3 f fd ["_law_script","_law_at","_law_some","_law_braces_here","_law_ropes_here"] (spV K 5 wJ):=
 xm (g:=vR) (n:=5) (m:=8) [7] rfl rfl (by decide) F sc__law_lean fun cdv A outer s H E hr=>by
  have nd:=sc__law_lean.nd
  have hu:=ye hr
  have hu64:=hr.units
  exact (zD (zN (i:=5) rfl (zR (i:=5) nd rfl (by first|exact .inl rfl|exact .inr rfl) (VE.sh (zP c__law_cell (hr.mono (by decide)) rfl (zE (zB 0 rfl (pv 0)) (zE (zB 1 rfl (pv 1)) (zF (c:=.bo))))))))
   (zD (zN (i:=6) rfl (zR (i:=6) nd rfl (by first|exact .inl rfl|exact .inr rfl) (VE.sh (zT hu (ym (zr zG (zr zG (zr zG (zF (c:=.mv [])))))) (zQ yV yU (zB 5 rfl (pv 5)) zG) (fun _ _=>rfl)))))
   (zD (z0 (i:=7) (by decide) (by first | exact (kK (i:=7) (ow:=["_law_number"]) (js:=[6]) (.mv []) nd rfl (by first|exact .inl rfl|exact .inr rfl) (Or.inl rfl) (by decide) rfl (zh false (VE.sh (zP c__law_digits (hr.mono (by decide)) rfl (zE (zP c__law_cell (hr.mono (by decide)) rfl (zE (zB 0 rfl (pv 0)) (zE (zQ zo zn (zB 1 rfl (pv 1)) zG) (zF (c:=.bo))))) (zE (yO xx xy (by rfl) B.len_ PySem.boot_len (zE (zB 2 rfl (pv 2)) (zF (c:=.bo)))) (zE (zB 6 rfl (pv 6)) (zF (c:=.bo)))))))) (fun _ _ _ _=>(zO 0 rfl (zM (i:=0) (show (["_law_number","_law_wide"]:List Str).Nodup by decide +kernel) rfl (by first|exact .inl rfl|exact .inr rfl)))) (fun _ _ _ _=>yi) (fun _ _ _ _=>(zQ xJ xI (zB 0 rfl (pv 0)) (zQ xf xc (zB 1 rfl (pv 1)) zG)))) | exact (zR (i:=7) nd rfl (by first|exact .inl rfl|exact .inr rfl) (wB (ow:=["_law_number"]) (js:=[6]) (.mv []) (Or.inl rfl) (by decide) rfl (zh false (VE.sh (zP c__law_digits (hr.mono (by decide)) rfl (zE (zP c__law_cell (hr.mono (by decide)) rfl (zE (zB 0 rfl (pv 0)) (zE (zQ zo zn (zB 1 rfl (pv 1)) zG) (zF (c:=.bo))))) (zE (yO xx xy (by rfl) B.len_ PySem.boot_len (zE (zB 2 rfl (pv 2)) (zF (c:=.bo)))) (zE (zB 6 rfl (pv 6)) (zF (c:=.bo)))))))) (fun _ _ _ _=>(zO 0 rfl (zM (i:=0) (show (["_law_number","_law_wide"]:List Str).Nodup by decide +kernel) rfl (by first|exact .inl rfl|exact .inr rfl)))) (fun _ _ _ _=>yi) (fun _ _ _ _=>(zQ xJ xI (zB 0 rfl (pv 0)) (zQ xf xc (zB 1 rfl (pv 1)) zG)))))))
   (zD (y2 (ze jZ jX (zQ yV yU (zQ xf xc (zB 5 rfl (pv 5)) zG) zG) zG (yF _)) (zK (zjd 7 (by decide) c__law_raised (hr.mono (by decide)) rfl (pv 7) (yE (zB 2 rfl (pv 2)) (yE (zB 3 rfl (pv 3)) (yE (zB 4 rfl (pv 4)) (zF (c:=.sh))))))) yW)
   (zK (zj (jU 7 rfl (pv 7))))))))
noncomputable abbrev uN:Stmt:=top 1
theorem sc_corners_at:FnScope ["floor","field","wide","lower","upper"] ["floor","field"] (zS uN):=⟨rfl,rfl,rfl,by decide +kernel,rfl,by decide +kernel,by decide +kernel⟩
theorem zbc(F:Fun K "corners_at" "corners_at" uN f fd)(B:Blt mg):FnOk P w K mg base CX0 1 f fd ["floor","field"] (spV K 2 xF):=
 xm (g:=uW) (n:=2) (m:=5) [] rfl rfl (by decide) F sc_corners_at fun cdv A outer s H E hr=>by
  have nd:=sc_corners_at.nd
  have hu:=ye hr
  have hu64:=hr.units
  exact (zD (zN (i:=2) rfl (zR (i:=2) nd rfl (by first|exact .inl rfl|exact .inr rfl) (zT hu (zB 0 rfl (pv 0)) zG (fun _ _=>rfl))))
   (zD (zN (i:=3) rfl (zR (i:=3) nd rfl (by first|exact .inl rfl|exact .inr rfl) (VE.sh (zQ zo zn (zB 1 rfl (pv 1)) (zQ xf xc (zB 1 rfl (pv 1)) (zB 2 rfl (pv 2)))))))
   (zD (zN (i:=4) rfl (zR (i:=4) nd rfl (by first|exact .inl rfl|exact .inr rfl) (VE.sh (zQ zo zn (zQ zo zn (zB 3 rfl (pv 3)) (zB 2 rfl (pv 2))) zG))))
   (zK (zj (zq (zr (VE.data (zB 3 rfl (pv 3)) (.mv [])) (zr (zQ zo zn (zB 3 rfl (pv 3)) zG) (zr (VE.data (zB 4 rfl (pv 4)) (.mv [])) (zr (zQ zo zn (zB 4 rfl (pv 4)) zG) (zF (c:=.mv []))))))))))))
noncomputable abbrev ki:Stmt:=top 3
theorem sc_corners:FnScope ["floor","found","field"] ["floor"] (zS ki):=⟨rfl,rfl,rfl,by decide +kernel,rfl,by decide +kernel,by decide +kernel⟩
theorem zep(F:Fun K "corners" "corners" ki f fd)(B:Blt mg)
  (c_corners_at:Fn P w K mg base "corners_at" 1 ["floor","field"] (spV K 2 xF)):FnOk P w K mg base CX0 2 f fd ["floor"] (spV K 1 uI):=
 xm (g:=ku) (n:=1) (m:=3) [1] rfl rfl (by decide) F sc_corners fun cdv A outer s H E hr=>by
  have nd:=sc_corners.nd
  have hu:=ye hr
  have hu64:=hr.units
  exact (zD (z0 (i:=1) (by decide) (zR (i:=1) nd rfl (by first|exact .inl rfl|exact .inr rfl) (ym (zF (c:=.mv [])))))
   (zD (yf PassesOwn.never rfl (zh true (zT hu (zB 0 rfl (pv 0)) zG (fun _ _=>rfl))) (zO 2 rfl (zM (i:=2) nd rfl (by first|exact .inl rfl|exact .inr rfl))) (zK (zdR 1 (by decide) (yY (xh PySem.F.plainAttrs_list PySem.F.slot_list_extend PySem.F.type_list_extend zes (pv 1) (yA (zP c_corners_at (hr.mono (by decide)) rfl (zE (zB 0 rfl (pv 0)) (zE (zB 2 rfl (pv 2)) (zF (c:=.bo))))) pa_nil))))))
   (zK (zj (zdT rfl (by rfl) B.sorted_ (by rfl) B.set_ (zE (xS 1 (pv 1)) (zF (c:=.bo))))))))
noncomputable abbrev vY:Stmt:=top 14
theorem sc_onward_from:FnScope ["steps","found","step"] ["steps"] (zS vY):=⟨rfl,rfl,rfl,by decide +kernel,rfl,by decide +kernel,by decide +kernel⟩
theorem zad(F:Fun K "onward_from" "onward_from" vY f fd)(B:Blt mg):FnOk P w K mg base CX0 1 f fd ["steps"] (spV K 1 wH):=
 xm (g:=vj) (n:=1) (m:=3) [1] rfl rfl (by decide) F sc_onward_from fun cdv A outer s H E hr=>by
  have nd:=sc_onward_from.nd
  have hu:=ye hr
  have hu64:=hr.units
  exact (zD (z0 (i:=1) (by decide) (zR (i:=1) nd rfl (by first|exact .inl rfl|exact .inr rfl) (j8 kL)))
   (zD (yf PassesOwn.never rfl (zh true (zB 0 rfl (pv 0))) (zO 2 rfl (zM (i:=2) nd rfl (by first|exact .inl rfl|exact .inr rfl))) (zK (zfJ 1 (by decide) (yY (xh PySem.F.plainAttrs_list PySem.F.slot_list_append PySem.F.type_list_append zu (zjH (pv 1) (zT hu (zB 2 rfl (pv 2)) zG (fun _ _=>rfl)) (ym (zF (c:=.mv []))) ⟨rfl,rfl,rfl,rfl⟩) (yA (VE.data (zB 2 rfl (pv 2)) (.mv [])) pa_nil))))))
   (zK (zj (jU 1 rfl (pv 1))))))
noncomputable abbrev uL:Stmt:=top 15
theorem sc_walks_from:FnScope ["steps","start","found","onward","waiting","here","step"] ["steps","start"] (zS uL):=⟨rfl,rfl,rfl,by decide +kernel,rfl,by decide +kernel,by decide +kernel⟩
theorem zba(F:Fun K "walks_from" "walks_from" uL f fd)(B:Blt mg)
  (c_onward_from:Fn P w K mg base "onward_from" 1 ["steps"] (spV K 1 wH)):FnOk P w K mg base CX0 2 f fd ["steps","start"] (spV K 2 wb):=
 xm (g:=uV) (n:=2) (m:=7) [2,4] rfl rfl (by decide) F sc_walks_from fun cdv A outer s H E hr=>by
  have nd:=sc_walks_from.nd
  have hu:=ye hr
  have hu64:=hr.units
  exact (zD (z0 (i:=2) (by decide) (zR (i:=2) nd rfl (by first|exact .inl rfl|exact .inr rfl) (zgN (zB 1 rfl (pv 1)) (ym (zF (c:=.mv []))))))
   (zD (zN (i:=3) rfl (zR (i:=3) nd rfl (by first|exact .inl rfl|exact .inr rfl) (VE.sh (zP c_onward_from (hr.mono (by decide)) rfl (zE (zB 0 rfl (pv 0)) (zF (c:=.bo)))))))
   (zD (z0 (i:=4) (by decide) (zR (i:=4) nd rfl (by first|exact .inl rfl|exact .inr rfl) (ym (zr (VE.data (zB 1 rfl (pv 1)) (.mv [])) (zF (c:=.mv []))))))
   (zD (qa 1000000 PassesOwn.never (ze jZ jX (yO xx xy (by rfl) B.len_ PySem.boot_len (zE (xS 4 (pv 4)) (zF (c:=.bo)))) zG (yF _)) (zD (zjg 5 4 (by decide) (by decide) (zR (i:=5) nd rfl (by first|exact .inl rfl|exact .inr rfl) (xh PySem.F.plainAttrs_list PySem.F.slot_list_pop PySem.F.type_list_pop zhV (pv 4) (yA zhG pa_nil))))
   (zK (yf PassesOwn.never rfl (zh true (zjj hu (zB 3 rfl (pv 3)) (zB 5 rfl (pv 5)) (ym (zF (c:=.sh))) ⟨rfl,rfl,rfl,rfl⟩)) (zO 6 rfl (zM (i:=6) nd rfl (by first|exact .inl rfl|exact .inr rfl))) (zK (y2 (ze (vC hu) vB (zT hu (zB 6 rfl (pv 6)) zG (fun _ _=>rfl)) (xS 2 (pv 2)) (by with_unfolding_all rfl)) (zD (zjf 2 (by decide) (jM hu (pv 2) (zT hu (zB 6 rfl (pv 6)) zG (fun _ _=>rfl)) (zQ zo zn (zT hu (xS 2 (pv 2)) (zB 5 rfl (pv 5)) (fun _ _=>rfl)) (ym (zE (zT hu (zB 6 rfl (pv 6)) zG (fun _ _=>rfl)) (zF (c:=.bo))))) rfl))
   (zK (yS 4 (by decide) (yY (xh PySem.F.plainAttrs_list PySem.F.slot_list_append PySem.F.type_list_append zu (pv 4) (yA (VE.data (zT hu (zB 6 rfl (pv 6)) zG (fun _ _=>rfl)) (.mv [])) pa_nil)))))) yW))))))
   (zK (zj (jU 2 rfl (pv 2))))))))
noncomputable abbrev zeg:Stmt:=top 7
theorem sc_runs:FnScope ["fields","aheads","found","run_at","field","ahead"] ["fields","aheads"] (zS zeg):=⟨rfl,rfl,rfl,by decide +kernel,rfl,by decide +kernel,by decide +kernel⟩
theorem zjO(F:Fun K "runs" "runs" zeg f fd)(B:Blt mg):FnOk P w K mg base CX0 1 f fd ["fields","aheads"] (spV K 2 uH):=
 xm (g:=zez) (n:=2) (m:=6) [2,3] rfl rfl (by decide) F sc_runs fun cdv A outer s H E hr=>by
  have nd:=sc_runs.nd
  have hu:=ye hr
  have hu64:=hr.units
  exact (zD (z0 (i:=2) (by decide) (zR (i:=2) nd rfl (by first|exact .inl rfl|exact .inr rfl) (ym (zF (c:=.mv [])))))
   (zD (z0 (i:=3) (by decide) (zR (i:=3) nd rfl (by first|exact .inl rfl|exact .inr rfl) (j8 kL)))
   (zD (yf PassesOwn.never rfl (qb true (by rfl) B.zip_ (yE (zB 0 rfl (pv 0)) (yE (zB 1 rfl (pv 1)) (zF (c:=.sh))))) (xu 2 rfl (za (zO 4 rfl (zM (i:=4) nd rfl (by first|exact .inl rfl|exact .inr rfl))) (za (zO 5 rfl (zM (i:=5) nd rfl (by first|exact .inl rfl|exact .inr rfl))) yz))) (zK (y2 (ze (uC hu) uB (zB 5 rfl (pv 5)) (xS 3 (pv 3)) (by with_unfolding_all rfl)) (zD (j7 3 (by decide) (km (zT hu (xS 3 (pv 3)) (zB 5 rfl (pv 5)) (fun _ _=>rfl)) (zaa (pv 3) (zB 4 rfl (pv 4)) um)) (jM hu (pv 3) (zB 4 rfl (pv 4)) (zT hu (xS 3 (pv 3)) (zB 5 rfl (pv 5)) (fun _ _=>rfl)) rfl))
   (zK (k9 2 (by decide) (yY (xh PySem.F.plainAttrs_list PySem.F.slot_list_append PySem.F.type_list_append zu (zhF zev (pv 2) (zT hu (xS 3 (pv 3)) (zB 4 rfl (pv 4)) (fun _ _=>rfl)) (fun _ _=>rfl)) (yA (VE.data (zB 4 rfl (pv 4)) (.mv [])) pa_nil)))))) (zD (j7 3 (by decide) (km (yO xx xy (by rfl) B.len_ PySem.boot_len (zE (xS 2 (pv 2)) (zF (c:=.bo)))) (zaa (pv 3) (zB 4 rfl (pv 4)) um)) (jM hu (pv 3) (zB 4 rfl (pv 4)) (yO xx xy (by rfl) B.len_ PySem.boot_len (zE (xS 2 (pv 2)) (zF (c:=.bo)))) rfl))
   (zK (yS 2 (by decide) (yY (xh PySem.F.plainAttrs_list PySem.F.slot_list_append PySem.F.type_list_append zu (pv 2) (yA (ym (zr (VE.data (zB 4 rfl (pv 4)) (.mv [])) (zF (c:=.mv [])))) pa_nil)))))))))
   (zK (zj (zjk (wB (ow:=["run"]) (js:=[]) (.mv []) (Or.inl rfl) (by decide) rfl (zh false (zB 2 rfl (pv 2))) (fun _ _ _ _=>(zO 0 rfl (zM (i:=0) (show (["run"]:List Str).Nodup by decide +kernel) rfl (by first|exact .inl rfl|exact .inr rfl)))) (fun _ _ _ _=>yi) (fun _ _ _ _=>(kf zdI je (by rfl) B.tuple_ boot_tuple (zE (zB 0 rfl (pv 0)) (zF (c:=.bo))))))))))))
noncomputable abbrev uM:Stmt:=top 5
theorem sc_field_left:FnScope ["floor","field"] ["floor","field"] (zS uM):=⟨rfl,rfl,rfl,by decide +kernel,rfl,by decide +kernel,by decide +kernel⟩
theorem zbb(F:Fun K "field_left" "field_left" uM f fd)(B:Blt mg):FnOk P w K mg base CX0 1 f fd ["floor","field"] (spV K 2 xE):=
 xm (g:=ww) (n:=2) (m:=2) [] rfl rfl (by decide) F sc_field_left fun cdv A outer s H E hr=>by
  have nd:=sc_field_left.nd
  have hu:=ye hr
  have hu64:=hr.units
  exact (zK (zj (zkt (ze (vi hu64) jY (zQ yV yU (zB 1 rfl (pv 1)) (zT hu (zB 0 rfl (pv 0)) zG (fun _ _=>rfl))) zG (yF _)) ke (zQ xJ xI (zB 1 rfl (pv 1)) zG))))
noncomputable abbrev jj:Stmt:=top 8
theorem sc_row_runs:FnScope ["floor"] ["floor"] (zS jj):=⟨rfl,rfl,rfl,by decide +kernel,rfl,by decide +kernel,by decide +kernel⟩
theorem zdh(F:Fun K "row_runs" "row_runs" jj f fd)(B:Blt mg)
  (c_runs:Fn P w K mg base "runs" 1 ["fields","aheads"] (spV K 2 uH))
  (c_field_left:Fn P w K mg base "field_left" 1 ["floor","field"] (spV K 2 xE)):FnOk P w K mg base CX0 2 f fd ["floor"] (spV K 1 wg):=
 xm (g:=jq) (n:=1) (m:=1) [] rfl rfl (by decide) F sc_row_runs fun cdv A outer s H E hr=>by
  have nd:=sc_row_runs.nd
  have hu:=ye hr
  have hu64:=hr.units
  exact (zK (zj (zP c_runs (hr.mono (by decide)) rfl (zE (zT hu (zB 0 rfl (pv 0)) zG (fun _ _=>rfl)) (zE (wB (ow:=["field"]) (js:=[0]) (.mv []) (Or.inl rfl) (by decide) rfl (zh false (zT hu (zB 0 rfl (pv 0)) zG (fun _ _=>rfl))) (fun _ _ _ _=>(zO 0 rfl (zM (i:=0) (show (["field","floor"]:List Str).Nodup by decide +kernel) rfl (by first|exact .inl rfl|exact .inr rfl)))) (fun _ _ _ _=>yi) (fun _ _ _ _=>(zP c_field_left (hr.mono (by decide)) rfl (zE (zB 1 rfl (pv 1)) (zE (zB 0 rfl (pv 0)) (zF (c:=.bo))))))) (zF (c:=.bo)))))))
noncomputable abbrev vZ:Stmt:=top 6
theorem sc_field_below:FnScope ["floor","field"] ["floor","field"] (zS vZ):=⟨rfl,rfl,rfl,by decide +kernel,rfl,by decide +kernel,by decide +kernel⟩
theorem zae(F:Fun K "field_below" "field_below" vZ f fd)(B:Blt mg):FnOk P w K mg base CX0 1 f fd ["floor","field"] (spV K 2 xO):=
 xm (g:=vk) (n:=2) (m:=2) [] rfl rfl (by decide) F sc_field_below fun cdv A outer s H E hr=>by
  have nd:=sc_field_below.nd
  have hu:=ye hr
  have hu64:=hr.units
  exact (zK (zj (zQ xJ xI (zB 1 rfl (pv 1)) (zT hu (zB 0 rfl (pv 0)) zG (fun _ _=>rfl)))))
noncomputable abbrev vc:Stmt:=top 9
theorem sc_column_runs:FnScope ["floor"] ["floor"] (zS vc):=⟨rfl,rfl,rfl,by decide +kernel,rfl,by decide +kernel,by decide +kernel⟩
theorem zag(F:Fun K "column_runs" "column_runs" vc f fd)(B:Blt mg)
  (c_runs:Fn P w K mg base "runs" 1 ["fields","aheads"] (spV K 2 uH))
  (c_field_below:Fn P w K mg base "field_below" 1 ["floor","field"] (spV K 2 xO)):FnOk P w K mg base CX0 2 f fd ["floor"] (spV K 1 xP):=
 xm (g:=vo) (n:=1) (m:=1) [] rfl rfl (by decide) F sc_column_runs fun cdv A outer s H E hr=>by
  have nd:=sc_column_runs.nd
  have hu:=ye hr
  have hu64:=hr.units
  exact (zK (zj (zP c_runs (hr.mono (by decide)) rfl (zE (zT hu (zB 0 rfl (pv 0)) zG (fun _ _=>rfl)) (zE (wB (ow:=["field"]) (js:=[0]) (.mv []) (Or.inl rfl) (by decide) rfl (zh false (zT hu (zB 0 rfl (pv 0)) zG (fun _ _=>rfl))) (fun _ _ _ _=>(zO 0 rfl (zM (i:=0) (show (["field","floor"]:List Str).Nodup by decide +kernel) rfl (by first|exact .inl rfl|exact .inr rfl)))) (fun _ _ _ _=>yi) (fun _ _ _ _=>(zP c_field_below (hr.mono (by decide)) rfl (zE (zB 1 rfl (pv 1)) (zE (zB 0 rfl (pv 0)) (zF (c:=.bo))))))) (zF (c:=.bo)))))))
noncomputable abbrev qv:Stmt:=top 10
theorem sc_strips:FnScope ["floor","rows","columns"] ["floor"] (zS qv):=⟨rfl,rfl,rfl,by decide +kernel,rfl,by decide +kernel,by decide +kernel⟩
theorem zga(F:Fun K "strips" "strips" qv f fd)(B:Blt mg)
  (c_row_runs:Fn P w K mg base "row_runs" 2 ["floor"] (spV K 1 wg))
  (c_column_runs:Fn P w K mg base "column_runs" 2 ["floor"] (spV K 1 xP)):FnOk P w K mg base CX0 3 f fd ["floor"] (spV K 1 xZ):=
 xm (g:=zaB) (n:=1) (m:=3) [] rfl rfl (by decide) F sc_strips fun cdv A outer s H E hr=>by
  have nd:=sc_strips.nd
  have hu:=ye hr
  have hu64:=hr.units
  exact (zD (zN (i:=1) rfl (by first | exact jm (kK (i:=1) (ow:=["run"]) (js:=[]) (.mv []) nd rfl (by first|exact .inl rfl|exact .inr rfl) (Or.inl rfl) (by decide) rfl (zh false (VE.sh (zP c_row_runs (hr.mono (by decide)) rfl (zE (zB 0 rfl (pv 0)) (zF (c:=.bo)))))) (fun _ _ _ _=>(zO 0 rfl (zM (i:=0) (show (["run"]:List Str).Nodup by decide +kernel) rfl (by first|exact .inl rfl|exact .inr rfl)))) (fun _ _ _ _=>yi) (fun _ _ _ _=>(zq (zr wy (zr (VE.data (zB 0 rfl (pv 0)) (.mv [])) (zF (c:=.mv []))))))) | exact (zR (i:=1) nd rfl (by first|exact .inl rfl|exact .inr rfl) (VE.sh (wB (ow:=["run"]) (js:=[]) (.mv []) (Or.inl rfl) (by decide) rfl (zh false (VE.sh (zP c_row_runs (hr.mono (by decide)) rfl (zE (zB 0 rfl (pv 0)) (zF (c:=.bo)))))) (fun _ _ _ _=>(zO 0 rfl (zM (i:=0) (show (["run"]:List Str).Nodup by decide +kernel) rfl (by first|exact .inl rfl|exact .inr rfl)))) (fun _ _ _ _=>yi) (fun _ _ _ _=>(zq (zr wy (zr (VE.data (zB 0 rfl (pv 0)) (.mv [])) (zF (c:=.mv [])))))))))))
   (zD (zN (i:=2) rfl (by first | exact jm (kK (i:=2) (ow:=["run"]) (js:=[]) (.mv []) nd rfl (by first|exact .inl rfl|exact .inr rfl) (Or.inl rfl) (by decide) rfl (zh false (VE.sh (zP c_column_runs (hr.mono (by decide)) rfl (zE (zB 0 rfl (pv 0)) (zF (c:=.bo)))))) (fun _ _ _ _=>(zO 0 rfl (zM (i:=0) (show (["run"]:List Str).Nodup by decide +kernel) rfl (by first|exact .inl rfl|exact .inr rfl)))) (fun _ _ _ _=>yi) (fun _ _ _ _=>(zq (zr wy (zr (VE.data (zB 0 rfl (pv 0)) (.mv [])) (zF (c:=.mv []))))))) | exact (zR (i:=2) nd rfl (by first|exact .inl rfl|exact .inr rfl) (VE.sh (wB (ow:=["run"]) (js:=[]) (.mv []) (Or.inl rfl) (by decide) rfl (zh false (VE.sh (zP c_column_runs (hr.mono (by decide)) rfl (zE (zB 0 rfl (pv 0)) (zF (c:=.bo)))))) (fun _ _ _ _=>(zO 0 rfl (zM (i:=0) (show (["run"]:List Str).Nodup by decide +kernel) rfl (by first|exact .inl rfl|exact .inr rfl)))) (fun _ _ _ _=>yi) (fun _ _ _ _=>(zq (zr wy (zr (VE.data (zB 0 rfl (pv 0)) (.mv [])) (zF (c:=.mv [])))))))))))
   (zK (zj (zQ zo zn (zB 1 rfl (pv 1)) (zB 2 rfl (pv 2)))))))
noncomputable abbrev uo:Stmt:=top 11
theorem sc_crossings:FnScope ["floor","found","number","strip","field"] ["floor"] (zS uo):=⟨rfl,rfl,rfl,by decide +kernel,rfl,by decide +kernel,by decide +kernel⟩
theorem zcj(F:Fun K "crossings" "crossings" uo f fd)(B:Blt mg)
  (c_strips:Fn P w K mg base "strips" 3 ["floor"] (spV K 1 xZ)):FnOk P w K mg base CX0 4 f fd ["floor"] (spV K 1 yH):=
 xm (g:=u6) (n:=1) (m:=5) [1] rfl rfl (by decide) F sc_crossings fun cdv A outer s H E hr=>by
  have nd:=sc_crossings.nd
  have hu:=ye hr
  have hu64:=hr.units
  exact (zD (z0 (i:=1) (by decide) (zR (i:=1) nd rfl (by first|exact .inl rfl|exact .inr rfl) (j8 kL)))
   (zD (yf PassesOwn.never rfl (zcR true (by rfl) B.enumerate_ (yE (VE.sh (zP c_strips (hr.mono (by decide)) rfl (zE (zB 0 rfl (pv 0)) (zF (c:=.bo))))) (zF (c:=.sh)))) (xu 2 rfl (za (zO 2 rfl (zM (i:=2) nd rfl (by first|exact .inl rfl|exact .inr rfl))) (za (zO 3 rfl (zM (i:=3) nd rfl (by first|exact .inl rfl|exact .inr rfl))) yz))) (zK (yf PassesOwn.never rfl (zh true (zT hu (zB 3 rfl (pv 3)) zG (fun _ _=>rfl))) (zO 4 rfl (zM (i:=4) nd rfl (by first|exact .inl rfl|exact .inr rfl))) (zK (j7 1 (by decide) (km (zQ zo zn (zeR hu (xS 1 (pv 1)) (zB 4 rfl (pv 4)) (zq (zF (c:=.bo))) ⟨rfl,rfl,rfl,rfl⟩) (zq (zE (zB 2 rfl (pv 2)) (zF (c:=.bo))))) (zaa (pv 1) (zB 4 rfl (pv 4)) um)) (jM hu (pv 1) (zB 4 rfl (pv 4)) (zQ zo zn (zeR hu (xS 1 (pv 1)) (zB 4 rfl (pv 4)) (zq (zF (c:=.bo))) ⟨rfl,rfl,rfl,rfl⟩) (zq (zE (zB 2 rfl (pv 2)) (zF (c:=.bo))))) rfl))))))
   (zK (zj (jU 1 rfl (pv 1))))))
noncomputable abbrev vA:Stmt:=top 17
theorem sc_growth_steps:FnScope ["floor","stretches","at","found","field","about","row","across","up","start","end","growth"] ["floor","stretches"] (zS vA):=⟨rfl,rfl,rfl,by decide +kernel,rfl,by decide +kernel,by decide +kernel⟩
theorem qJ(F:Fun K "growth_steps" "growth_steps" vA f fd)(B:Blt mg)
  (c_crossings:Fn P w K mg base "crossings" 4 ["floor"] (spV K 1 yH))
  (c_corners_at:Fn P w K mg base "corners_at" 1 ["floor","field"] (spV K 2 xF)):FnOk P w K mg base CX0 5 f fd ["floor","stretches"] (spV K 2 xp):=
 xm (g:=vI) (n:=2) (m:=12) [3] rfl rfl (by decide) F sc_growth_steps fun cdv A outer s H E hr=>by
  have nd:=sc_growth_steps.nd
  have hu:=ye hr
  have hu64:=hr.units
  exact (zD (zN (i:=2) rfl (zR (i:=2) nd rfl (by first|exact .inl rfl|exact .inr rfl) (VE.sh (zP c_crossings (hr.mono (by decide)) rfl (zE (zB 0 rfl (pv 0)) (zF (c:=.bo)))))))
   (zD (z0 (i:=3) (by decide) (zR (i:=3) nd rfl (by first|exact .inl rfl|exact .inr rfl) (ym (zF (c:=.mv [])))))
   (zD (yf PassesOwn.never rfl (zh true (zT hu (zB 0 rfl (pv 0)) zG (fun _ _=>rfl))) (zO 4 rfl (zM (i:=4) nd rfl (by first|exact .inl rfl|exact .inr rfl))) (zD (zN (i:=5) rfl (zR (i:=5) nd rfl (by first|exact .inl rfl|exact .inr rfl) (VE.sh (zP c_corners_at (hr.mono (by decide)) rfl (zE (zB 0 rfl (pv 0)) (zE (zB 4 rfl (pv 4)) (zF (c:=.bo))))))))
   (zD (zN (i:=6) rfl (zR (i:=6) nd rfl (by first|exact .inl rfl|exact .inr rfl) (zT hu (zB 1 rfl (pv 1)) (zT hu (zT hu (zB 2 rfl (pv 2)) (zB 4 rfl (pv 4)) (fun _ _=>rfl)) zG (fun _ _=>rfl)) (fun _ _=>rfl))))
   (zD (zN (i:=7) rfl (zR (i:=7) nd rfl (by first|exact .inl rfl|exact .inr rfl) (zT hu (zB 1 rfl (pv 1)) (zT hu (zT hu (zB 2 rfl (pv 2)) (zB 4 rfl (pv 4)) (fun _ _=>rfl)) zG (fun _ _=>rfl)) (fun _ _=>rfl))))
   (zD (zN (i:=8) rfl (zR (i:=8) nd rfl (by first|exact .inl rfl|exact .inr rfl) (zq (yE (VE.sh (qc jh jg (zT hu (zB 6 rfl (pv 6)) zG (fun _ _=>rfl)))) (yE (zT hu (zB 6 rfl (pv 6)) zG (fun _ _=>rfl)) (zF (c:=.sh)))))))
   (zK (yf PassesOwn.never rfl (zh true (zq (yE (zq (yE (VE.sh zG) (yE (VE.sh zG) (yE (zB 7 rfl (pv 7)) (zF (c:=.sh)))))) (yE (zq (yE (VE.sh zG) (yE (VE.sh zG) (yE (zB 7 rfl (pv 7)) (zF (c:=.sh)))))) (yE (zq (yE (VE.sh zG) (yE (VE.sh zG) (yE (zB 8 rfl (pv 8)) (zF (c:=.sh)))))) (yE (zq (yE (VE.sh zG) (yE (VE.sh zG) (yE (zB 8 rfl (pv 8)) (zF (c:=.sh)))))) (zF (c:=.sh)))))))) (xu 3 rfl (za (zO 9 rfl (zM (i:=9) nd rfl (by first|exact .inl rfl|exact .inr rfl))) (za (zO 10 rfl (zM (i:=10) nd rfl (by first|exact .inl rfl|exact .inr rfl))) (za (zO 11 rfl (zM (i:=11) nd rfl (by first|exact .inl rfl|exact .inr rfl))) yz)))) (zD (yS 3 (by decide) (yY (xh PySem.F.plainAttrs_list PySem.F.slot_list_append PySem.F.type_list_append zu (pv 3) (yA (zq (zr (VE.data (zT hu (zB 5 rfl (pv 5)) (zB 9 rfl (pv 9)) (fun _ _=>rfl)) (.mv [])) (zr (VE.data (zT hu (zB 5 rfl (pv 5)) (zB 10 rfl (pv 10)) (fun _ _=>rfl)) (.mv [])) (zr (VE.data (zB 11 rfl (pv 11)) (.mv [])) (zF (c:=.mv [])))))) pa_nil))))
   (zK (yS 3 (by decide) (yY (xh PySem.F.plainAttrs_list PySem.F.slot_list_append PySem.F.type_list_append zu (pv 3) (yA (zq (zr (VE.data (zT hu (zB 5 rfl (pv 5)) (zB 10 rfl (pv 10)) (fun _ _=>rfl)) (.mv [])) (zr (VE.data (zT hu (zB 5 rfl (pv 5)) (zB 9 rfl (pv 9)) (fun _ _=>rfl)) (.mv [])) (zr (zq (zr (qc jh jg (zT hu (zB 11 rfl (pv 11)) zG (fun _ _=>rfl))) (zr (qc jh jg (zT hu (zB 11 rfl (pv 11)) zG (fun _ _=>rfl))) (zF (c:=.mv []))))) (zF (c:=.mv [])))))) pa_nil)))))))))))))
   (zK (zj (jU 3 rfl (pv 3)))))))
noncomputable abbrev jk:Stmt:=top 18
theorem sc_laid_out:FnScope ["floor","stretches","known","walks","found","corner","across","up"] ["floor","stretches"] (zS jk):=⟨rfl,rfl,rfl,by decide +kernel,rfl,by decide +kernel,by decide +kernel⟩
theorem zdi(F:Fun K "laid_out" "laid_out" jk f fd)(B:Blt mg)
  (c_corners:Fn P w K mg base "corners" 2 ["floor"] (spV K 1 uI))
  (c_walks_from:Fn P w K mg base "walks_from" 2 ["steps","start"] (spV K 2 wb))
  (c_growth_steps:Fn P w K mg base "growth_steps" 5 ["floor","stretches"] (spV K 2 xp)):FnOk P w K mg base CX0 6 f fd ["floor","stretches"] (spV K 2 vM):=
 xm (g:=jr) (n:=2) (m:=8) [4] rfl rfl (by decide) F sc_laid_out fun cdv A outer s H E hr=>by
  have nd:=sc_laid_out.nd
  have hu:=ye hr
  have hu64:=hr.units
  exact (zD (zN (i:=2) rfl (zR (i:=2) nd rfl (by first|exact .inl rfl|exact .inr rfl) (VE.sh (zP c_corners (hr.mono (by decide)) rfl (zE (zB 0 rfl (pv 0)) (zF (c:=.bo)))))))
   (zD (zN (i:=3) rfl (zR (i:=3) nd rfl (by first|exact .inl rfl|exact .inr rfl) (VE.sh (zP c_walks_from (hr.mono (by decide)) rfl (zE (zP c_growth_steps (hr.mono (by decide)) rfl (zE (zB 0 rfl (pv 0)) (zE (zB 1 rfl (pv 1)) (zF (c:=.bo))))) (zE (zT hu (zB 2 rfl (pv 2)) zG (fun _ _=>rfl)) (zF (c:=.bo))))))))
   (zD (z0 (i:=4) (by decide) (zR (i:=4) nd rfl (by first|exact .inl rfl|exact .inr rfl) (ym (zF (c:=.mv [])))))
   (zD (yf PassesOwn.never rfl (zh true (zB 2 rfl (pv 2))) (zO 5 rfl (zM (i:=5) nd rfl (by first|exact .inl rfl|exact .inr rfl))) (zD (zN (i:=6) rfl (zR (i:=6) nd rfl (by first|exact .inl rfl|exact .inr rfl) (VE.sh (yO ziI (zbJ rfl) (by rfl) B.sum_ boot_sum (zE (wB (ow:=["growth"]) (js:=[]) (.mv []) (Or.inl rfl) (by decide) rfl (zh false (zT hu (zB 3 rfl (pv 3)) (zB 5 rfl (pv 5)) (fun _ _=>rfl))) (fun _ _ _ _=>(zO 0 rfl (zM (i:=0) (show (["growth"]:List Str).Nodup by decide +kernel) rfl (by first|exact .inl rfl|exact .inr rfl)))) (fun _ _ _ _=>yi) (fun _ _ _ _=>(VE.data (zT hu (zB 0 rfl (pv 0)) zG (fun _ _=>rfl)) (.mv [])))) (zF (c:=.bo)))))))
   (zD (zN (i:=7) rfl (zR (i:=7) nd rfl (by first|exact .inl rfl|exact .inr rfl) (VE.sh (yO ziI (zbJ rfl) (by rfl) B.sum_ boot_sum (zE (wB (ow:=["growth"]) (js:=[]) (.mv []) (Or.inl rfl) (by decide) rfl (zh false (zT hu (zB 3 rfl (pv 3)) (zB 5 rfl (pv 5)) (fun _ _=>rfl))) (fun _ _ _ _=>(zO 0 rfl (zM (i:=0) (show (["growth"]:List Str).Nodup by decide +kernel) rfl (by first|exact .inl rfl|exact .inr rfl)))) (fun _ _ _ _=>yi) (fun _ _ _ _=>(VE.data (zT hu (zB 0 rfl (pv 0)) zG (fun _ _=>rfl)) (.mv [])))) (zF (c:=.bo)))))))
   (zK (yS 4 (by decide) (yY (xh PySem.F.plainAttrs_list PySem.F.slot_list_append PySem.F.type_list_append zu (pv 4) (yA (zq (zr (VE.data (zB 5 rfl (pv 5)) (.mv [])) (zr (VE.data (zB 6 rfl (pv 6)) (.mv [])) (zr (VE.data (zB 7 rfl (pv 7)) (.mv [])) (zF (c:=.mv [])))))) pa_nil))))))))
   (zK (zj (jU 4 rfl (pv 4))))))))
noncomputable abbrev qw:Stmt:=top 19
theorem sc_speeds:FnScope ["floor","lean"] ["floor","lean"] (zS qw):=⟨rfl,rfl,rfl,by decide +kernel,rfl,by decide +kernel,by decide +kernel⟩
theorem zgb(F:Fun K "speeds" "speeds" qw f fd)(B:Blt mg)
  (c_laid_out:Fn P w K mg base "laid_out" 6 ["floor","stretches"] (spV K 2 vM)):FnOk P w K mg base CX0 7 f fd ["floor","lean"] (spV K 2 xD):=
 xm (g:=zaC) (n:=2) (m:=2) [] rfl rfl (by decide) F sc_speeds fun cdv A outer s H E hr=>by
  have nd:=sc_speeds.nd
  have hu:=ye hr
  have hu64:=hr.units
  exact (zK (zj (zP c_laid_out (hr.mono (by decide)) rfl (zE (zB 0 rfl (pv 0)) (zE (wB (ow:=["turn"]) (js:=[]) (.mv []) (Or.inl rfl) (by decide) rfl (zh false (zB 1 rfl (pv 1))) (fun _ _ _ _=>(zO 0 rfl (zM (i:=0) (show (["turn"]:List Str).Nodup by decide +kernel) rfl (by first|exact .inl rfl|exact .inr rfl)))) (fun _ _ _ _=>yi) (fun _ _ _ _=>(zq (zr zG (zr (VE.data (zB 0 rfl (pv 0)) (.mv [])) (zF (c:=.mv []))))))) (zF (c:=.bo)))))))
noncomputable abbrev vd:Stmt:=top 21
theorem sc_bar_stretch:FnScope ["at","lean","word","rising"] ["at","lean","word"] (zS vd):=⟨rfl,rfl,rfl,by decide +kernel,rfl,by decide +kernel,by decide +kernel⟩
theorem zah(F:Fun K "bar_stretch" "bar_stretch" vd f fd)(B:Blt mg):FnOk P w K mg base CX0 1 f fd ["at","lean","word"] (spV K 3 zg):=
 xm (g:=vp) (n:=3) (m:=4) [] rfl rfl (by decide) F sc_bar_stretch fun cdv A outer s H E hr=>by
  have nd:=sc_bar_stretch.nd
  have hu:=ye hr
  have hu64:=hr.units
  exact (zD (zN (i:=3) rfl (zR (i:=3) nd rfl (by first|exact .inl rfl|exact .inr rfl) (VE.sh (zQ xJ xI (zT hu (zB 1 rfl (pv 1)) (zT hu (zB 0 rfl (pv 0)) zG (fun _ _=>rfl)) (fun _ _=>rfl)) (zT hu (zB 1 rfl (pv 1)) (zT hu (zB 0 rfl (pv 0)) zG (fun _ _=>rfl)) (fun _ _=>rfl))))))
   (zK (zj (zkt (ze (vi hu64) jY (zB 2 rfl (pv 2)) wy (yF _)) (VE.data (zB 3 rfl (pv 3)) (.mv [])) (qc jh jg (zB 3 rfl (pv 3)))))))
noncomputable abbrev qy:Stmt:=top 22
theorem sc_broken:FnScope ["floor","braces","ropes","lean","at","field","word"] ["floor","braces","ropes","lean"] (zS qy):=⟨rfl,rfl,rfl,by decide +kernel,rfl,by decide +kernel,by decide +kernel⟩
theorem zgc(F:Fun K "broken" "broken" qy f fd)(B:Blt mg)
  (c_crossings:Fn P w K mg base "crossings" 4 ["floor"] (spV K 1 yH))
  (c_bar_stretch:Fn P w K mg base "bar_stretch" 1 ["at","lean","word"] (spV K 3 zg)):FnOk P w K mg base CX0 5 f fd ["floor","braces","ropes","lean"] (spV K 4 yR):=
 xm (g:=u7) (n:=4) (m:=7) [] rfl rfl (by decide) F sc_broken fun cdv A outer s H E hr=>by
  have nd:=sc_broken.nd
  have hu:=ye hr
  have hu64:=hr.units
  exact (zD (zN (i:=4) rfl (zR (i:=4) nd rfl (by first|exact .inl rfl|exact .inr rfl) (VE.sh (zP c_crossings (hr.mono (by decide)) rfl (zE (zB 0 rfl (pv 0)) (zF (c:=.bo)))))))
   (zD (yf PassesOwn.never rfl (zh true (zB 1 rfl (pv 1))) (zO 5 rfl (zM (i:=5) nd rfl (by first|exact .inl rfl|exact .inr rfl))) (zK (y2 (ze (zab hu64) zde (zP c_bar_stretch (hr.mono (by decide)) rfl (zE (zT hu (zB 4 rfl (pv 4)) (zB 5 rfl (pv 5)) (fun _ _=>rfl)) (zE (zB 3 rfl (pv 3)) (zE wy (zF (c:=.bo)))))) zG (yF _)) (zK (zj (zq (zr wy (zr (VE.data (zB 5 rfl (pv 5)) (.mv [])) (zF (c:=.mv []))))))) yW)))
   (zD (yf PassesOwn.never rfl (zh true (zB 2 rfl (pv 2))) (xu 2 rfl (za (zO 5 rfl (zM (i:=5) nd rfl (by first|exact .inl rfl|exact .inr rfl))) (za (zO 6 rfl (zM (i:=6) nd rfl (by first|exact .inl rfl|exact .inr rfl))) yz))) (zK (y2 (ze jZ jX (zP c_bar_stretch (hr.mono (by decide)) rfl (zE (zT hu (zB 4 rfl (pv 4)) (zB 5 rfl (pv 5)) (fun _ _=>rfl)) (zE (zB 3 rfl (pv 3)) (zE (zB 6 rfl (pv 6)) (zF (c:=.bo)))))) zG (yF _)) (zK (zj (zq (zr wy (zr (VE.data (zB 5 rfl (pv 5)) (.mv [])) (zr (VE.data (zB 6 rfl (pv 6)) (.mv [])) (zF (c:=.mv [])))))))) yW)))
   (zK (zj ke)))))
noncomputable abbrev vb:Stmt:=top 2
theorem sc_corner_spot:FnScope ["floor","corner"] ["floor","corner"] (zS vb):=⟨rfl,rfl,rfl,by decide +kernel,rfl,by decide +kernel,by decide +kernel⟩
theorem zaf(F:Fun K "corner_spot" "corner_spot" vb f fd)(B:Blt mg):FnOk P w K mg base CX0 1 f fd ["floor","corner"] (spV K 2 yN):=
 xm (g:=vn) (n:=2) (m:=2) [] rfl rfl (by decide) F sc_corner_spot fun cdv A outer s H E hr=>by
  have nd:=sc_corner_spot.nd
  have hu:=ye hr
  have hu64:=hr.units
  exact (zK (zj (zq (zr (zQ yV yU (zB 1 rfl (pv 1)) (zQ zo zn (zT hu (zB 0 rfl (pv 0)) zG (fun _ _=>rfl)) zG)) (zr (zQ xf xc (zB 1 rfl (pv 1)) (zQ zo zn (zT hu (zB 0 rfl (pv 0)) zG (fun _ _=>rfl)) zG)) (zF (c:=.mv [])))))))
noncomputable abbrev kh:Stmt:=top 20
theorem sc_stretch:FnScope ["floor","lean","start","end","speed_at","corner","across","up","total","axis","growth"] ["floor","lean","start","end"] (zS kh):=⟨rfl,rfl,rfl,by decide +kernel,rfl,by decide +kernel,by decide +kernel⟩
theorem zeo(F:Fun K "stretch" "stretch" kh f fd)(B:Blt mg)
  (c_speeds:Fn P w K mg base "speeds" 7 ["floor","lean"] (spV K 2 xD))
  (c_corner_spot:Fn P w K mg base "corner_spot" 1 ["floor","corner"] (spV K 2 yN)):FnOk P w K mg base CX0 8 f fd ["floor","lean","start","end"] (spV K 4 uG):=
 xm (g:=kt) (n:=4) (m:=11) [4] rfl rfl (by decide) F sc_stretch fun cdv A outer s H E hr=>by
  have nd:=sc_stretch.nd
  have hu:=ye hr
  have hu64:=hr.units
  exact (zD (z0 (i:=4) (by decide) (zR (i:=4) nd rfl (by first|exact .inl rfl|exact .inr rfl) (j8 kL)))
   (zD (yf PassesOwn.never rfl (zh true (VE.sh (zP c_speeds (hr.mono (by decide)) rfl (zE (zB 0 rfl (pv 0)) (zE (zB 1 rfl (pv 1)) (zF (c:=.bo))))))) (xu 3 rfl (za (zO 5 rfl (zM (i:=5) nd rfl (by first|exact .inl rfl|exact .inr rfl))) (za (zO 6 rfl (zM (i:=6) nd rfl (by first|exact .inl rfl|exact .inr rfl))) (za (zO 7 rfl (zM (i:=7) nd rfl (by first|exact .inl rfl|exact .inr rfl))) yz)))) (zK (j7 4 (by decide) (km (zq (zE (zB 6 rfl (pv 6)) (zE (zB 7 rfl (pv 7)) (zF (c:=.bo))))) (zaa (pv 4) (zB 5 rfl (pv 5)) um)) (jM hu (pv 4) (zB 5 rfl (pv 5)) (zq (zE (zB 6 rfl (pv 6)) (zE (zB 7 rfl (pv 7)) (zF (c:=.bo))))) rfl))))
   (zD (zN (i:=8) rfl (zR (i:=8) nd rfl (by first|exact .inl rfl|exact .inr rfl) (VE.sh zG)))
   (zD (yf PassesOwn.never rfl (zh true (zq (yE (VE.sh zG) (yE (VE.sh zG) (zF (c:=.sh)))))) (zO 9 rfl (zM (i:=9) nd rfl (by first|exact .inl rfl|exact .inr rfl))) (zD (zN (i:=10) rfl (zR (i:=10) nd rfl (by first|exact .inl rfl|exact .inr rfl) (VE.sh (zQ xJ xI (zT hu (zT hu (xS 4 (pv 4)) (zB 3 rfl (pv 3)) (fun _ _=>rfl)) (zB 9 rfl (pv 9)) (fun _ _=>rfl)) (zT hu (zT hu (xS 4 (pv 4)) (zB 2 rfl (pv 2)) (fun _ _=>rfl)) (zB 9 rfl (pv 9)) (fun _ _=>rfl))))))
   (zK (zjh (i:=8) rfl (zlb nd rfl (by first|exact .inl rfl|exact .inr rfl) (zQ xk xj (zB 10 rfl (pv 10)) (zQ xJ xI (zT hu (zP c_corner_spot (hr.mono (by decide)) rfl (zE (zB 0 rfl (pv 0)) (zE (zB 3 rfl (pv 3)) (zF (c:=.bo))))) (zB 9 rfl (pv 9)) (fun _ _=>rfl)) (zT hu (zP c_corner_spot (hr.mono (by decide)) rfl (zE (zB 0 rfl (pv 0)) (zE (zB 2 rfl (pv 2)) (zF (c:=.bo))))) (zB 9 rfl (pv 9)) (fun _ _=>rfl)))) zlA)))))
   (zK (zj (VE.data (zB 8 rfl (pv 8)) (.mv []))))))))
noncomputable abbrev uQ:Stmt:=top 35
theorem sc__law_added:FnScope ["_law_one","_law_other"] ["_law_one","_law_other"] (zS uQ):=⟨rfl,rfl,rfl,by decide +kernel,rfl,by decide +kernel,by decide +kernel⟩
theorem zbf(F:Fun K "_law_added" "_law_added" uQ f fd)(B:Blt mg):FnOk P w K mg base CX0 1 f fd ["_law_one","_law_other"] (spV K 2 yM):=
 xm (g:=uY) (n:=2) (m:=2) [] rfl rfl (by decide) F sc__law_added fun cdv A outer s H E hr=>by
  have nd:=sc__law_added.nd
  have hu:=ye hr
  have hu64:=hr.units
  exact (zK (zj (wB (ow:=["_law_a","_law_b"]) (js:=[]) (.mv []) (Or.inl rfl) (by decide) rfl (qb false (by rfl) B.zip_ (yE (zB 0 rfl (pv 0)) (yE (zB 1 rfl (pv 1)) (zF (c:=.sh))))) (fun _ _ _ _=>(xu 2 rfl (za (zO 0 rfl (zM (i:=0) (show (["_law_a","_law_b"]:List Str).Nodup by decide +kernel) rfl (by first|exact .inl rfl|exact .inr rfl))) (za (zO 1 rfl (zM (i:=1) (show (["_law_a","_law_b"]:List Str).Nodup by decide +kernel) rfl (by first|exact .inl rfl|exact .inr rfl))) yz)))) (fun _ _ _ _=>yi) (fun _ _ _ _=>(zQ zo zn (zB 0 rfl (pv 0)) (zB 1 rfl (pv 1)))))))
noncomputable abbrev jl:Stmt:=top 12
theorem sc_crossing:FnScope ["floor","field"] ["floor","field"] (zS jl):=⟨rfl,rfl,rfl,by decide +kernel,rfl,by decide +kernel,by decide +kernel⟩
theorem zdj(F:Fun K "crossing" "crossing" jl f fd)(B:Blt mg)
  (c_crossings:Fn P w K mg base "crossings" 4 ["floor"] (spV K 1 yH)):FnOk P w K mg base CX0 5 f fd ["floor","field"] (spV K 2 wA):=
 xm (g:=jt) (n:=2) (m:=2) [] rfl rfl (by decide) F sc_crossing fun cdv A outer s H E hr=>by
  have nd:=sc_crossing.nd
  have hu:=ye hr
  have hu64:=hr.units
  exact (zK (zj (zT hu (zP c_crossings (hr.mono (by decide)) rfl (zE (zB 0 rfl (pv 0)) (zF (c:=.bo)))) (zB 1 rfl (pv 1)) (fun _ _=>rfl))))
noncomputable abbrev zcb:Stmt:=top 23
theorem sc_slack:FnScope ["floor","lean","rope"] ["floor","lean","rope"] (zS zcb):=⟨rfl,rfl,rfl,by decide +kernel,rfl,by decide +kernel,by decide +kernel⟩
theorem zhP(F:Fun K "slack" "slack" zcb f fd)(B:Blt mg)
  (c_bar_stretch:Fn P w K mg base "bar_stretch" 1 ["at","lean","word"] (spV K 3 zg))
  (c_crossing:Fn P w K mg base "crossing" 5 ["floor","field"] (spV K 2 wA)):FnOk P w K mg base CX0 6 f fd ["floor","lean","rope"] (spV K 3 yD):=
 xm (g:=zcz) (n:=3) (m:=3) [] rfl rfl (by decide) F sc_slack fun cdv A outer s H E hr=>by
  have nd:=sc_slack.nd
  have hu:=ye hr
  have hu64:=hr.units
  exact (zK (zj (qe zhN zhK (zP c_bar_stretch (hr.mono (by decide)) rfl (zE (zP c_crossing (hr.mono (by decide)) rfl (zE (zB 0 rfl (pv 0)) (zE (zT hu (zB 2 rfl (pv 2)) zG (fun _ _=>rfl)) (zF (c:=.bo))))) (zE (zB 1 rfl (pv 1)) (zE (zT hu (zB 2 rfl (pv 2)) zG (fun _ _=>rfl)) (zF (c:=.bo)))))) zG (yF _))))
noncomputable abbrev uv:Stmt:=top 36
theorem sc__law_calm:FnScope ["_law_floor_here","_law_braces_here","_law_ropes_here","_law_one","_law_other","_law_both","_law_rope"] ["_law_floor_here","_law_braces_here","_law_ropes_here","_law_one","_law_other"] (zS uv):=⟨rfl,rfl,rfl,by decide +kernel,rfl,by decide +kernel,by decide +kernel⟩
theorem zco(F:Fun K "_law_calm" "_law_calm" uv f fd)(B:Blt mg)
  (c__law_added:Fn P w K mg base "_law_added" 1 ["_law_one","_law_other"] (spV K 2 yM))
  (c_broken:Fn P w K mg base "broken" 5 ["floor","braces","ropes","lean"] (spV K 4 yR))
  (c_slack:Fn P w K mg base "slack" 6 ["floor","lean","rope"] (spV K 3 yD)):FnOk P w K mg base CX0 7 f fd ["_law_floor_here","_law_braces_here","_law_ropes_here","_law_one","_law_other"] (spV K 5 wK):=
 xm (g:=vS) (n:=5) (m:=7) [] rfl rfl (by decide) F sc__law_calm fun cdv A outer s H E hr=>by
  have nd:=sc__law_calm.nd
  have hu:=ye hr
  have hu64:=hr.units
  exact (zD (zN (i:=5) rfl (zR (i:=5) nd rfl (by first|exact .inl rfl|exact .inr rfl) (VE.sh (zP c__law_added (hr.mono (by decide)) rfl (zE (zB 3 rfl (pv 3)) (zE (zB 4 rfl (pv 4)) (zF (c:=.bo))))))))
   (zD (y2 (VW.vt (zbR (ze zhO zhL (zP c_broken (hr.mono (by decide)) rfl (zE (zB 0 rfl (pv 0)) (zE (zB 1 rfl (pv 1)) (zE (zB 2 rfl (pv 2)) (zE (zB 3 rfl (pv 3)) (zF (c:=.bo))))))) ke (yF _)) (qN (ze zhO zhL (zP c_broken (hr.mono (by decide)) rfl (zE (zB 0 rfl (pv 0)) (zE (zB 1 rfl (pv 1)) (zE (zB 2 rfl (pv 2)) (zE (zB 4 rfl (pv 4)) (zF (c:=.bo))))))) ke (yF _))))) (zD (y2 (ze zfd zfb (zP c_broken (hr.mono (by decide)) rfl (zE (zB 0 rfl (pv 0)) (zE (zB 1 rfl (pv 1)) (zE (zB 2 rfl (pv 2)) (zE (zB 5 rfl (pv 5)) (zF (c:=.bo))))))) ke (yF _)) (zK (zj qf)) yW)
   (zD (y2 (ze zfd zfb (zP c_broken (hr.mono (by decide)) rfl (zE (zB 0 rfl (pv 0)) (zE (zB 1 rfl (pv 1)) (zE (zB 2 rfl (pv 2)) (zE (zP c__law_added (hr.mono (by decide)) rfl (zE (zB 3 rfl (pv 3)) (zE (zB 3 rfl (pv 3)) (zF (c:=.bo))))) (zF (c:=.bo))))))) ke (yF _)) (zK (zj qf)) yW)
   (zK (yf PassesOwn.never rfl (zh true (zB 2 rfl (pv 2))) (zO 6 rfl (zM (i:=6) nd rfl (by first|exact .inl rfl|exact .inr rfl))) (zK (y2 (ze (zab hu64) zde (zP c_slack (hr.mono (by decide)) rfl (zE (zB 0 rfl (pv 0)) (zE (zB 5 rfl (pv 5)) (zE (zB 6 rfl (pv 6)) (zF (c:=.bo)))))) (zmb (zP c_slack (hr.mono (by decide)) rfl (zE (zB 0 rfl (pv 0)) (zE (zB 3 rfl (pv 3)) (zE (zB 6 rfl (pv 6)) (zF (c:=.bo)))))) (zkK (zP c_slack (hr.mono (by decide)) rfl (zE (zB 0 rfl (pv 0)) (zE (zB 4 rfl (pv 4)) (zE (zB 6 rfl (pv 6)) (zF (c:=.bo)))))))) (yF _)) (zK (zj qf)) yW)))))) yW)
   (zK (zj qf))))
noncomputable abbrev qx:Stmt:=top 37
theorem sc_law:FnScope ["_law_script","_law_floor_here","_law_some","_law_braces_here","_law_ropes_here","_law_one","_law_other","_law_first","_law_due","_law_more","_law_turned","_law_rope","_law_start","_law_end"] ["_law_script"] (zS qx):=⟨rfl,rfl,rfl,by decide +kernel,rfl,by decide +kernel,by decide +kernel⟩
theorem zlo(F:Fun K "law" "law" qx f fd)(B:Blt mg)
  (c__law_floor:Fn P w K mg base "_law_floor" 2 ["_law_script","_law_at"] (spV K 2 we))
  (c__law_strips:Fn P w K mg base "_law_strips" 1 ["_law_floor_here"] (spV K 1 xQ))
  (c__law_braces:Fn P w K mg base "_law_braces" 2 ["_law_script","_law_at","_law_floor_here"] (spV K 3 xR))
  (c__law_ropes:Fn P w K mg base "_law_ropes" 2 ["_law_script","_law_at","_law_floor_here","_law_braces_here"] (spV K 4 wc))
  (c__law_lean:Fn P w K mg base "_law_lean" 3 ["_law_script","_law_at","_law_some","_law_braces_here","_law_ropes_here"] (spV K 5 wJ))
  (c_speeds:Fn P w K mg base "speeds" 7 ["floor","lean"] (spV K 2 xD))
  (c_broken:Fn P w K mg base "broken" 5 ["floor","braces","ropes","lean"] (spV K 4 yR))
  (c_stretch:Fn P w K mg base "stretch" 8 ["floor","lean","start","end"] (spV K 4 uG))
  (c__law_calm:Fn P w K mg base "_law_calm" 7 ["_law_floor_here","_law_braces_here","_law_ropes_here","_law_one","_law_other"] (spV K 5 wK))
  (c__law_cell:Fn P w K mg base "_law_cell" 1 ["_law_script","_law_k"] (spV K 2 zV))
  (c_slack:Fn P w K mg base "slack" 6 ["floor","lean","rope"] (spV K 3 yD))
  (c__law_added:Fn P w K mg base "_law_added" 1 ["_law_one","_law_other"] (spV K 2 yM)):FnOk P w K mg base CX0 9 f fd ["_law_script"] (spV K 1 qY):=
 xm (g:=zir) (n:=1) (m:=14) [] rfl rfl (by decide) F sc_law fun cdv A outer s H E hr=>by
  have nd:=sc_law.nd
  have hu:=ye hr
  have hu64:=hr.units
  exact (zD (zN (i:=1) rfl (zR (i:=1) nd rfl (by first|exact .inl rfl|exact .inr rfl) (VE.sh (zP c__law_floor (hr.mono (by decide)) rfl (zE (zB 0 rfl (pv 0)) (zE zG (zF (c:=.bo))))))))
   (zD (zN (i:=2) rfl (zR (i:=2) nd rfl (by first|exact .inl rfl|exact .inr rfl) (VE.sh (zP c__law_strips (hr.mono (by decide)) rfl (zE (zB 1 rfl (pv 1)) (zF (c:=.bo)))))))
   (zD (zN (i:=3) rfl (zR (i:=3) nd rfl (by first|exact .inl rfl|exact .inr rfl) (VE.sh (zP c__law_braces (hr.mono (by decide)) rfl (zE (zB 0 rfl (pv 0)) (zE zG (zE (zB 1 rfl (pv 1)) (zF (c:=.bo)))))))))
   (zD (zN (i:=4) rfl (zR (i:=4) nd rfl (by first|exact .inl rfl|exact .inr rfl) (VE.sh (zP c__law_ropes (hr.mono (by decide)) rfl (zE (zB 0 rfl (pv 0)) (zE zG (zE (zB 1 rfl (pv 1)) (zE (zB 3 rfl (pv 3)) (zF (c:=.bo))))))))))
   (zD (zN (i:=5) rfl (zR (i:=5) nd rfl (by first|exact .inl rfl|exact .inr rfl) (VE.sh (zP c__law_lean (hr.mono (by decide)) rfl (zE (zB 0 rfl (pv 0)) (zE zG (zE (zB 2 rfl (pv 2)) (zE (zB 3 rfl (pv 3)) (zE (zB 4 rfl (pv 4)) (zF (c:=.bo)))))))))))
   (zD (zN (i:=6) rfl (zR (i:=6) nd rfl (by first|exact .inl rfl|exact .inr rfl) (VE.sh (zP c__law_lean (hr.mono (by decide)) rfl (zE (zB 0 rfl (pv 0)) (zE zG (zE (zB 2 rfl (pv 2)) (zE (zB 3 rfl (pv 3)) (zE (zB 4 rfl (pv 4)) (zF (c:=.bo)))))))))))
   (zD (zN (i:=7) rfl (zR (i:=7) nd rfl (by first|exact .inl rfl|exact .inr rfl) (VE.sh (zP c_speeds (hr.mono (by decide)) rfl (zE (zB 1 rfl (pv 1)) (zE (zB 5 rfl (pv 5)) (zF (c:=.bo))))))))
   (zD (zN (i:=8) rfl (by first | exact jm (kK (i:=8) (ow:=["_law_a","_law_b"]) (js:=[]) (.mv []) nd rfl (by first|exact .inl rfl|exact .inr rfl) (Or.inl rfl) (by decide) rfl (qb false (by rfl) B.zip_ (yE (zB 7 rfl (pv 7)) (yE (VE.sh (zP c_speeds (hr.mono (by decide)) rfl (zE (zB 1 rfl (pv 1)) (zE (zB 6 rfl (pv 6)) (zF (c:=.bo)))))) (zF (c:=.sh))))) (fun _ _ _ _=>(xu 2 rfl (za (zO 0 rfl (zM (i:=0) (show (["_law_a","_law_b"]:List Str).Nodup by decide +kernel) rfl (by first|exact .inl rfl|exact .inr rfl))) (za (zO 1 rfl (zM (i:=1) (show (["_law_a","_law_b"]:List Str).Nodup by decide +kernel) rfl (by first|exact .inl rfl|exact .inr rfl))) yz)))) (fun _ _ _ _=>yi) (fun _ _ _ _=>(zq (zr (VE.data (zT hu (zB 0 rfl (pv 0)) zG (fun _ _=>rfl)) (.mv [])) (zr (zQ zo zn (zT hu (zB 0 rfl (pv 0)) zG (fun _ _=>rfl)) (zT hu (zB 1 rfl (pv 1)) zG (fun _ _=>rfl))) (zr (zQ zo zn (zT hu (zB 0 rfl (pv 0)) zG (fun _ _=>rfl)) (zT hu (zB 1 rfl (pv 1)) zG (fun _ _=>rfl))) (zF (c:=.mv [])))))))) | exact (zR (i:=8) nd rfl (by first|exact .inl rfl|exact .inr rfl) (VE.sh (wB (ow:=["_law_a","_law_b"]) (js:=[]) (.mv []) (Or.inl rfl) (by decide) rfl (qb false (by rfl) B.zip_ (yE (zB 7 rfl (pv 7)) (yE (VE.sh (zP c_speeds (hr.mono (by decide)) rfl (zE (zB 1 rfl (pv 1)) (zE (zB 6 rfl (pv 6)) (zF (c:=.bo)))))) (zF (c:=.sh))))) (fun _ _ _ _=>(xu 2 rfl (za (zO 0 rfl (zM (i:=0) (show (["_law_a","_law_b"]:List Str).Nodup by decide +kernel) rfl (by first|exact .inl rfl|exact .inr rfl))) (za (zO 1 rfl (zM (i:=1) (show (["_law_a","_law_b"]:List Str).Nodup by decide +kernel) rfl (by first|exact .inl rfl|exact .inr rfl))) yz)))) (fun _ _ _ _=>yi) (fun _ _ _ _=>(zq (zr (VE.data (zT hu (zB 0 rfl (pv 0)) zG (fun _ _=>rfl)) (.mv [])) (zr (zQ zo zn (zT hu (zB 0 rfl (pv 0)) zG (fun _ _=>rfl)) (zT hu (zB 1 rfl (pv 1)) zG (fun _ _=>rfl))) (zr (zQ zo zn (zT hu (zB 0 rfl (pv 0)) zG (fun _ _=>rfl)) (zT hu (zB 1 rfl (pv 1)) zG (fun _ _=>rfl))) (zF (c:=.mv []))))))))))))
   (zD (y2 (VW.vt (zgK (ze (zab hu64) zde (zP c_speeds (hr.mono (by decide)) rfl (zE (zB 1 rfl (pv 1)) (zE (zP c__law_added (hr.mono (by decide)) rfl (zE (zB 5 rfl (pv 5)) (zE (zB 6 rfl (pv 6)) (zF (c:=.bo))))) (zF (c:=.bo))))) (zB 8 rfl (pv 8)) (yF _)) (zdQ (zkI (zgL (zP c__law_calm (hr.mono (by decide)) rfl (zE (zB 1 rfl (pv 1)) (zE (zB 3 rfl (pv 3)) (zE (zB 4 rfl (pv 4)) (zE (zB 5 rfl (pv 5)) (zE (zB 6 rfl (pv 6)) (zF (c:=.bo)))))))) (fun _=>rfl)))))) (zK (zj qf)) yW)
   (zD (zN (i:=9) rfl (zR (i:=9) nd rfl (by first|exact .inl rfl|exact .inr rfl) (VE.sh (zQ xJ xI (zQ yV yU (zP c__law_cell (hr.mono (by decide)) rfl (zE (zB 0 rfl (pv 0)) (zE zG (zF (c:=.bo))))) zG) zG))))
   (zD (zN (i:=10) rfl (by first | exact jm (kK (i:=10) (ow:=["_law_turn"]) (js:=[9]) (.mv []) nd rfl (by first|exact .inl rfl|exact .inr rfl) (Or.inl rfl) (by decide) rfl (zh false (zB 5 rfl (pv 5))) (fun _ _ _ _=>(zO 0 rfl (zM (i:=0) (show (["_law_turn","_law_more"]:List Str).Nodup by decide +kernel) rfl (by first|exact .inl rfl|exact .inr rfl)))) (fun _ _ _ _=>yi) (fun _ _ _ _=>(zQ zo zn (zB 0 rfl (pv 0)) (zB 1 rfl (pv 1))))) | exact (zR (i:=10) nd rfl (by first|exact .inl rfl|exact .inr rfl) (VE.sh (wB (ow:=["_law_turn"]) (js:=[9]) (.mv []) (Or.inl rfl) (by decide) rfl (zh false (zB 5 rfl (pv 5))) (fun _ _ _ _=>(zO 0 rfl (zM (i:=0) (show (["_law_turn","_law_more"]:List Str).Nodup by decide +kernel) rfl (by first|exact .inl rfl|exact .inr rfl)))) (fun _ _ _ _=>yi) (fun _ _ _ _=>(zQ zo zn (zB 0 rfl (pv 0)) (zB 1 rfl (pv 1)))))))))
   (zD (y2 (ze (zab hu64) zde (zP c_broken (hr.mono (by decide)) rfl (zE (zB 1 rfl (pv 1)) (zE (zB 3 rfl (pv 3)) (zE (zB 4 rfl (pv 4)) (zE (zB 10 rfl (pv 10)) (zF (c:=.bo))))))) (zP c_broken (hr.mono (by decide)) rfl (zE (zB 1 rfl (pv 1)) (zE (zB 3 rfl (pv 3)) (zE (zB 4 rfl (pv 4)) (zE (zB 5 rfl (pv 5)) (zF (c:=.bo))))))) (yF _)) (zK (zj qf)) yW)
   (zD (yf PassesOwn.never rfl (zh true (VE.sh (qd (zB 4 rfl (pv 4)) zbT (zbS zG)))) (zO 11 rfl (zM (i:=11) nd rfl (by first|exact .inl rfl|exact .inr rfl))) (zK (y2 (ze (zab hu64) zde (zP c_slack (hr.mono (by decide)) rfl (zE (zB 1 rfl (pv 1)) (zE (zB 10 rfl (pv 10)) (zE (zB 11 rfl (pv 11)) (zF (c:=.bo)))))) (zP c_slack (hr.mono (by decide)) rfl (zE (zB 1 rfl (pv 1)) (zE (zB 5 rfl (pv 5)) (zE (zB 11 rfl (pv 11)) (zF (c:=.bo)))))) (yF _)) (zK (zj qf)) yW)))
   (zD (zN (i:=12) rfl (zR (i:=12) nd rfl (by first|exact .inl rfl|exact .inr rfl) (zT hu (zT hu (zB 7 rfl (pv 7)) (zQ yV yU (zP c__law_cell (hr.mono (by decide)) rfl (zE (zB 0 rfl (pv 0)) (zE zG (zF (c:=.bo))))) (yO xx xy (by rfl) B.len_ PySem.boot_len (zE (zB 7 rfl (pv 7)) (zF (c:=.bo))))) (fun _ _=>rfl)) zG (fun _ _=>rfl))))
   (zD (zN (i:=13) rfl (zR (i:=13) nd rfl (by first|exact .inl rfl|exact .inr rfl) (zT hu (zT hu (zB 7 rfl (pv 7)) (zQ yV yU (zP c__law_cell (hr.mono (by decide)) rfl (zE (zB 0 rfl (pv 0)) (zE zG (zF (c:=.bo))))) (yO xx xy (by rfl) B.len_ PySem.boot_len (zE (zB 7 rfl (pv 7)) (zF (c:=.bo))))) (fun _ _=>rfl)) zG (fun _ _=>rfl))))
   (zK (zj (qe (vi hu64) jY (zP c_stretch (hr.mono (by decide)) rfl (zE (zB 1 rfl (pv 1)) (zE (wB (ow:=["_law_turn"]) (js:=[9]) (.mv []) (Or.inl rfl) (by decide) rfl (zh false (zB 5 rfl (pv 5))) (fun _ _ _ _=>(zO 0 rfl (zM (i:=0) (show (["_law_turn","_law_more"]:List Str).Nodup by decide +kernel) rfl (by first|exact .inl rfl|exact .inr rfl)))) (fun _ _ _ _=>yi) (fun _ _ _ _=>(VE.data (zB 1 rfl (pv 1)) (.mv [])))) (zE (zB 12 rfl (pv 12)) (zE (zB 13 rfl (pv 13)) (zF (c:=.bo))))))) zG (yF _)))))))))))))))))))
open PySem.W
theorem len1{us:List Value}(h:us.length=1):∃ a,us=[a]:=List.length_eq_one_iff.mp h
theorem len2{us:List Value}(h:us.length=2):∃ a0 a1,us=[a0,a1]:=by
 cases us with
 | nil=>cases h
 | cons a0 r=>obtain ⟨a1,rfl⟩:=len1 (us:=r) (Nat.succ.inj h);exact ⟨a0,a1,rfl⟩
theorem zgf{us:List Value}(h:us.length=3):∃ a0 a1 a2,us=[a0,a1,a2]:=by
 cases us with
 | nil=>cases h
 | cons a0 r=>obtain ⟨a1,a2,rfl⟩:=len2 (us:=r) (Nat.succ.inj h);exact ⟨a0,a1,a2,rfl⟩
theorem zhZ{us:List Value}(h:us.length=4):∃ a0 a1 a2 a3,us=[a0,a1,a2,a3]:=by
 cases us with
 | nil=>cases h
 | cons a0 r=>obtain ⟨a1,a2,a3,rfl⟩:=zgf (us:=r) (Nat.succ.inj h);exact ⟨a0,a1,a2,a3,rfl⟩
theorem zmL{us:List Value}(h:us.length=5):∃ a0 a1 a2 a3 a4,us=[a0,a1,a2,a3,a4]:=by
 cases us with
 | nil=>cases h
 | cons a0 r=>obtain ⟨a1,a2,a3,a4,rfl⟩:=zhZ (us:=r) (Nat.succ.inj h);exact ⟨a0,a1,a2,a3,a4,rfl⟩
theorem all_mk{l:PySem.W.OpenLaw}{w:World}{K:PySem.W.Frag}{h:Heap}{mg:Str->Option Value}{fa:Addr}(X:K.In h)(G:h.Ns mainGlobals mg)(hfa:mg "law"=some (.ref fa))
  (d0:Df K "_law_cell" uu)
  (d1:Df K "_law_digits" vg)
  (d2:Df K "_law_come" ut)
  (d3:Df K "_law_floor" uP)
  (d4:Df K "_law_strips" ve)
  (d5:Df K "_law_braces" vh)
  (d6:Df K "_law_ropes" uO)
  (d7:Df K "_law_pair" uq)
  (d8:Df K "_law_raised" vf)
  (d9:Df K "_law_lean" ur)
  (d10:Df K "corners_at" uN)
  (d11:Df K "corners" ki)
  (d12:Df K "onward_from" vY)
  (d13:Df K "walks_from" uL)
  (d14:Df K "runs" zeg)
  (d15:Df K "field_left" uM)
  (d16:Df K "row_runs" jj)
  (d17:Df K "field_below" vZ)
  (d18:Df K "column_runs" vc)
  (d19:Df K "strips" qv)
  (d20:Df K "crossings" uo)
  (d21:Df K "growth_steps" vA)
  (d22:Df K "laid_out" jk)
  (d23:Df K "speeds" qw)
  (d24:Df K "bar_stretch" vd)
  (d25:Df K "broken" qy)
  (d26:Df K "corner_spot" vb)
  (d27:Df K "stretch" kh)
  (d28:Df K "_law_added" uQ)
  (d29:Df K "crossing" jl)
  (d30:Df K "slack" zcb)
  (d31:Df K "_law_calm" uv)
  (d32:Df K "law" qx)
  (z_enumerate:nsIn K mainGlobals "enumerate"=some none)
  (z_int:nsIn K mainGlobals "int"=some none)
  (z_len:nsIn K mainGlobals "len"=some none)
  (z_list:nsIn K mainGlobals "list"=some none)
  (z_max:nsIn K mainGlobals "max"=some none)
  (z_range:nsIn K mainGlobals "range"=some none)
  (z_set:nsIn K mainGlobals "set"=some none)
  (z_sorted:nsIn K mainGlobals "sorted"=some none)
  (z_sum:nsIn K mainGlobals "sum"=some none)
  (z_tuple:nsIn K mainGlobals "tuple"=some none)
  (z_zip:nsIn K mainGlobals "zip"=some none)
  : ∃ fd:FuncData,(∀ (s:Shared) (v:Value),BindsTo s fd ⟨[v],[]⟩ [("_law_script",v)])/\∀ base:Heap,K.In base->base.Ns mainGlobals mg->FnOk l.prog w K mg base CX0 9 fa fd ["_law_script"] (spV K 1 qY):=by
 obtain @⟨f,oc,od,kV,dc,pm,an,cd,ct,sl,a,lk,c,k⟩:=d32
 cases hfa.symm.trans (mg_of X G a)
 have B:Blt mg:=⟨mg_none_of X G z_enumerate,mg_none_of X G z_int,mg_none_of X G z_len,mg_none_of X G z_list,mg_none_of X G z_max,mg_none_of X G z_range,mg_none_of X G z_set,mg_none_of X G z_sorted,mg_none_of X G z_sum,mg_none_of X G z_tuple,mg_none_of X G z_zip⟩
 refine ⟨fnOf "law" "law" (ud qx) (wf qx) (zS qx) .none kV dc pm an cd ct,fun s v=>.of_eq rfl,fun base _ _=>?_⟩
 have c__law_cell:Fn l.prog w K mg base _ _ _ _:=d0.fn X G (fun _ _ F=>zcn F B) fun _ _ _ _ _ _ us hl=>by obtain ⟨_,_,rfl⟩:=len2 hl;rfl
 have c__law_digits:Fn l.prog w K mg base _ _ _ _:=d1.fn X G (fun _ _ F=>zak F B) fun _ _ _ _ _ _ us hl=>by obtain ⟨_,_,_,rfl⟩:=zgf hl;rfl
 have c__law_come:Fn l.prog w K mg base _ _ _ _:=d2.fn X G (fun _ _ F=>zcm F B) fun _ _ _ _ _ _ us hl=>by obtain ⟨_,_,_,rfl⟩:=zgf hl;rfl
 have c__law_floor:Fn l.prog w K mg base _ _ _ _:=d3.fn X G (fun _ _ F=>zbe F B c__law_cell c__law_digits c__law_come) fun _ _ _ _ _ _ us hl=>by obtain ⟨_,_,rfl⟩:=len2 hl;rfl
 have c__law_strips:Fn l.prog w K mg base _ _ _ _:=d4.fn X G (fun _ _ F=>zai F B) fun _ _ _ _ _ _ us hl=>by obtain ⟨_,rfl⟩:=len1 hl;rfl
 have c__law_braces:Fn l.prog w K mg base _ _ _ _:=d5.fn X G (fun _ _ F=>zal F B c__law_cell c__law_digits) fun _ _ _ _ _ _ us hl=>by obtain ⟨_,_,_,rfl⟩:=zgf hl;rfl
 have c__law_ropes:Fn l.prog w K mg base _ _ _ _:=d6.fn X G (fun _ _ F=>zbd F B c__law_digits c__law_cell) fun _ _ _ _ _ _ us hl=>by obtain ⟨_,_,_,_,rfl⟩:=zhZ hl;rfl
 have c__law_pair:Fn l.prog w K mg base _ _ _ _:=d7.fn X G (fun _ _ F=>zck F B) fun _ _ _ _ _ _ us hl=>by obtain ⟨_,_,rfl⟩:=len2 hl;rfl
 have c__law_raised:Fn l.prog w K mg base _ _ _ _:=d8.fn X G (fun _ _ F=>zaj F B c__law_pair) fun _ _ _ _ _ _ us hl=>by obtain ⟨_,_,_,_,rfl⟩:=zhZ hl;rfl
 have c__law_lean:Fn l.prog w K mg base _ _ _ _:=d9.fn X G (fun _ _ F=>zcl F B c__law_cell c__law_raised c__law_digits) fun _ _ _ _ _ _ us hl=>by obtain ⟨_,_,_,_,_,rfl⟩:=zmL hl;rfl
 have c_corners_at:Fn l.prog w K mg base _ _ _ _:=d10.fn X G (fun _ _ F=>zbc F B) fun _ _ _ _ _ _ us hl=>by obtain ⟨_,_,rfl⟩:=len2 hl;rfl
 have c_corners:Fn l.prog w K mg base _ _ _ _:=d11.fn X G (fun _ _ F=>zep F B c_corners_at) fun _ _ _ _ _ _ us hl=>by obtain ⟨_,rfl⟩:=len1 hl;rfl
 have c_onward_from:Fn l.prog w K mg base _ _ _ _:=d12.fn X G (fun _ _ F=>zad F B) fun _ _ _ _ _ _ us hl=>by obtain ⟨_,rfl⟩:=len1 hl;rfl
 have c_walks_from:Fn l.prog w K mg base _ _ _ _:=d13.fn X G (fun _ _ F=>zba F B c_onward_from) fun _ _ _ _ _ _ us hl=>by obtain ⟨_,_,rfl⟩:=len2 hl;rfl
 have c_runs:Fn l.prog w K mg base _ _ _ _:=d14.fn X G (fun _ _ F=>zjO F B) fun _ _ _ _ _ _ us hl=>by obtain ⟨_,_,rfl⟩:=len2 hl;rfl
 have c_field_left:Fn l.prog w K mg base _ _ _ _:=d15.fn X G (fun _ _ F=>zbb F B) fun _ _ _ _ _ _ us hl=>by obtain ⟨_,_,rfl⟩:=len2 hl;rfl
 have c_row_runs:Fn l.prog w K mg base _ _ _ _:=d16.fn X G (fun _ _ F=>zdh F B c_runs c_field_left) fun _ _ _ _ _ _ us hl=>by obtain ⟨_,rfl⟩:=len1 hl;rfl
 have c_field_below:Fn l.prog w K mg base _ _ _ _:=d17.fn X G (fun _ _ F=>zae F B) fun _ _ _ _ _ _ us hl=>by obtain ⟨_,_,rfl⟩:=len2 hl;rfl
 have c_column_runs:Fn l.prog w K mg base _ _ _ _:=d18.fn X G (fun _ _ F=>zag F B c_runs c_field_below) fun _ _ _ _ _ _ us hl=>by obtain ⟨_,rfl⟩:=len1 hl;rfl
 have c_strips:Fn l.prog w K mg base _ _ _ _:=d19.fn X G (fun _ _ F=>zga F B c_row_runs c_column_runs) fun _ _ _ _ _ _ us hl=>by obtain ⟨_,rfl⟩:=len1 hl;rfl
 have c_crossings:Fn l.prog w K mg base _ _ _ _:=d20.fn X G (fun _ _ F=>zcj F B c_strips) fun _ _ _ _ _ _ us hl=>by obtain ⟨_,rfl⟩:=len1 hl;rfl
 have c_growth_steps:Fn l.prog w K mg base _ _ _ _:=d21.fn X G (fun _ _ F=>qJ F B c_crossings c_corners_at) fun _ _ _ _ _ _ us hl=>by obtain ⟨_,_,rfl⟩:=len2 hl;rfl
 have c_laid_out:Fn l.prog w K mg base _ _ _ _:=d22.fn X G (fun _ _ F=>zdi F B c_corners c_walks_from c_growth_steps) fun _ _ _ _ _ _ us hl=>by obtain ⟨_,_,rfl⟩:=len2 hl;rfl
 have c_speeds:Fn l.prog w K mg base _ _ _ _:=d23.fn X G (fun _ _ F=>zgb F B c_laid_out) fun _ _ _ _ _ _ us hl=>by obtain ⟨_,_,rfl⟩:=len2 hl;rfl
 have c_bar_stretch:Fn l.prog w K mg base _ _ _ _:=d24.fn X G (fun _ _ F=>zah F B) fun _ _ _ _ _ _ us hl=>by obtain ⟨_,_,_,rfl⟩:=zgf hl;rfl
 have c_broken:Fn l.prog w K mg base _ _ _ _:=d25.fn X G (fun _ _ F=>zgc F B c_crossings c_bar_stretch) fun _ _ _ _ _ _ us hl=>by obtain ⟨_,_,_,_,rfl⟩:=zhZ hl;rfl
 have c_corner_spot:Fn l.prog w K mg base _ _ _ _:=d26.fn X G (fun _ _ F=>zaf F B) fun _ _ _ _ _ _ us hl=>by obtain ⟨_,_,rfl⟩:=len2 hl;rfl
 have c_stretch:Fn l.prog w K mg base _ _ _ _:=d27.fn X G (fun _ _ F=>zeo F B c_speeds c_corner_spot) fun _ _ _ _ _ _ us hl=>by obtain ⟨_,_,_,_,rfl⟩:=zhZ hl;rfl
 have c__law_added:Fn l.prog w K mg base _ _ _ _:=d28.fn X G (fun _ _ F=>zbf F B) fun _ _ _ _ _ _ us hl=>by obtain ⟨_,_,rfl⟩:=len2 hl;rfl
 have c_crossing:Fn l.prog w K mg base _ _ _ _:=d29.fn X G (fun _ _ F=>zdj F B c_crossings) fun _ _ _ _ _ _ us hl=>by obtain ⟨_,_,rfl⟩:=len2 hl;rfl
 have c_slack:Fn l.prog w K mg base _ _ _ _:=d30.fn X G (fun _ _ F=>zhP F B c_bar_stretch c_crossing) fun _ _ _ _ _ _ us hl=>by obtain ⟨_,_,_,rfl⟩:=zgf hl;rfl
 have c__law_calm:Fn l.prog w K mg base _ _ _ _:=d31.fn X G (fun _ _ F=>zco F B c__law_added c_broken c_slack) fun _ _ _ _ _ _ us hl=>by obtain ⟨_,_,_,_,_,rfl⟩:=zmL hl;rfl
 exact zlo (zis (st:=qx) lk c k) B c__law_floor c__law_strips c__law_braces c__law_ropes c__law_lean c_speeds c_broken c_stretch c__law_calm c__law_cell c_slack c__law_added
theorem walk{l:PySem.W.OpenLaw}{q:Program}{loose:List Str}{XP:(Str->Option Value)->Heap->Prop}{YP:World->Heap->Prop}{d:DefRec}{K:Params->PySem.W.Frag}(hn:l.most=some 63)(hdf:d.params.defaults=[])
  (hY:∀ (w:World) (h:Heap),YP w h->(K w.params).In h)
  (F:∀ (w:World) (mg:Str->Option Value) (fa:Addr) (h:Heap),(K w.params).In h->h.Ns mainGlobals mg->mg d.name=some (.ref fa)->
   ∃ fd:FuncData,(∀ (s:Shared) (u:Value),BindsTo s fd ⟨[u],[]⟩ [("_law_script",u)])/\∀ base:Heap,(K w.params).In base->base.Ns mainGlobals mg->FnOk l.prog w (K w.params) mg base CX0 9 fa fd ["_law_script"] (spV (K w.params) 1 qY)):
  PySem.W.WalkO q loose XP YP l.row.toRowW d [] (fun f vs=>PySem.call f vs):=
 L2.walk_ofB (n:=63) (k:=9) (x:="_law_script") (CX:=fun _=>CX0) (sp:=fun w=>spV (K w.params) 1 qY) hn (by decide) hdf ⟨rfl,by decide,by decide⟩ hY F (fun _ _ a ns hl hb ho hS=>zlr ho hS (zib ns hl hb)) fun _ _ _ _ _ z=>z
end Cb
noncomputable def PySem.W.Fast.tw10245505736643444239:Nat:=0
noncomputable def PySem.W.Fast.tw10370094917020551303:Nat:=0
noncomputable def PySem.W.Fast.tw10479087000426044984:Nat:=0
noncomputable def PySem.W.Fast.tw13795026516645979936:Nat:=0
noncomputable def PySem.W.Fast.tw14440965585107641802:Nat:=0
noncomputable def PySem.W.Fast.tw15715435610473085685:Nat:=0
noncomputable def PySem.W.Fast.tw15986865411926304127:Nat:=0
noncomputable def PySem.W.Fast.tw1684807852765546634:Nat:=0
noncomputable def PySem.W.Fast.tw17889106351740169594:Nat:=0
noncomputable def PySem.W.Fast.tw18254629889132891558:Nat:=0
noncomputable def PySem.W.Fast.tw18365691861394742609:Nat:=0
noncomputable def PySem.W.Fast.tw216700906338619005:Nat:=0
noncomputable def PySem.W.Fast.tw2298286998174180514:Nat:=0
noncomputable def PySem.W.Fast.tw3321950746305336112:Nat:=0
noncomputable def PySem.W.Fast.tw5152441456873924454:Nat:=0
noncomputable def PySem.W.Fast.tw5497260143763540813:Nat:=0
noncomputable def PySem.W.Fast.tw6243315522965194310:Nat:=0
noncomputable def PySem.W.Fast.tw6940431411138611669:Nat:=0
noncomputable def PySem.W.Fast.tw818397190226712726:Nat:=0
noncomputable def PySem.W.Fast.tw8332334663821023288:Nat:=0
open PySem PySem.W PyProof.Rows
set_option maxRecDepth 100000 in
set_option maxHeartbeats 0 in
theorem PySem.Challenge.cw_crossbrace_k12_whole_leans_added_holds : PySem.Challenge.rw_crossbrace_k12_whole_leans_added.Holds := by
 w_on;o_law;k_head;(case hw=>w_witness2)
 k_fill
 refine Cb.walk (l:=PySem.Challenge.rw_crossbrace_k12_whole_leans_added) rfl rfl (fun w h Y=>PySem.W.kIn_of Y) ?F
 case F=>
  intro w mg fa h KX G hmg
  refine' Cb.all_mk KX G hmg ?_ ?_ ?_ ?_ ?_ ?_ ?_ ?_ ?_ ?_ ?_ ?_ ?_ ?_ ?_ ?_ ?_ ?_ ?_ ?_ ?_ ?_ ?_ ?_ ?_ ?_ ?_ ?_ ?_ ?_ ?_ ?_ ?_ ?_ ?_ ?_ ?_ ?_ ?_ ?_ ?_ ?_ ?_ ?_
  any_goals first | k_is | exact .mk (by k_is) (by k_is) (by k_is) (by k_is)
