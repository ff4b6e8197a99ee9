import PyProof.Rows.All
import Wide.All
import OpenK.AllK
import Wide.FinOn
import Lean
import PyProof.EqAt
import PyProof.EqKinds
import PyProof.TupleCall
import KE.KDictList
import PyProof.P3Eq
import PyProof.NeData
import PyProof.P3In
import PyProof.FactsAll.NoneType
import PyProof.Draws
import PyProof.Rows.SetFrom
import PyProof.SetRoads
import PyProof.DictUpdate
import KE.KDictSum
import KE.KRevIter
import KE.KRevSl
import KE.KEqDict
import KE.KSortTup
import PySem.Challenge.RW_crossbrace_k27_from_choice_to_choice
set_option Elab.async false
set_option linter.all false
set_option maxRecDepth 100000
set_option maxHeartbeats 4000000
namespace L2
open PySem PySem.Spec PyProof.Rows
noncomputable abbrev Key:=Sum Int Str
noncomputable def qq:Key->Value->Bool
 | .inl k,v=>Value.isInt k v
 | .inr x,v=>Value.isStrOf x v
noncomputable def znt(w:World):Key->Int
 | .inl k=>hashInt k
 | .inr x=>hashStr w x
theorem zo:∀ {k:Key} {v:Value},qq k v=true->(∃ i t,k=Sum.inl i/\v=Value.int i t)∨(∃ x t,k=Sum.inr x/\v=Value.str x t)
 | .inl i,v,h=>by
  obtain ⟨t,e⟩:=Value.isInt_shape (k:=i) (v:=v) h
  exact .inl ⟨i,t,rfl,e⟩
 | .inr x,v,h=>by
  obtain ⟨t,e⟩:=Value.isStrOf_shape (x:=x) (v:=v) h
  exact .inr ⟨x,t,rfl,e⟩
theorem zha(i:Int)(t:Tok):qq (.inl i) (.int i t)=true:=by simp [qq,Value.isInt]
theorem zgZ(x:Str)(t:Tok):qq (.inr x) (.str x t)=true:=by simp [qq,Value.isStrOf]
theorem zmf(a b:Int):decide ((Sum.inl a:Key)=Sum.inl b)=(a == b):=by
 by_cases e:a=b
 ·subst e;simp
 ·have h:¬ (Sum.inl a:Key)=Sum.inl b:=fun q=>e (Sum.inl.inj q)
  rw [decide_eq_false h]
  exact (beq_eq_false_iff_ne.mpr e).symm
theorem zmc(a b:Str):decide ((Sum.inr a:Key)=Sum.inr b)=decide (a=b):=by
 by_cases e:a=b
 ·subst e;simp
 ·have h:¬ (Sum.inr a:Key)=Sum.inr b:=fun q=>e (Sum.inr.inj q)
  rw [decide_eq_false h,decide_eq_false e]
theorem zme(a:Int)(b:Str):decide ((Sum.inl a:Key)=Sum.inr b)=false:=decide_eq_false (fun q=>nomatch q)
theorem zmd(a:Str)(b:Int):decide ((Sum.inr a:Key)=Sum.inl b)=false:=decide_eq_false (fun q=>nomatch q)
noncomputable def zk(prog:Program)(w:World):PySem.KeyKind prog w Key where
 is:=qq
 hash:=znt w
 inj:=fun v a b ha hb=>by
  rcases zo ha with ⟨i,t,rfl,rfl⟩ | ⟨x,t,rfl,rfl⟩
  ·rcases zo hb with ⟨j,u,rfl,e⟩ | ⟨y,u,rfl,e⟩
   ·injection e with e1 _;rw [e1]
   ·exact nomatch e
  ·rcases zo hb with ⟨j,u,rfl,e⟩ | ⟨y,u,rfl,e⟩
   ·exact nomatch e
   ·injection e with e1 _;rw [e1]
 byValue:=fun k v h=>by
  rcases zo h with ⟨i,t,rfl,rfl⟩ | ⟨x,t,rfl,rfl⟩<;>rfl
 pyHash:=fun hv h=>by
  rcases zo hv with ⟨i,t,rfl,rfl⟩ | ⟨x,t,rfl,rfl⟩
  ·exact wpAny_pyHash_int h
  ·exact wpAny_pyHash_str h
 eqBool:=fun hu hv h=>by
  rcases zo hu with ⟨i,t,rfl,rfl⟩ | ⟨x,t,rfl,rfl⟩
  ·rcases zo hv with ⟨j,u,rfl,rfl⟩ | ⟨y,u,rfl,rfl⟩
   ·rw [zmf] at h;exact wpAny_eqBool_int h
   ·rw [zme] at h;exact SeqAt.EqAt.int_str i t y u _ _ _ _ h
  ·rcases zo hv with ⟨j,u,rfl,rfl⟩ | ⟨y,u,rfl,rfl⟩
   ·rw [zmd] at h;exact SeqAt.EqAt.str_int x t j u _ _ _ _ h
   ·rw [zmc] at h;exact wpAny_eqBool_str h
 «strs»:=fun k x t v h=>by
  rcases zo h with ⟨i,u,rfl,e⟩ | ⟨y,u,rfl,e⟩
  ·exact nomatch e
  ·injection e with e1 _
   subst e1
   cases v<;>rfl
theorem zaV(prog:Program)(w:World)(k:Key)(v:Value):(zk prog w).is k v=qq k v:=rfl
theorem zeb(prog:Program)(w:World)(i:Int)(t:Tok):(zk prog w).is (.inl i) (.int i t)=true:=zha i t
theorem zea(prog:Program)(w:World)(x:Str)(t:Tok):(zk prog w).is (.inr x) (.str x t)=true:=zgZ x t
inductive V where
 | non | bl (b:Bool) | int (i:Int) | str (x:Str) | byt (b:Array UInt8) | flt (b:UInt64) | ref (a:Addr) | ty (n:String)
 deriving DecidableEq
noncomputable def RelV:V->Value->Prop
 | .non,u=>u=Value.none
 | .bl b,u=>u=Value.bool b
 | .int i,u=>∃ t,u=Value.int i t
 | .str x,u=>∃ t,u=Value.str x t
 | .byt b,u=>∃ t,u=Value.bytes b t
 | .flt b,u=>∃ t,u=Value.float b t
 | .ref a,u=>u=Value.ref a
 | .ty n,u=>u=Value.type n
noncomputable abbrev Vals:List V->List Value->Prop:=Paired RelV
theorem Vals.length{xs:List V}{us:List Value}(r:Vals xs us):xs.length=us.length:=Paired.length r
theorem Vals.get:∀ {xs:List V} {us:List Value} {i:Nat} {x:V},Vals xs us->xs[i]?=some x->∃ u,us[i]?=some u/\RelV x u
 | _,_,_,_,.nil,e=>by simp at e
 | _,_,0,_,.cons r _,e=>by simp at e;subst e;exact ⟨_,rfl,r⟩
 | _,_,i+1,x,.cons _ t,e=>by
  obtain ⟨u,h1,h2⟩:=Vals.get (i:=i) (x:=x) t (by simpa using e)
  exact ⟨u,by simpa using h1,h2⟩
theorem Vals.set{x:V}{u:Value}(r:RelV x u):∀ {xs:List V} {us:List Value} (i:Nat),Vals xs us->Vals (xs.set i x) (us.set i u)
 | _,_,_,.nil=>.nil
 | _,_,0,.cons _ t=>.cons r t
 | _,_,i+1,.cons q t=>.cons q (Vals.set r i t)
theorem Vals.append:∀ {xs ys:List V} {us ws:List Value},Vals xs us->Vals ys ws->Vals (xs++ys) (us++ws)
 | _,_,_,_,.nil,s=>s
 | _,_,_,_,.cons r t,s=>.cons r (Vals.append t s)
theorem Vals.take:∀ {xs:List V} {us:List Value} (n:Nat),Vals xs us->Vals (xs.take n) (us.take n)
 | _,_,0,_=>.nil
 | _,_,_+1,.nil=>.nil
 | _,_,n+1,.cons r t=>.cons r (Vals.take n t)
theorem Vals.drop:∀ {xs:List V} {us:List Value} (n:Nat),Vals xs us->Vals (xs.drop n) (us.drop n)
 | _,_,0,r=>r
 | _,_,_+1,.nil=>.nil
 | _,_,n+1,.cons _ t=>Vals.drop n t
noncomputable def RelO:Option V->Option Value->Prop
 | some v,some u=>RelV v u
 | none,none=>True
 | _,_=>False
noncomputable def KV{κ:Type}:List (κ × V)->List (κ × Value)->Prop:=Paired fun (p:κ × V) (q:κ × Value)=>p.1=q.1/\RelV p.2 q.2
noncomputable def kV:Key->V
 | .inl i=>.int i
 | .inr x=>.str x
inductive HO where
 | lst (xs : List V)
 | tup (xs : List V)
 | dK (kvs : List (Key × V)) | dT (kvs : List (List Key × V))
 | set (S : Int → Bool) (n : Nat)
 | ins (C dx : Addr) (fs : List (Str × V))
 | own (x : Addr)
 | xd (fs : List (Str × V))
 | met (f x : Addr)
 | rng (lo hi : Int)
 | frz (o : Obj) (u : HO)
 | tbl (ps : Array Value)
 | ext (φ : Heap → Prop)
noncomputable abbrev Hp:=Addr->Option HO
noncomputable def upd(H:Hp)(a:Addr)(o:HO):Hp:=fun b=>if b=a then some o else H b
theorem zW{H:Hp}{a:Addr}{o:HO}:upd H a o a=some o:=by unfold upd;rw [if_pos rfl]
theorem zd{H:Hp}{a b:Addr}{o:HO}(h:b≠a):upd H a o b=H b:=by unfold upd;rw [if_neg h]
theorem znq{H:Hp}{a b:Addr}{o u:HO}(h:H a=some o)(h':H b=some u)(d:o≠u):a≠b:=by
 intro e;subst e;rw [h] at h';exact d (Option.some.inj h')
theorem yY{H:Hp}{a b:Addr}{o:HO}(h:H a=some o)(h':H b=none):a≠b:=by
 intro e;subst e;rw [h] at h';cases h'
section
variable (P:Program) (w:World)
noncomputable def ObjOk(H:Hp)(h:Heap)(a:Addr):HO->Prop
 | .lst xs=>xs.length≤sizeLine/\∃ (its:List Value) (n:Nat),Vals xs its/\h.get? a=some { cls:=.type "list",data:=.seq its.toArray n }
 | .tup xs=>xs.length≤sizeLine/\∃ its:List Value,Vals xs its/\IsTup h a its.toArray
 | .dK kvs=>kvs.length≤sizeLine/\(a == sysModules)=false/\∃ vs,KV kvs vs/\h.DictOf (zk P w) a vs
 | .dT kvs=>kvs.length≤sizeLine/\(a == sysModules)=false/\∃ xs:List (List Key × Addr × Value),
   Paired (fun (p:List Key × V) (q:List Key × Addr × Value)=>p.1=q.1/\H q.2.1=some (.tup (p.1.map kV))/\RelV p.2 q.2.2) kvs xs/\
   ∃ o es ep,h.get? a=some o/\o.ExactDict/\o.data=.dict es ep/\es.toList=xs.map (entryOfKey (tupleKind (zk P w)))/\(xs.map (·.1)).Nodup
 | .set S n=>h.SetOf (intKind P w) a S n
 | .ins C dx fs=>H dx=some (.own a)/\fs.length≤1000/\dx≠a/\h.get? a=some (PySem.W.instObj C dx)/\
   ∃ mA,h.Ns1 dx mA/\(∀ f,RelO (fs.lookup f) (mA f))/\PySem.Within mA (fs.map (·.1))
 | .own _=>∃ o,h.get? a=some o
 | .xd fs=>∃ mA,h.Ns1 a mA/\∀ f,RelO (fs.lookup f) (mA f)
 | .rng lo hi=>∃ t u v,h.get? a=some { cls:=.type "range",data:=.fields #[.int lo t,.int hi u,.int 1 v] }
 | .frz o u=>h.get? a=some o/\ObjOk H h a u
 | .tbl ps=>h.get? a=some { cls:=.none,data:=.fields ps }
 | .met f x=>h.get? a=some (PySem.W.methodObj (.ref f) (.ref x))
 | .ext φ=>φ h/\(∃ o,h.get? a=some o)/\∀ h1 h2:Heap,φ h1->(∀ o,h1.get? a=some o->h2.get? a=some o)->φ h2
noncomputable def HOk(H:Hp)(h:Heap):Prop:=∀ a o,H a=some o->ObjOk P w H h a o
end
section
variable {P:Program} {w:World} {H H':Hp} {h h':Heap} {a:Addr} {o:HO}
theorem ObjOk.lt(x:ObjOk P w H h a o):a<h.objs.size:=by
 cases o with
 | lst xs=>obtain ⟨_,_,_,_,e⟩:=x;exact Heap.lt_size e
 | tup xs=>obtain ⟨_,_,_,p⟩:=x;exact p.lt
 | dK kvs=>obtain ⟨_,_,_,_,o,_,_,e,_⟩:=x;exact Heap.lt_size e
 | dT kvs=>obtain ⟨_,_,_,_,o,_,_,e,_⟩:=x;exact Heap.lt_size e
 | set S n=>obtain ⟨o,_,_,_,e,_⟩:=x;exact Heap.lt_size e
 | ins C dx fs=>obtain ⟨_,_,_,e,_⟩:=x;exact Heap.lt_size e
 | own y=>obtain ⟨_,e⟩:=x;exact Heap.lt_size e
 | xd fs=>obtain ⟨_,⟨_,_,_,e,_⟩,_⟩:=x;exact Heap.lt_size e
 | rng lo hi=>obtain ⟨_,_,_,e⟩:=x;exact Heap.lt_size e
 | frz ob u=>obtain ⟨e,_⟩:=x;exact Heap.lt_size e
 | tbl ps=>exact Heap.lt_size (show h.get? a=some _ from x)
 | met f y=>exact Heap.lt_size (show h.get? a=some _ from x)
 | ext φ=>obtain ⟨_,⟨_,e⟩,_⟩:=x;exact Heap.lt_size e
theorem Paired.mapP{α β:Type}{F G:α->β->Prop}:∀ {l₁:List α} {l₂:List β},Paired F l₁ l₂->(∀ a b,F a b->G a b)->Paired G l₁ l₂
 | _,_,.nil,_=>.nil
 | _,_,.cons r t,f=>.cons (f _ _ r) (Paired.mapP t f)
theorem ObjOk.stay(x:ObjOk P w H h a o)(k:∀ b u,(b=a∨H b=some (.own a))->h.get? b=some u->h'.get? b=some u)
  (ho:∀ b,H b=some (.own a)->H' b=some (.own a))(ht:∀ b xs,H b=some (.tup xs)->H' b=some (.tup xs)):ObjOk P w H' h' a o:=by
 induction o with
 | lst xs=>obtain ⟨z,its,n,r,e⟩:=x;exact ⟨z,its,n,r,k _ _ (.inl rfl) e⟩
 | tup xs=>obtain ⟨z,its,r,ob,e,c⟩:=x;exact ⟨z,its,r,ob,k _ _ (.inl rfl) e,c⟩
 | dK kvs=>obtain ⟨z,y,vs,r,ob,es,ep,e,c⟩:=x;exact ⟨z,y,vs,r,ob,es,ep,k _ _ (.inl rfl) e,c⟩
 | dT kvs=>
  obtain ⟨z,y,xs,r,ob,es,ep,e,c⟩:=x
  exact ⟨z,y,xs,Paired.mapP r fun p q z=>⟨z.1,ht _ _ z.2.1,z.2.2⟩,ob,es,ep,k _ _ (.inl rfl) e,c⟩
 | set S n=>obtain ⟨ob,es,ep,t,e,c⟩:=x;exact ⟨ob,es,ep,t,k _ _ (.inl rfl) e,c⟩
 | ins C dx fs=>
  obtain ⟨d,z,ne,e,mA,⟨od,es,ep,e2,c⟩,r⟩:=x
  exact ⟨ho _ d,z,ne,k _ _ (.inl rfl) e,mA,⟨od,es,ep,k _ _ (.inr d) e2,c⟩,r⟩
 | own y=>obtain ⟨ob,e⟩:=x;exact ⟨ob,k _ _ (.inl rfl) e⟩
 | xd fs=>obtain ⟨mA,⟨od,es,ep,e,c⟩,r⟩:=x;exact ⟨mA,⟨od,es,ep,k _ _ (.inl rfl) e,c⟩,r⟩
 | rng lo hi=>obtain ⟨t,u,v,e⟩:=x;exact ⟨t,u,v,k _ _ (.inl rfl) e⟩
 | frz ob u ih=>obtain ⟨e,q⟩:=x;exact ⟨k _ _ (.inl rfl) e,ih q⟩
 | tbl ps=>
  have e:h.get? a=some { cls:=.none,data:=.fields ps }:=x
  show h'.get? a=some { cls:=.none,data:=.fields ps }
  exact k a _ (.inl rfl) e
 | met f y=>
  have e:h.get? a=some (PySem.W.methodObj (.ref f) (.ref y)):=x
  show h'.get? a=some (PySem.W.methodObj (.ref f) (.ref y))
  exact k a _ (.inl rfl) e
 | ext φ=>obtain ⟨p,⟨o,e⟩,st⟩:=x;exact ⟨st _ _ p fun o q=>k _ _ (.inl rfl) q,⟨o,k _ _ (.inl rfl) e⟩,st⟩
theorem HOk.lt(x:HOk P w H h)(e:H a=some o):a<h.objs.size:=(x a o e).lt
theorem HOk.fresh(x:HOk P w H h)(e:h.objs.size≤a):H a=none:=by
 cases q:H a with
 | none=>rfl
 | some u=>exact absurd (Nat.lt_of_lt_of_le (x.lt q) e) (Nat.lt_irrefl _)
theorem HOk.kept(x:HOk P w H h)(k:∀ b u,h.get? b=some u->h'.get? b=some u):HOk P w H h':=fun a o e=>
 (x a o e).stay (fun b u _ q=>k b u q) (fun _ q=>q) fun _ _ q=>q
theorem HOk.laid(x:HOk P w H h)(k:∀ b u,h.get? b=some u->h'.get? b=some u)(hp:h.objs.size≤a)(new:ObjOk P w (upd H a o) h' a o):HOk P w (upd H a o) h':=fun b u e=>by
 have hn:=x.fresh hp
 by_cases hb:b=a
 ·subst hb;rw [zW] at e;cases e;exact new
 ·rw [zd hb] at e
  exact (x b u e).stay (fun c v _ q=>k c v q) (fun c q=>by rw [zd (yY q hn)];exact q) fun c xs q=>by rw [zd (yY q hn)];exact q
end
noncomputable def Rd(H:Hp)(a:Addr)(u:HO):Prop:=H a=some u∨∃ o,H a=some (.frz o u)
theorem Rd.ok{P:Program}{w:World}{H:Hp}{h:Heap}{a:Addr}{u:HO}(r:Rd H a u)(x:HOk P w H h):ObjOk P w H h a u:=by
 rcases r with r | ⟨o,r⟩
 ·exact x a u r
 ·obtain ⟨_,q⟩:=x a _ r
  exact q
noncomputable def Mut:Option HO->Prop
 | some (.lst _)=>True
 | some (.dK _)=>True
 | some (.dT _)=>True
 | some (.set _ _)=>True
 | some (.ins _ _ _)=>True
 | some (.ext _)=>True
 | _=>False
section
variable {P:Program} {w:World} {H:Hp} {h h':Heap} {x e:Addr} {o':HO}
theorem HOk.write(ok:HOk P w H h)(mu:Mut (H x))(he:e=x∨H e=some (.own x))(k:∀ b u,b≠e->h.get? b=some u->h'.get? b=some u)(heo:∃ u,h'.get? e=some u)
  (new:ObjOk P w (upd H x o') h' x o'):HOk P w (upd H x o') h':=fun b u q=>by
 have nown:∀ c y,H c=some (.own y)->c≠x:=fun c y r z=>by subst z;rw [r] at mu;exact mu
 have ntup:∀ c xs,H c=some (.tup xs)->c≠x:=fun c xs r z=>by subst z;rw [r] at mu;exact mu
 by_cases hb:b=x
 ·subst hb;rw [zW] at q;cases q;exact new
 ·rw [zd hb] at q
  by_cases hbe:b=e
  ·have q':H b=some (.own x):=by
    rcases he with z | z
    ·exact absurd (hbe.trans z) hb
    ·rw [hbe];exact z
   rw [q] at q';cases q'
   obtain ⟨v,hv⟩:=heo
   exact ⟨v,by rw [hbe];exact hv⟩
  ·refine (ok b u q).stay (fun c v hc r=>k c v ?_ r) (fun c r=>by rw [zd (nown c b r)];exact r) fun c xs r=>by rw [zd (ntup c xs r)];exact r
   rcases hc with rfl | hc
   ·exact hbe
   ·rintro rfl
    rcases he with z | z
    ·exact nown c b hc z
    ·rw [hc] at z;cases z;exact hb rfl
end
structure Un (fs ex:List Addr) (H H':Hp) (h h':Heap):Prop where
 keep:∀ b o,h.get? b=some o->H b=none->b ∉ fs->b ∉ ex->h'.get? b=some o
 slot:∀ b o,h.get? b=some o->H b=none->b ∈ fs->b ∉ ex->∃ sl,h'.get? b=some { o with slots:=sl }
 free:∀ b o,h.get? b=some o->H b=none->b ∉ ex->H' b=none
 there:∀ b o,h.get? b=some o->b ∉ ex->∃ o',h'.get? b=some o'
 tups:∀ b xs,H b=some (.tup xs)->H' b=some (.tup xs)
 frzs:∀ b o u,H b=some (.frz o u)->H' b=some (.frz o u)
 tbls:∀ b ps,H b=some (.tbl ps)->∃ more,H' b=some (.tbl (ps++more))
section
variable {fs fs' ex ex':List Addr} {H H1 H2:Hp} {h h1 h2 h':Heap} {a x e:Addr} {o:HO}
theorem Un.any(u:Un fs ex H H1 h h1){b:Addr}{ob:Obj}(q:h.get? b=some ob)(n:H b=none)(hx:b ∉ ex):∃ sl,h1.get? b=some { ob with slots:=sl }:=by
 by_cases hb:b ∈ fs
 ·exact u.slot b ob q n hb hx
 ·exact ⟨ob.slots,u.keep b ob q n hb hx⟩
theorem Un.kept(k:∀ b u,h.get? b=some u->h'.get? b=some u):Un fs ex H H h h':=
 ⟨fun b ob q _ _ _=>k b ob q,fun b ob q _ _ _=>⟨ob.slots,k b ob q⟩,fun _ _ _ n _=>n,fun b ob q _=>⟨ob,k b ob q⟩,fun _ _ q=>q,fun _ _ _ q=>q,fun _ ps q=>⟨#[],by rw [q];simp⟩⟩
theorem Un.refl:Un fs ex H H h h:=Un.kept fun _ _ q=>q
theorem Un.laid(k:∀ b u,h.get? b=some u->h'.get? b=some u)(hp:h.objs.size≤a)(hn:H a=none):Un fs ex H (upd H a o) h h' where
 keep:=fun b u q _ _ _=>k b u q
 slot:=fun b u q _ _ _=>⟨u.slots,k b u q⟩
 free:=fun b u q n _=>by rw [zd (Nat.ne_of_lt (Nat.lt_of_lt_of_le (Heap.lt_size q) hp))];exact n
 there:=fun b u q _=>⟨u,k b u q⟩
 tups:=fun b xs q=>by rw [zd (yY q hn)];exact q
 frzs:=fun b u xs q=>by rw [zd (yY q hn)];exact q
 tbls:=fun b ps q=>⟨#[],by rw [zd (yY q hn),q];simp⟩
theorem Un.write(mu:Mut (H x))(he:e=x∨H e=some (.own x))(k:∀ b u,b≠e->h.get? b=some u->h'.get? b=some u)(heo:∃ u,h'.get? e=some u):Un fs ex H (upd H x o) h h':=by
 have hx:∀ b,H b=none->b≠x:=fun b n z=>by subst z;rw [n] at mu;exact mu
 have hb:∀ b,H b=none->b≠e:=fun b n z=>by
  subst z
  rcases he with r | r
  ·exact hx b n r
  ·rw [n] at r;cases r
 have hm:∀ b u,H b=some u->¬ Mut (some u)->b≠x:=fun b u q nm z=>by subst z;rw [q] at mu;exact nm mu
 refine ⟨fun b u q n _ _=>k b u (hb b n) q,fun b u q n _ _=>⟨u.slots,k b u (hb b n) q⟩,fun b u q n _=>by rw [zd (hx b n)];exact n,fun b u q _=>?_,
  fun b xs q=>by rw [zd (hm b _ q fun z=>z)];exact q,fun b u xs q=>by rw [zd (hm b _ q fun z=>z)];exact q,fun b ps q=>⟨#[],by rw [zd (hm b _ q fun z=>z),q];simp⟩⟩
 by_cases hbe:b=e
 ·subst hbe;exact heo
 ·exact ⟨u,k b u hbe q⟩
end
noncomputable def trk(h:Heap)(H:Hp):List Addr:=(List.range h.objs.size).filter fun a=>(H a).isSome
noncomputable def zdg(h:Heap)(H:Hp):Heap:=PySem.W.hideAll h (trk h H)
theorem zhc(h:Heap)(H:Hp):(zdg h H).objs.size=h.objs.size:=PySem.W.hideAll_size _ _
theorem ziM{h:Heap}{H:Hp}{b:Addr}{o:Obj}(e:h.get? b=some o)(n:H b=none):(zdg h H).get? b=some o:=
 PySem.W.hideAll_get _ e fun hm=>by
  have q:(H b).isSome=true:=(List.mem_filter.mp hm).2
  rw [n] at q;simp at q
theorem zkk{h:Heap}{H:Hp}{b:Addr}{o:Obj}(e:(zdg h H).get? b=some o):h.get? b=some o/\H b=none:=by
 have e':h.get? b=some o:=PySem.W.of_hideAll (trk h H) e
 refine ⟨e',?_⟩
 cases q:H b with
 | none=>rfl
 | some x=>
  have hm:b ∈ trk h H:=List.mem_filter.mpr ⟨List.mem_range.mpr (Heap.lt_size e'),by simp [q]⟩
  have z:(zdg h H).get? b=none:=PySem.W.hideAll_none (trk h H) hm
  rw [z] at e;cases e
noncomputable def zkL(g h:Heap)(L:Addr):List (Addr × Obj):=(List.range h.objs.size).filterMap fun a=>if a=L∨(g.get? a).isSome=true then none else (h.get? a).map fun o=>(a,o)
noncomputable def xW(g h:Heap)(L d:Addr):List (Addr × Obj):=(zkL g h L).filter fun p=>decide (p.1≠d)
structure Mod (K:PySem.W.Frag) (mg:Str->Option Value) (base:Heap):Prop where
 kin:K.In base
 glob:base.Ns mainGlobals mg
 blt:∃ mb,base.Ns builtinsNs mb/\∀ x:Str,x≠"__name__"->mb x=bootBuiltins x
 nolimit:base.NoLimit
structure Cx where
 prog:Program
 w:World
 K:PySem.W.Frag
 mg:Str->Option Value
 base:Heap
 A:Around
 N:List Str
 s₀:Shared
 H₀:Hp
 env:Env
 outer:List Env
 stack:List Env
 ex:List Addr
 fn:Str->Bool
 calm:Bool
 pn:List (Addr × Obj)
 xe:Value->Shared->Prop
noncomputable def frs(l:List Env):List Addr:=l.filterMap (·.frame)
noncomputable abbrev Cx.fs(X:Cx):List Addr:=frs X.outer
noncomputable def Vis(sc:Scope)(x:Str):Prop:=sc.names.lookup x=some .local∨sc.names.lookup x=some .cell∨sc.names.lookup x=some .free
noncomputable def Loc(sc:Scope)(x:Str):Prop:=sc.names.lookup x=some .local∨sc.names.lookup x=some .cell
noncomputable def zoI(env:Env)(h:Heap)(m:Str->Option Value)(x:Str)(u:Value):Prop:=
 (env.kindOf x=some .local/\m x=some u)∨((env.kindOf x=some .cell∨env.kindOf x=some .free)/\∃ c,env.cells.lookup x=some c/\h.IsCell c (some u))
structure Cx.Ok (X:Cx):Prop where
 mod:Mod X.K X.mg X.base
 kind:X.env.scope.kind=.function
 glob:X.env.globals=mainGlobals
 blt:X.env.builtins=builtinsNs
 above:X.s₀.heap.objs.size≤X.env.locals
 inj:∀ x y c,X.env.cells.lookup x=some c->X.env.cells.lookup y=some c->x=y
 has:∀ x,(X.env.kindOf x=some .cell∨X.env.kindOf x=some .free)->∃ c,X.env.cells.lookup x=some c
 cab:∀ x c,X.fn x=true->X.env.cells.lookup x=some c->X.s₀.heap.objs.size≤c
 hd:X.calm=true->X.A.handled=none
 frames:X.A.frames=some X.stack
 stk:X.stack=X.outer∨(X.stack=X.env::X.outer/\X.env.frame=some X.env.locals)
 exf:∀ b ∈ X.ex,b≠X.env.locals/\∀ x c,X.env.cells.lookup x=some c->c≠b
 bs:∀ b o,X.base.get? b=some o->X.s₀.heap.get? b=some o/\X.H₀ b=none
 bsz:X.base.objs.size≤X.s₀.heap.objs.size
 noex:∀ b o,X.base.get? b=some o->b ∉ X.ex
 exfs:∀ b ∈ X.ex,b ∉ X.fs
 funs:X.s₀.heap.FunFrames X.base X.outer
 frf:∀ b ∈ X.fs,X.H₀ b=none
structure Inv (X:Cx) (pins:List (Addr × Obj)) (σ:List (Option V)) (H:Hp) (s:Shared):Prop where
 ok:X.Ok
 os:s.os=X.s₀.os
 bare:AllBare s.gens
 base:Un X.fs X.ex X.H₀ H X.s₀.heap s.heap
 loc:∃ m,s.heap.Ns X.env.locals m/\∀ (i:Nat) (x:Str) (v:V),X.N[i]?=some x->σ[i]?=some (some v)->Vis X.env.scope x->∃ u,RelV v u/\zoI X.env s.heap m x u
 cell:∀ x c,X.env.cells.lookup x=some c->∃ v,s.heap.IsCell c v
 free:H X.env.locals=none
 freeC:∀ x c,X.env.cells.lookup x=some c->H c=none
 pin:∀ p ∈ X.pn++pins,s.heap.get? p.1=some p.2/\H p.1=none/\p.1≠X.env.locals/\p.1 ∉ X.fs/\∀ v,p.2.data≠.cell v
 hok:HOk X.prog X.w H s.heap
 len:σ.length=X.N.length
section
variable {X:Cx} {pins:List (Addr × Obj)} {σ:List (Option V)} {H H':Hp} {s:Shared} {h':Heap}
theorem Cx.Ok.nofr(ok:X.Ok){b:Addr}{o:Obj}(e:X.base.get? b=some o):b ∉ X.fs:=fun hb=>by
 have:=(ok.funs.mem hb).1
 rw [e] at this;cases this
theorem Inv.bs(I:Inv X pins σ H s):∀ b o,X.base.get? b=some o->s.heap.get? b=some o/\H b=none:=fun b o e=>
 ⟨I.base.keep b o (I.ok.bs b o e).1 (I.ok.bs b o e).2 (I.ok.nofr e) (I.ok.noex b o e),I.base.free b o (I.ok.bs b o e).1 (I.ok.bs b o e).2 (I.ok.noex b o e)⟩
theorem Inv.bk(I:Inv X pins σ H s):∀ b o,X.base.get? b=some o->s.heap.get? b=some o:=fun b o e=>(I.bs b o e).1
theorem Inv.mod(I:Inv X pins σ H s):Mod X.K X.mg X.base:=I.ok.mod
theorem Inv.kIn(I:Inv X pins σ H s):X.K.In s.heap:=I.ok.mod.kin.keeps I.bk
theorem Inv.lt(I:Inv X pins σ H s):X.env.locals<s.heap.objs.size:=let ⟨_,hn,_⟩:=I.loc;hn.lt
theorem Inv.sz(I:Inv X pins σ H s):X.s₀.heap.objs.size≤s.heap.objs.size:=Nat.le_trans I.ok.above (Nat.le_of_lt I.lt)
theorem Inv.nofs(I:Inv X pins σ H s){a:Addr}(h:s.heap.objs.size≤a):a ∉ X.fs:=fun hb=>by
 obtain ⟨_,o,ho,_⟩:=I.ok.funs.mem hb
 exact absurd (Nat.lt_of_lt_of_le (Heap.lt_size ho) (Nat.le_trans I.sz h)) (Nat.lt_irrefl _)
theorem Inv.cne(I:Inv X pins σ H s):∀ x c,X.env.cells.lookup x=some c->c≠X.env.locals:=fun x c e z=>by
 obtain ⟨v,o,ho,hd⟩:=I.cell x c e
 obtain ⟨m,⟨o',es,ep,ho',hd',_⟩,_⟩:=I.loc
 rw [z,ho'] at ho;cases ho;rw [hd'] at hd;cases hd
theorem Inv.funs(I:Inv X pins σ H s):s.heap.FunFrames X.base X.outer:=by
 have all:∀ (l:List Env),(∀ b ∈ frs l,b ∈ X.fs)->X.s₀.heap.FunFrames X.base l->s.heap.FunFrames X.base l:=by
  intro l
  induction l with
  | nil=>intro _ _;trivial
  | cons env r ih=>
   intro hs hl
   obtain ⟨hk,⟨L,o,hf,hn,ho,hd⟩,hr⟩:=hl
   have hL:L ∈ X.fs:=hs L (by unfold frs;rw [List.filterMap_cons,hf];exact List.mem_cons_self)
   obtain ⟨sl,e⟩:=I.base.slot L o ho (I.ok.frf L hL) hL fun z=>I.ok.exfs L z hL
   exact ⟨hk,⟨L,_,hf,hn,e,hd⟩,ih (fun b hb=>hs b (by unfold frs;rw [List.filterMap_cons,hf];exact List.mem_cons_of_mem _ hb)) hr⟩
 exact all X.outer (fun _ hb=>hb) I.ok.funs
theorem Inv.stack(I:Inv X pins σ H s):s.heap.FunFrames X.base X.stack:=by
 rcases I.ok.stk with e | ⟨e,hf⟩
 ·rw [e];exact I.funs
 ·rw [e]
  obtain ⟨m,hn,_⟩:=I.loc
  refine .cons (by rw [I.ok.kind];decide) hf hn ?_ I.funs
  exact Heap.get?_none_of_le (Nat.le_trans I.ok.bsz I.ok.above)
theorem Inv.stkSub(I:Inv X pins σ H s):∀ b ∈ frs X.stack,b ∈ X.env.locals::X.fs:=fun b hb=>by
 rcases I.ok.stk with e | ⟨e,hf⟩
 ·rw [e] at hb;exact List.mem_cons_of_mem _ hb
 ·rw [e] at hb
  unfold frs at hb
  rw [List.filterMap_cons,hf] at hb
  exact hb
theorem Inv.stkFree(I:Inv X pins σ H s):∀ b ∈ frs X.stack,H b=none:=fun b hb=>by
 rcases List.mem_cons.mp (I.stkSub b hb) with e | hb
 ·rw [e];exact I.free
 ·obtain ⟨_,o,ho,_⟩:=I.ok.funs.mem hb
  exact I.base.free b o ho (I.ok.frf b hb) fun z=>I.ok.exfs b z hb
theorem Inv.step{g':Array GenState}{t':Nat}{d':Drawn}{ch:List Addr}(I:Inv X pins σ H s)
  (hch:∀ b ∈ ch,(b ∈ X.ex∨X.s₀.heap.objs.size≤b)/\b≠X.env.locals/\(∀ x c,X.env.cells.lookup x=some c->c≠b)/\∀ p ∈ X.pn++pins,p.1≠b)
  (keep:∀ b o,b≠X.env.locals->b ∉ X.fs->b ∉ ch->s.heap.get? b=some o->H b=none->h'.get? b=some o)
  (slot:∀ b o,b≠X.env.locals->b ∈ X.fs->b ∉ ch->s.heap.get? b=some o->H b=none->∃ sl,h'.get? b=some { o with slots:=sl })(free:∀ b o,b ∉ ch->s.heap.get? b=some o->H b=none->H' b=none)
  (there:∀ b o,b ∉ ch->s.heap.get? b=some o->∃ o',h'.get? b=some o')
  (tups:∀ b xs,H b=some (.tup xs)->H' b=some (.tup xs))(frzs:∀ b o u,H b=some (.frz o u)->H' b=some (.frz o u))(tbls:∀ b ps,H b=some (.tbl ps)->∃ more,H' b=some (.tbl (ps++more)))
  (ns:∀ m,s.heap.Ns X.env.locals m->h'.Ns X.env.locals m)(hok:HOk X.prog X.w H' h')(hg:AllBare g'):
  Inv X pins σ H' { s with heap:=h',gens:=g',drawn:=d',toks:=t' }:=by
 have neL:∀ b o,X.s₀.heap.get? b=some o->b≠X.env.locals:=fun b o e=>Nat.ne_of_lt (Nat.lt_of_lt_of_le (Heap.lt_size e) I.ok.above)
 have neC:∀ b o,X.s₀.heap.get? b=some o->b ∉ X.ex->b ∉ ch:=fun b o e hx hb=>by
  rcases (hch b hb).1 with z | z
  ·exact hx z
  ·exact absurd (Nat.lt_of_lt_of_le (Heap.lt_size e) z) (Nat.lt_irrefl _)
 have cellK:∀ x c,X.env.cells.lookup x=some c->∀ v,s.heap.IsCell c v->h'.IsCell c v:=fun x c e v ⟨o,ho,hd⟩=>by
  have nch:c ∉ ch:=fun z=>(hch c z).2.2.1 x c e rfl
  by_cases hc:c ∈ X.fs
  ·obtain ⟨sl,q⟩:=slot c o (I.cne x c e) hc nch ho (I.freeC x c e)
   exact ⟨_,q,hd⟩
  ·exact ⟨o,keep c o (I.cne x c e) hc nch ho (I.freeC x c e),hd⟩
 refine ⟨I.ok,I.os,hg,⟨fun b o e n hb hx=>?_,fun b o e n hb hx=>?_,fun b o e n hx=>?_,fun b o e hx=>?_,fun b xs e=>tups b xs (I.base.tups b xs e),fun b o xs e=>frzs b o xs (I.base.frzs b o xs e),fun b ps e=>?_⟩,?_,fun x c e=>?_,?_,fun x c e=>?_,fun p hp=>?_,hok,I.len⟩
 ·exact keep b o (neL b o e) hb (neC b o e hx) (I.base.keep b o e n hb hx) (I.base.free b o e n hx)
 ·obtain ⟨sl,e1⟩:=I.base.slot b o e n hb hx
  obtain ⟨sl',e2⟩:=slot b _ (neL b o e) hb (neC b o e hx) e1 (I.base.free b o e n hx)
  exact ⟨sl',e2⟩
 ·obtain ⟨o',e1⟩:=I.base.there b o e hx
  exact free b o' (neC b o e hx) e1 (I.base.free b o e n hx)
 ·obtain ⟨o',e1⟩:=I.base.there b o e hx
  exact there b o' (neC b o e hx) e1
 ·obtain ⟨m1,e1⟩:=I.base.tbls b ps e
  obtain ⟨m2,e2⟩:=tbls b _ e1
  exact ⟨m1++m2,by rw [e2,Array.append_assoc]⟩
 ·obtain ⟨m,hn,hl⟩:=I.loc
  refine ⟨m,ns m hn,fun i x v e1 e2 e3=>?_⟩
  obtain ⟨u,r,l⟩:=hl i x v e1 e2 e3
  refine ⟨u,r,?_⟩
  rcases l with l | ⟨k,c,e,z⟩
  ·exact .inl l
  ·exact .inr ⟨k,c,e,cellK x c e _ z⟩
 ·obtain ⟨v,z⟩:=I.cell x c e
  exact ⟨v,cellK x c e v z⟩
 ·obtain ⟨m,⟨o,_,_,ho,_⟩,_⟩:=I.loc
  exact free _ o (fun z=>(hch _ z).2.1 rfl) ho I.free
 ·obtain ⟨v,o,ho,hd⟩:=I.cell x c e
  exact free c o (fun z=>(hch c z).2.2.1 x c e rfl) ho (I.freeC x c e)
 ·obtain ⟨e,n,ne,nf,d⟩:=I.pin p hp
  have nch:p.1 ∉ ch:=fun z=>(hch p.1 z).2.2.2 p hp rfl
  exact ⟨keep p.1 p.2 ne nf nch e n,free p.1 p.2 nch e n,ne,nf,d⟩
theorem Inv.un{t':Nat}(I:Inv X pins σ H s)(u:Un X.fs [] H H' s.heap h')(hok:HOk X.prog X.w H' h'):Inv X pins σ H' { s with heap:=h',toks:=t' }:=by
 obtain ⟨m,⟨o,es,ep,ho,r⟩,_⟩:=id I.loc
 obtain ⟨sl,hL⟩:=u.any ho I.free (by simp)
 exact I.step (g':=s.gens) (d':=s.drawn) (ch:=[]) (fun _ z=>nomatch z) (fun b o _ hb _ e n=>u.keep b o e n hb (by simp)) (fun b o _ hb _ e n=>u.slot b o e n hb (by simp)) (fun b o _ e n=>u.free b o e n (by simp)) (fun b o _ e=>u.there b o e (by simp)) u.tups u.frzs u.tbls (fun m' hm=>by
  obtain ⟨o',es',ep',ho',r'⟩:=hm
  rw [ho] at ho';cases ho'
  exact ⟨_,es',ep',hL,r'⟩) hok I.bare
theorem Inv.call{g':Array GenState}{t':Nat}{d':Drawn}{ch:List Addr}(I:Inv X pins σ H s)(u:Un (frs X.stack) ch H H' s.heap h')(hok:HOk X.prog X.w H' h')(hg:AllBare g')
  (hch:∀ b ∈ ch,(b ∈ X.ex∨X.s₀.heap.objs.size≤b)/\b≠X.env.locals/\(∀ x c,X.env.cells.lookup x=some c->c≠b)/\∀ p ∈ X.pn++pins,p.1≠b):
  Inv X pins σ H' { s with heap:=h',gens:=g',drawn:=d',toks:=t' }:=by
 obtain ⟨m,⟨o,es,ep,ho,r⟩,_⟩:=id I.loc
 obtain ⟨sl,hL⟩:=u.any ho I.free fun z=>(hch _ z).2.1 rfl
 exact I.step (ch:=ch) hch (fun b o hL hb hc e n=>u.keep b o e n (fun z=>(List.mem_cons.mp (I.stkSub b z)).elim hL hb) hc) (fun b o _ _ hc e n=>u.any e n hc) (fun b o hc e n=>u.free b o e n hc) (fun b o hc e=>u.there b o e hc) u.tups u.frzs u.tbls (fun m' hm=>by
  obtain ⟨o',es',ep',ho',r'⟩:=hm
  rw [ho] at ho';cases ho'
  exact ⟨_,es',ep',hL,r'⟩) hok hg
theorem Inv.turned{t':Nat}{it:Addr}(I:Inv X pins σ H s)(k:∀ b o,b≠it->s.heap.get? b=some o->h'.get? b=some o)(hn:H it=none)(hL:it≠X.env.locals)
  (h1:it ∈ X.ex∨X.s₀.heap.objs.size≤it)(h2:∀ x c,X.env.cells.lookup x=some c->c≠it)(h3:∀ p ∈ X.pn++pins,p.1≠it):Inv X pins σ H { s with heap:=h',toks:=t' }:=by
 have nit:∀ b u,H b=some u->b≠it:=fun b u e z=>by rw [z,hn] at e;cases e
 refine I.step (g':=s.gens) (d':=s.drawn) (ch:=[it]) (fun b hb=>?_) (fun b o _ _ hc e _=>k b o (fun z=>hc (by simp [z])) e) (fun b o _ _ hc e _=>⟨o.slots,k b o (fun z=>hc (by simp [z])) e⟩) (fun _ _ _ _ n=>n)
  (fun b o hc e=>⟨o,k b o (fun z=>hc (by simp [z])) e⟩) (fun _ _ e=>e) (fun _ _ _ e=>e) (fun b ps e=>⟨#[],by rw [e];simp⟩) (fun m hm=>?_) (fun b u e=>?_) I.bare
 ·have e:b=it:=by simpa using hb
  subst e
  exact ⟨h1,hL,h2,h3⟩
 ·obtain ⟨o,es,ep,ho,r⟩:=hm
  exact ⟨o,es,ep,k _ o (Ne.symm hL) ho,r⟩
 ·refine (I.hok b u e).stay (fun c v hc q=>k c v ?_ q) (fun _ q=>q) fun _ _ q=>q
  rcases hc with z | z
  ·rw [z];exact nit b u e
  ·exact nit c _ z
theorem Inv.tok(I:Inv X pins σ H s)(t:Nat):Inv X pins σ H { s with toks:=t }:=I.un (h':=s.heap) (t':=t) Un.refl I.hok
theorem Inv.kept{t':Nat}(I:Inv X pins σ H s)(k:∀ b u,s.heap.get? b=some u->h'.get? b=some u):Inv X pins σ H { s with heap:=h',toks:=t' }:=I.un (Un.kept k) (I.hok.kept k)
theorem Inv.laid{a:Addr}{o:HO}{t':Nat}(I:Inv X pins σ H s)(k:∀ b u,s.heap.get? b=some u->h'.get? b=some u)(hp:s.heap.objs.size≤a)(new:ObjOk X.prog X.w (upd H a o) h' a o):
  Inv X pins σ (upd H a o) { s with heap:=h',toks:=t' }:=I.un (Un.laid k hp (I.hok.fresh hp)) (I.hok.laid k hp new)
theorem Inv.write{x e:Addr}{o:HO}{t':Nat}(I:Inv X pins σ H s)(mu:Mut (H x))(he:e=x∨H e=some (.own x))(k:∀ b u,b≠e->s.heap.get? b=some u->h'.get? b=some u)(heo:∃ u,h'.get? e=some u)
  (new:ObjOk X.prog X.w (upd H x o) h' x o):Inv X pins σ (upd H x o) { s with heap:=h',toks:=t' }:=I.un (Un.write mu he k heo) (I.hok.write mu he k heo new)
theorem Inv.pins_of{pins':List (Addr × Obj)}(I:Inv X pins σ H s)(h:∀ p ∈ pins',s.heap.get? p.1=some p.2/\H p.1=none/\p.1≠X.env.locals/\p.1 ∉ X.fs/\∀ v,p.2.data≠.cell v):Inv X pins' σ H s:=
 ⟨I.ok,I.os,I.bare,I.base,I.loc,I.cell,I.free,I.freeC,fun p hp=>(List.mem_append.mp hp).elim (fun z=>I.pin p (List.mem_append_left _ z)) (h p),I.hok,I.len⟩
theorem zdY{N:List Str}(hN:N.Nodup){i j:Nat}{x:Str}(a:N[i]?=some x)(b:N[j]?=some x):i=j:=by
 obtain ⟨h1,e1⟩:=List.getElem?_eq_some_iff.mp a
 obtain ⟨h2,e2⟩:=List.getElem?_eq_some_iff.mp b
 exact (List.getElem_inj hN).mp (e1.trans e2.symm)
theorem zgG{M:Model}{A:Around}{E:Value->Shared->Prop}{i:Nat}{x:Str}{v:V}{u:Value}{Q:Unit->Shared->Prop}(I:Inv X pins σ H s)(hN:X.N.Nodup)(hi:X.N[i]?=some x)(hx:Loc X.env.scope x)(r:RelV v u)
  (h:∀ s',Inv X pins (σ.set i (some v)) H s'->(∃ a,Heap.SameBut a s.heap s'.heap/\(a=X.env.locals∨X.env.cells.lookup x=some a))->Q () s')(hf:X.fn x=true∨X.env.scope.names.lookup x=some .local:=by first | exact .inl rfl | exact .inr rfl | assumption):wpAny M A (storeName X.env x u) Q E s:=by
 obtain ⟨m,hn,hl⟩:=id I.loc
 have hcls:(X.env.scope.kind == .class || (X.env.scope.kind == .module && X.env.locals != X.env.globals))=false:=by rw [I.ok.kind];rfl
 have hiσ:i<σ.length:=by rw [I.len];exact (List.getElem?_eq_some_iff.mp hi).1
 have cne:=I.cne
 have tracked:∀ {a:Addr} {h':Heap},(∃ o,s.heap.get? a=some o/\H a=none)->Heap.SameBut a s.heap h'->HOk X.prog X.w H h':=fun {a h'} ha hs b ob e=>by
  obtain ⟨_,_,hfree⟩:=ha
  refine (I.hok b ob e).stay (fun c w' hc q=>(hs.2 c ?_).trans q) (fun _ q=>q) fun _ _ q=>q
  rintro rfl
  rcases hc with rfl | hc
  ·rw [hfree] at e;cases e
  ·rw [hfree] at hc;cases hc
 rcases hx with hk | hk
 ·refine wpAny_storeName_local hk hn (fun h' hn' hs=>?_) hcls
  obtain ⟨oL,_,_,hoL,_⟩:=id hn
  refine h _ ⟨I.ok,I.os,I.bare,⟨fun b o e n hb hx=>?_,fun b o e n hb hx=>?_,I.base.free,fun b o e hx=>?_,I.base.tups,I.base.frzs,I.base.tbls⟩,⟨_,hn',fun j y v' e1 e2 e3=>?_⟩,fun y c e=>?_,I.free,I.freeC,fun p hp=>?_,tracked ⟨oL,hoL,I.free⟩ hs,by simpa using I.len⟩ ⟨_,hs,.inl rfl⟩
  ·exact (hs.2 b (Nat.ne_of_lt (Nat.lt_of_lt_of_le (Heap.lt_size e) I.ok.above))).trans (I.base.keep b o e n hb hx)
  ·obtain ⟨sl,e1⟩:=I.base.slot b o e n hb hx
   exact ⟨sl,(hs.2 b (Nat.ne_of_lt (Nat.lt_of_lt_of_le (Heap.lt_size e) I.ok.above))).trans e1⟩
  ·obtain ⟨o',e1⟩:=I.base.there b o e hx
   exact ⟨o',(hs.2 b (Nat.ne_of_lt (Nat.lt_of_lt_of_le (Heap.lt_size e) I.ok.above))).trans e1⟩
  ·by_cases hj:j=i
   ·subst hj
    rw [hi] at e1;cases e1
    rw [List.getElem?_set_self hiσ] at e2
    cases e2
    exact ⟨u,r,.inl ⟨hk,by simp⟩⟩
   ·rw [List.getElem?_set_ne (Ne.symm hj)] at e2
    obtain ⟨u',r',q⟩:=hl j y v' e1 e2 e3
    refine ⟨u',r',?_⟩
    rcases q with ⟨k,e⟩ | ⟨k,c,e,z⟩
    ·refine .inl ⟨k,?_⟩
     have:y≠x:=fun e=>hj (zdY hN e1 (e ▸ hi))
     simp [this,e]
    ·exact .inr ⟨k,c,e,z.sameBut hs (cne y c e)⟩
  ·obtain ⟨w',z⟩:=I.cell y c e
   exact ⟨w',z.sameBut hs (cne y c e)⟩
  ·obtain ⟨e,n,ne,nf,d⟩:=I.pin p hp
   exact ⟨(hs.2 p.1 ne).trans e,n,ne,nf,d⟩
 ·have hfn:X.fn x=true:=by
   rcases hf with z | z
   ·exact z
   ·rw [z] at hk;cases hk
  obtain ⟨c,hc⟩:=I.ok.has x (.inl hk)
  obtain ⟨w',z⟩:=I.cell x c hc
  refine wpAny_storeName_cell I.ok.kind hk hc z (fun h' hc' hs=>?_)
  obtain ⟨oc,hoc,hocd⟩:=id z
  refine h { s with heap:=h' } ⟨I.ok,I.os,I.bare,⟨fun b o e n hb hx=>?_,fun b o e n hb hx=>?_,I.base.free,fun b o e hx=>?_,I.base.tups,I.base.frzs,I.base.tbls⟩,⟨m,hn.sameBut hs (Ne.symm (cne x c hc)),fun j y v' e1 e2 e3=>?_⟩,fun y c' e=>?_,I.free,I.freeC,fun p hp=>?_,tracked ⟨oc,hoc,I.freeC x c hc⟩ hs,by simpa using I.len⟩ ⟨c,hs,.inr hc⟩
  ·exact (hs.2 b (Nat.ne_of_lt (Nat.lt_of_lt_of_le (Heap.lt_size e) (I.ok.cab x c hfn hc)))).trans (I.base.keep b o e n hb hx)
  ·obtain ⟨sl,e1⟩:=I.base.slot b o e n hb hx
   exact ⟨sl,(hs.2 b (Nat.ne_of_lt (Nat.lt_of_lt_of_le (Heap.lt_size e) (I.ok.cab x c hfn hc)))).trans e1⟩
  ·obtain ⟨o',e1⟩:=I.base.there b o e hx
   exact ⟨o',(hs.2 b (Nat.ne_of_lt (Nat.lt_of_lt_of_le (Heap.lt_size e) (I.ok.cab x c hfn hc)))).trans e1⟩
  ·by_cases hj:j=i
   ·subst hj
    rw [hi] at e1;cases e1
    rw [List.getElem?_set_self hiσ] at e2
    cases e2
    exact ⟨u,r,.inr ⟨.inl hk,c,hc,hc'⟩⟩
   ·rw [List.getElem?_set_ne (Ne.symm hj)] at e2
    obtain ⟨u',r',q⟩:=hl j y v' e1 e2 e3
    refine ⟨u',r',?_⟩
    rcases q with q | ⟨k,c',e,z'⟩
    ·exact .inl q
    ·refine .inr ⟨k,c',e,z'.sameBut hs ?_⟩
     rintro rfl
     exact hj (zdY hN e1 (I.ok.inj _ _ _ e hc ▸ hi))
  ·by_cases hcc:c'=c
   ·subst hcc;exact ⟨_,hc'⟩
   ·obtain ⟨w2,z2⟩:=I.cell y c' e
    exact ⟨w2,z2.sameBut hs hcc⟩
  ·obtain ⟨e,n,ne,nf,d⟩:=I.pin p hp
   refine ⟨(hs.2 p.1 ?_).trans e,n,ne,nf,d⟩
   intro q
   rw [q,hoc] at e
   have q':oc=p.2:=Option.some.inj e
   exact d w' (by rw [← q'];exact hocd)
theorem zdD{M:Model}{A:Around}{E:Value->Shared->Prop}{i:Nat}{x:Str}{v:V}{u:Value}{Q:Unit->Shared->Prop}(I:Inv X pins σ H s)(hN:X.N.Nodup)(hi:X.N[i]?=some x)(hx:Loc X.env.scope x)(r:RelV v u)
  (h:∀ s',Inv X pins (σ.set i (some v)) H s'->Q () s')(hf:X.fn x=true∨X.env.scope.names.lookup x=some .local:=by first | exact .inl rfl | exact .inr rfl | assumption):wpAny M A (storeName X.env x u) Q E s:=
 zgG I hN hi hx r (fun s' I' _=>h s' I') hf
theorem Inv.call'{s':Shared}{ch:List Addr}(I:Inv X pins σ H s)(ho:s'.os=s.os)(u:Un (frs X.stack) ch H H' s.heap s'.heap)(hok:HOk X.prog X.w H' s'.heap)(hg:AllBare s'.gens)
  (hch:∀ b ∈ ch,(b ∈ X.ex∨X.s₀.heap.objs.size≤b)/\b≠X.env.locals/\(∀ x c,X.env.cells.lookup x=some c->c≠b)/\∀ p ∈ X.pn++pins,p.1≠b):Inv X pins σ H' s':=by
 obtain ⟨h',g',d',t',o'⟩:=s'
 have e:o'=s.os:=ho
 subst e
 exact I.call (g':=g') (t':=t') (d':=d') u hok hg hch
end
noncomputable abbrev XK:=Value->Option Addr->Hp->Prop
noncomputable abbrev St:=List (Option V)
noncomputable abbrev VK:=V->Hp->Prop
noncomputable abbrev TE:=St->Hp->VK->Prop
noncomputable abbrev TT:=St->Hp->(Bool->Hp->Prop)->Prop
noncomputable abbrev TA:=St->Hp->(List V->Hp->Prop)->Prop
structure Ends where
 nx:St->Hp->Prop
 rt:VK
 bk:St->Hp->Prop:=fun _ _=>False
 ct:St->Hp->Prop:=fun _ _=>False
noncomputable abbrev TS:=Ends->St->Hp->Prop
noncomputable def EP(X:Cx)(pins:List (Addr × Obj))(σ:St)(Q:VK)(u:Value)(s':Shared):Prop:=∃ v H',Inv X pins σ H' s'/\RelV v u/\Q v H'
noncomputable def TP(X:Cx)(pins:List (Addr × Obj))(σ:St)(Q:Bool->Hp->Prop)(b:Bool)(s':Shared):Prop:=∃ H',Inv X pins σ H' s'/\Q b H'
noncomputable def AP(X:Cx)(pins:List (Addr × Obj))(σ:St)(Q:List V->Hp->Prop)(us:List Value)(s':Shared):Prop:=∃ vs H',Inv X pins σ H' s'/\Vals vs us/\Q vs H'
noncomputable def SP(X:Cx)(pins:List (Addr × Obj))(D:Ends)(f:Flow)(s':Shared):Prop:=
 match f with
 | .next=>∃ σ' H',Inv X pins σ' H' s'/\D.nx σ' H'
 | .brk=>∃ σ' H',Inv X pins σ' H' s'/\D.bk σ' H'
 | .cont=>∃ σ' H',Inv X pins σ' H' s'/\D.ct σ' H'
 | .ret u=>∃ v σ' H',Inv X pins σ' H' s'/\RelV v u/\D.rt v H'
noncomputable def PE(X:Cx)(e:Expr)(t:TE):Prop:=
 ∀ (pins:List (Addr × Obj)) (s:Shared) (σ:St) (H:Hp) (Q:VK),Inv X pins σ H s->t σ H Q->wpAny (model X.prog X.w) X.A (eval e X.env) (EP X pins σ Q) X.xe s
noncomputable def PT(X:Cx)(e:Expr)(t:TT):Prop:=
 ∀ (pins:List (Addr × Obj)) (s:Shared) (σ:St) (H:Hp) (Q:Bool->Hp->Prop),Inv X pins σ H s->t σ H Q->wpAny (model X.prog X.w) X.A (isTrue e X.env (eval e X.env)) (TP X pins σ Q) X.xe s
noncomputable def PW(X:Cx)(e:Expr)(t:TT):Prop:=
 ∀ (whole:Sem Value) (pins:List (Addr × Obj)) (s:Shared) (σ:St) (H:Hp) (Q:Bool->Hp->Prop),Inv X pins σ H s->t σ H Q->wpAny (model X.prog X.w) X.A (isTrue e X.env whole) (TP X pins σ Q) X.xe s
theorem PW.pt{X:Cx}{e:Expr}{t:TT}(h:PW X e t):PT X e t:=h _
noncomputable def PA(X:Cx)(es:List Expr)(t:TA):Prop:=
 ∀ (pos:Pos) (pins:List (Addr × Obj)) (s:Shared) (σ:St) (H:Hp) (Q:List V->Hp->Prop),Inv X pins σ H s->t σ H Q->wpAny (model X.prog X.w) X.A (spliced (backTo pos (starEach es X.env))) (AP X pins σ Q) X.xe s
noncomputable def PS(X:Cx)(st:Stmt)(t:TS):Prop:=
 ∀ (pins:List (Addr × Obj)) (s:Shared) (σ:St) (H:Hp) (D:Ends),Inv X pins σ H s->t D σ H->wpAny (model X.prog X.w) X.A (exec st X.env) (SP X pins D) X.xe s
noncomputable def PSs(X:Cx)(st:List Stmt)(t:TS):Prop:=
 ∀ (pins:List (Addr × Obj)) (s:Shared) (σ:St) (H:Hp) (D:Ends),Inv X pins σ H s->t D σ H->wpAny (model X.prog X.w) X.A (execs st X.env) (SP X pins D) X.xe s
theorem thn{α:Type}{t:Sem α}{Q Q':α->Shared->Prop}{M:Model}{A:Around}{E:Value->Shared->Prop}{s:Shared}(h:wpAny M A t Q E s)(hQ:∀ a s,Q a s->Q' a s):wpAny M A t Q' E s:=wpAny_mono h hQ fun _ _ x=>x
section
variable {X:Cx}
noncomputable def vg(i:Nat):TE:=fun σ H Q=>∃ v,σ[i]?=some (some v)/\Q v H
noncomputable def tC(v:V):TE:=fun _ H Q=>Q v H
theorem zlK{i:Nat}{x:Str}{pos:Pos}(hN:X.N[i]?=some x)(hv:Vis X.env.scope x)(hd:(x == ("__debug__":Str))=false:=by decide)(hcd:(x == ("__classdict__":Str))=false:=by decide):PE X (.Name x pos) (vg i):=by
 intro pins s σ H Q I h
 obtain ⟨v,e,h⟩:=h
 obtain ⟨m,hn,hl⟩:=I.loc
 obtain ⟨u,r,l⟩:=hl i x v hN e hv
 have fin:EP X pins σ Q u s:=⟨v,H,I,r,h⟩
 rcases l with ⟨hk,hm⟩ | ⟨hk,c,hc,hcell⟩
 ·exact wpAny_Name (wpAny_loadName_local I.ok.kind hk hn hm fin) hd
 ·rcases hk with hk | hk
  ·exact wpAny_Name (wpAny_loadName_cell I.ok.kind hk hc hcell fin) hd
  ·exact wpAny_Name (wpAny_loadName_free I.ok.kind hk hc hcell fin hcd) hd
theorem zie{i j pos}:PE X (.Constant (.int i) j pos) (tC (.int i)):=fun _ _ _ H _ I h=>wpAny_Constant_int ⟨.int i,H,I.tok _,⟨_,rfl⟩,h⟩
theorem znk{b j pos}:PE X (.Constant (.bool b) j pos) (tC (.bl b)):=fun _ _ _ H _ I h=>Constant_bool ⟨.bl b,H,I,rfl,h⟩
theorem zlP{j pos}:PE X (.Constant .none j pos) (tC .non):=fun _ _ _ H _ I h=>Constant_none ⟨.non,H,I,rfl,h⟩
theorem zlM{x j pos}:PE X (.Constant (.str x) j pos) (tC (.str x)):=fun _ _ _ H _ I h=>Calls.Constant_str ⟨.str x,H,I.tok _,⟨_,rfl⟩,h⟩
noncomputable def Gl(X:Cx)(x:Str):Prop:=X.env.kindOf x=some .globalImplicit
theorem zfS{E:Value->Shared->Prop}{pins:List (Addr × Obj)}{s:Shared}{σ:St}{H:Hp}{x:Str}{u:Value}{pos:Pos}{Q:Value->Shared->Prop}(I:Inv X pins σ H s)(hg:Gl X x)(hm:X.mg x=some u)(h:Q u s)
  (hd:(x == ("__debug__":Str))=false:=by decide):wpAny (model X.prog X.w) X.A (eval (.Name x pos) X.env) Q E s:=
 Calls.Name_function_global I.ok.kind hg (Calls.loadGlobal_global (by rw [I.ok.glob];exact I.mod.glob.keeps I.bk) hm h) hd
theorem jT{E:Value->Shared->Prop}{pins:List (Addr × Obj)}{s:Shared}{σ:St}{H:Hp}{x:Str}{u:Value}{pos:Pos}{Q:Value->Shared->Prop}(I:Inv X pins σ H s)(hg:Gl X x)(hm:X.mg x=none)(hv:bootBuiltins x=some u)(h:Q u s)
  (hn:x≠"__name__":=by decide)(hd:(x == ("__debug__":Str))=false:=by decide):wpAny (model X.prog X.w) X.A (eval (.Name x pos) X.env) Q E s:=by
 obtain ⟨mb,h1,h2⟩:=I.mod.blt
 exact Calls.Name_function_global I.ok.kind hg (Calls.loadGlobal_builtin (by rw [I.ok.glob];exact I.mod.glob.keeps I.bk) hm (by rw [I.ok.blt];exact h1.keeps I.bk) ((h2 x hn).trans hv) h) hd
theorem zjX{x:Str}{v:V}{u:Value}{pos:Pos}(hg:Gl X x)(hm:X.mg x=some u)(r:RelV v u)(hd:(x == ("__debug__":Str))=false:=by decide):PE X (.Name x pos) (tC v):=
 fun _ _ _ H _ I h=>zfS I hg hm ⟨v,H,I,r,h⟩ hd
theorem zke{x:Str}{v:V}{u:Value}{pos:Pos}(hg:Gl X x)(hm:X.mg x=none)(hv:bootBuiltins x=some u)(r:RelV v u)(hn:x≠"__name__":=by decide)(hd:(x == ("__debug__":Str))=false:=by decide):PE X (.Name x pos) (tC v):=
 fun _ _ _ H _ I h=>jT I hg hm hv ⟨v,H,I,r,h⟩ hn hd
variable {a b:Expr} {ta tb:TE} {pos:Pos}
variable {tA tB':TT} {xW:List Expr}
noncomputable def zok(t u:TT):TT:=fun σ H Q=>t σ H fun c H1=>if c=true then u σ H1 Q else Q false H1
noncomputable def tOr(t u:TT):TT:=fun σ H Q=>t σ H fun c H1=>if c=true then Q true H1 else u σ H1 Q
noncomputable def zog(t:TT):TT:=fun σ H Q=>t σ H fun c H1=>Q (!c) H1
theorem zjK(ha:PT X a tA):PW X (.BoolOp .And [a] pos) tA:=by
 intro wh pins s σ H Q I h
 refine isTrue_and (thn (ha pins s σ H Q I h) fun c s1 e=>?_)
 cases c with
 | true=>exact isTrue_and_nil e
 | false=>exact e
theorem zlA(ha:PT X a tA):PW X (.BoolOp .Or [a] pos) tA:=by
 intro wh pins s σ H Q I h
 refine isTrue_or (thn (ha pins s σ H Q I h) fun c s1 e=>?_)
 cases c with
 | false=>exact isTrue_or_nil e
 | true=>exact e
theorem zlB(ha:PT X a tA)(hb:PW X (.BoolOp .And (b::xW) pos) tB'):PW X (.BoolOp .And (a::b::xW) pos) (zok tA tB'):=by
 intro wh pins s σ H Q I h
 refine isTrue_and (thn (ha pins s σ H _ I h) fun c s1 hq_=>?_)
 obtain ⟨H1,I1,q1⟩:=hq_
 cases c with
 | true=>exact hb wh pins s1 σ H1 Q I1 q1
 | false=>exact ⟨H1,I1,q1⟩
theorem znf(ha:PT X a tA)(hb:PW X (.BoolOp .Or (b::xW) pos) tB'):PW X (.BoolOp .Or (a::b::xW) pos) (tOr tA tB'):=by
 intro wh pins s σ H Q I h
 refine isTrue_or (thn (ha pins s σ H _ I h) fun c s1 hq_=>?_)
 obtain ⟨H1,I1,q1⟩:=hq_
 cases c with
 | true=>exact ⟨H1,I1,q1⟩
 | false=>exact hb wh pins s1 σ H1 Q I1 q1
theorem zlC(ha:PT X a tA):PT X (.UnaryOp .Not a pos) (zog tA):=by
 intro pins s σ H Q I h
 exact isTrue_not (ha pins s σ H (fun c H1=>Q (!c) H1) I h)
noncomputable def zmT(ta tb:TE):TE:=fun σ H Q=>ta σ H fun x H1=>∃ c,x=.bl c/\if c=true then tb σ H1 Q else Q (.bl false) H1
noncomputable def zoe(ta tb:TE):TE:=fun σ H Q=>ta σ H fun x H1=>∃ c,x=.bl c/\if c=true then Q (.bl true) H1 else tb σ H1 Q
noncomputable def zmO(ta:TE):TE:=fun σ H Q=>ta σ H fun x H1=>∃ c,x=.bl c/\Q (.bl (!c)) H1
theorem zlN{op}{t:TE}(h:PE X a t):PE X (.BoolOp op [a] pos) t:=fun pins s σ H Q I hw=>BoolOp_one (h pins s σ H Q I hw)
theorem zlS(ha:PE X a ta)(hb:PE X (.BoolOp .And (b::xW) pos) tb):PE X (.BoolOp .And (a::b::xW) pos) (zmT ta tb):=by
 intro pins s σ H Q I h
 refine BoolOp_and (thn (ha pins s σ H _ I h) fun v s1 hq_=>?_)
 obtain ⟨x,H1,I1,r1,q1⟩:=hq_
 obtain ⟨c,rfl,q1⟩:=q1
 cases r1
 refine wpAny_truthy_bool ?_
 cases c with
 | true=>exact hb pins s1 σ H1 Q I1 q1
 | false=>exact ⟨.bl false,H1,I1,rfl,q1⟩
theorem zni(ha:PE X a ta)(hb:PE X (.BoolOp .Or (b::xW) pos) tb):PE X (.BoolOp .Or (a::b::xW) pos) (zoe ta tb):=by
 intro pins s σ H Q I h
 refine BoolOp_or (thn (ha pins s σ H _ I h) fun v s1 hq_=>?_)
 obtain ⟨x,H1,I1,r1,q1⟩:=hq_
 obtain ⟨c,rfl,q1⟩:=q1
 cases r1
 refine wpAny_truthy_bool ?_
 cases c with
 | false=>exact hb pins s1 σ H1 Q I1 q1
 | true=>exact ⟨.bl true,H1,I1,rfl,q1⟩
theorem zlO(ha:PE X a ta):PE X (.UnaryOp .Not a pos) (zmO ta):=by
 intro pins s σ H Q I h
 refine UnaryOp_ (thn (ha pins s σ H _ I h) fun v s1 hq_=>?_)
 obtain ⟨x,H1,I1,r1,q1⟩:=hq_
 obtain ⟨c,rfl,q1⟩:=q1
 cases r1
 exact not_of (wpAny_truthy_bool ⟨.bl (!c),H1,I1,rfl,q1⟩)
noncomputable def tIf(t:TT)(ta tb:TE):TE:=fun σ H Q=>t σ H fun c H1=>if c=true then ta σ H1 Q else tb σ H1 Q
theorem zif{c:Expr}(hc:PT X c tA)(ha:PE X a ta)(hb:PE X b tb):PE X (.IfExp c a b pos) (tIf tA ta tb):=by
 intro pins s σ H Q I h
 refine wpAny_IfExp (thn (hc pins s σ H _ I h) fun d s1 hq_=>?_)
 obtain ⟨H1,I1,q1⟩:=hq_
 cases d with
 | true=>exact ha pins s1 σ H1 Q I1 q1
 | false=>exact hb pins s1 σ H1 Q I1 q1
end
noncomputable def SqL(K:PySem.W.Frag)(H:Hp)(a:Addr)(xs:List V):Prop:=
 Rd H a (.lst xs)∨
  ∃ (o:Obj) (its:Array Value) (n:Nat),K.lookup a=some o/\o.cls=.type "list"/\o.dict=none/\o.data=.seq its n/\its.size≤sizeLine/\Vals xs its.toList
noncomputable def SqT(K:PySem.W.Frag)(H:Hp)(a:Addr)(xs:List V):Prop:=
 Rd H a (.tup xs)∨
  ∃ (o:Obj) (its:Array Value) (n:Nat),K.lookup a=some o/\o.cls=.type "tuple"/\o.data=.seq its n/\its.size≤sizeLine/\Vals xs its.toList
noncomputable def zoF:Value->Option V
 | .none=>some .non
 | .bool b=>some (.bl b)
 | .int i _=>some (.int i)
 | .str x _=>some (.str x)
 | .bytes b _=>some (.byt b)
 | .float b _=>some (.flt b)
 | .ref a=>some (.ref a)
 | .type n=>some (.ty n)
 | _=>none
theorem RelV.abs{x:V}{u:Value}(r:RelV x u):zoF u=some x:=by
 cases x with
 | non=>cases r;rfl
 | bl _=>cases r;rfl
 | int _=>obtain ⟨t,rfl⟩:=r;rfl
 | str _=>obtain ⟨t,rfl⟩:=r;rfl
 | byt _=>obtain ⟨t,rfl⟩:=r;rfl
 | flt _=>obtain ⟨t,rfl⟩:=r;rfl
 | ref _=>cases r;rfl
 | ty _=>cases r;rfl
theorem RelV.inj{x y:V}{u:Value}(r:RelV x u)(q:RelV y u):x=y:=Option.some.inj (r.abs.symm.trans q.abs)
theorem Vals.inj{xs ys:List V}{us:List Value}(h:Vals xs us):Vals ys us->xs=ys:=by
 induction h generalizing ys with
 | nil=>intro h;cases h;rfl
 | cons r t ih=>intro h;cases h with | cons r' t'=>rw [r.inj r',ih t']
section
variable {X:Cx} {pins:List (Addr × Obj)} {σ:St} {H:Hp} {s:Shared} {a:Addr} {xs ys:List V}
theorem SqL.of{K:PySem.W.Frag}(h:H a=some (.lst xs)):SqL K H a xs:=.inl (.inl h)
theorem SqT.of{K:PySem.W.Frag}(h:H a=some (.tup xs)):SqT K H a xs:=.inl (.inl h)
theorem Inv.list(I:Inv X pins σ H s)(h:SqL X.K H a xs):∃ its:List Value,Vals xs its/\PlainL s.heap a its.toArray/\xs.length≤sizeLine:=by
 rcases h with h | ⟨o,its,n,hk,hc,hd,hs,hz,r⟩
 ·obtain ⟨z,its,n,r,e⟩:=h.ok I.hok
  exact ⟨its,r,⟨_,n,e,rfl,rfl,rfl⟩,z⟩
 ·refine ⟨its.toList,r,⟨o,n,I.kIn a o hk,hc,hd,by simpa using hs⟩,?_⟩
  have e:=r.length
  simp only [Array.length_toList] at e
  omega
theorem Inv.tuple(I:Inv X pins σ H s)(h:SqT X.K H a xs):∃ its:List Value,Vals xs its/\IsTup s.heap a its.toArray/\xs.length≤sizeLine:=by
 rcases h with h | ⟨o,its,n,hk,hc,hs,hz,r⟩
 ·obtain ⟨z,its,r,p⟩:=h.ok I.hok
  exact ⟨its,r,p,z⟩
 ·refine ⟨its.toList,r,⟨o,I.kIn a o hk,hc,n,by simpa using hs⟩,?_⟩
  have e:=r.length
  simp only [Array.length_toList] at e
  omega
theorem Inv.list_inj(I:Inv X pins σ H s)(h:SqL X.K H a xs)(h':SqL X.K H a ys):xs=ys:=by
 obtain ⟨its,r,⟨o,n,e,_,_,d⟩,_⟩:=I.list h
 obtain ⟨its',r',⟨o',n',e',_,_,d'⟩,_⟩:=I.list h'
 rw [e] at e';cases e'
 rw [d] at d'
 injection d' with d1 _
 have:its=its':=by simpa using congrArg Array.toList d1
 subst this
 exact r.inj r'
theorem Inv.tuple_inj(I:Inv X pins σ H s)(h:SqT X.K H a xs)(h':SqT X.K H a ys):xs=ys:=by
 obtain ⟨its,r,⟨o,e,_,n,d⟩,_⟩:=I.tuple h
 obtain ⟨its',r',⟨o',e',_,n',d'⟩,_⟩:=I.tuple h'
 rw [e] at e';cases e'
 rw [d] at d'
 injection d' with d1 _
 have:its=its':=by simpa using congrArg Array.toList d1
 subst this
 exact r.inj r'
end
noncomputable abbrev Cx.wish(X:Cx)(E:Value->Shared->Prop):Cx:={ X with xe:=E }
noncomputable abbrev Cx.nox(X:Cx):Cx:=X.wish fun _ _=>False
theorem Cx.Ok.wish{X:Cx}(ok:X.Ok)(E:Value->Shared->Prop):(X.wish E).Ok:=
 ⟨ok.mod,ok.kind,ok.glob,ok.blt,ok.above,ok.inj,ok.has,ok.cab,ok.hd,ok.frames,ok.stk,ok.exf,ok.bs,ok.bsz,ok.noex,ok.exfs,ok.funs,ok.frf⟩
theorem Cx.Ok.unwish{X:Cx}{E:Value->Shared->Prop}(ok:(X.wish E).Ok):X.Ok:=
 ⟨ok.mod,ok.kind,ok.glob,ok.blt,ok.above,ok.inj,ok.has,ok.cab,ok.hd,ok.frames,ok.stk,ok.exf,ok.bs,ok.bsz,ok.noex,ok.exfs,ok.funs,ok.frf⟩
section
variable {X:Cx} {pins:List (Addr × Obj)} {σ:St} {H:Hp} {s:Shared} {E:Value->Shared->Prop}
theorem Inv.wish(I:Inv X pins σ H s)(E:Value->Shared->Prop):Inv (X.wish E) pins σ H s:=⟨I.ok.wish E,I.os,I.bare,I.base,I.loc,I.cell,I.free,I.freeC,I.pin,I.hok,I.len⟩
theorem Inv.unwish(I:Inv (X.wish E) pins σ H s):Inv X pins σ H s:=⟨I.ok.unwish,I.os,I.bare,I.base,I.loc,I.cell,I.free,I.freeC,I.pin,I.hok,I.len⟩
theorem SP.unwish{D:Ends}{f:Flow}{s':Shared}(h:SP (X.wish E) pins D f s'):SP X pins D f s':=by
 cases f with
 | next=>obtain ⟨σ',H',I,q⟩:=h;exact ⟨σ',H',I.unwish,q⟩
 | brk=>obtain ⟨σ',H',I,q⟩:=h;exact ⟨σ',H',I.unwish,q⟩
 | cont=>obtain ⟨σ',H',I,q⟩:=h;exact ⟨σ',H',I.unwish,q⟩
 | ret u=>obtain ⟨v,σ',H',I,r,q⟩:=h;exact ⟨v,σ',H',I.unwish,r,q⟩
theorem PSs.nox{st:List Stmt}{t:TS}(h:PSs X.nox st t):PSs X st t:=fun pins s σ H D I hw=>
 wpAny_mono (h pins s σ H D (I.wish _) hw) (fun _ _ q=>q.unwish) fun _ _ z=>False.elim z
end
section
variable {X:Cx} {st:Stmt} {xW:List Stmt} {t u:TS} {e:Expr} {te:TE} {pos:Pos}
noncomputable def zmP:TS:=fun D σ H=>D.nx σ H
noncomputable def zoc(t u:TS):TS:=fun D σ H=>t { D with nx:=u D } σ H
theorem pss_nil:PSs X [] zmP:=fun _ _ σ H _ I h=>wpAny_execs_nil ⟨σ,H,I,h⟩
theorem zdJ(h1:PS X st t)(h2:PSs X xW u):PSs X (st::xW) (zoc t u):=by
 intro pins s σ H D I h
 refine wpAny_execs_cons (thn (h1 pins s σ H { D with nx:=u D } I h) fun f s1 q=>?_)
 cases f with
 | next=>
  obtain ⟨σ',H',I',q⟩:=q
  exact h2 pins s1 σ' H' D I' q
 | ret v=>exact q
 | brk=>exact q
 | cont=>exact q
theorem Inv.quiet{pins:List (Addr × Obj)}{σ:St}{H:Hp}{s:Shared}(I:Inv X pins σ H s):interactive X.env=false:=by simp [interactive,I.ok.kind]
noncomputable def zax(te:TE):TS:=fun D σ H=>te σ H fun _ H1=>D.nx σ H1
theorem yZ(he:PE X e te)(hs:swapsWith e none pos.line X.env=pure false:=by rfl):PS X (.Expr e pos) (zax te):=by
 intro pins s σ H D I h
 exact wpAny_Expr_any (thn (he pins s σ H _ I h) fun v s1 ⟨x,H1,I1,r1,q1⟩=>⟨σ,H1,I1,q1⟩) I.quiet hs
noncomputable def zod(te:TE):TS:=fun D σ H=>te σ H D.rt
theorem zlD(he:PE X e te):PS X (.Return (some e) pos) (zod te):=by
 intro pins s σ H D I h
 exact wpAny_Return_some (thn (he pins s σ H _ I h) fun v s1 ⟨x,H1,I1,r1,q1⟩=>⟨x,σ,H1,I1,r1,q1⟩)
noncomputable def zoi(c:TT)(t u:TS):TS:=fun D σ H=>c σ H fun b H1=>if b=true then t D σ H1 else u D σ H1
theorem zng{c:Expr}{a b:List Stmt}{tc:TT}(hc:PT X c tc)(ha:PSs X a t)(hb:PSs X b u):PS X (.If c a b pos) (zoi tc t u):=by
 intro pins s σ H D I h
 refine wpAny_If (thn (hc pins s σ H _ I h) fun d s1 hq_=>?_)
 obtain ⟨H1,I1,q1⟩:=hq_
 cases d with
 | true=>exact ha pins s1 σ H1 D I1 q1
 | false=>exact hb pins s1 σ H1 D I1 q1
noncomputable def zlq:TS:=fun _ _ _=>False
theorem ps_never:PS X st zlq:=fun _ _ _ _ _ _ h=>h.elim
end
noncomputable abbrev TG:=V->St->Hp->(St->Hp->Prop)->Prop
noncomputable abbrev TGs:=List V->St->Hp->(St->Hp->Prop)->Prop
noncomputable def PG(X:Cx)(target:Expr)(t:TG):Prop:=
 ∀ (pins:List (Addr × Obj)) (s:Shared) (σ:St) (H:Hp) (v:V) (u:Value) (Q:St->Hp->Prop),Inv X pins σ H s->RelV v u->t v σ H Q->
  wpAny (model X.prog X.w) X.A (assign target X.env u) (fun _ s'=>∃ σ' H',Inv X pins σ' H' s'/\Q σ' H') X.xe s
noncomputable def PGs(X:Cx)(ts:List Expr)(t:TGs):Prop:=
 ∀ (pins:List (Addr × Obj)) (s:Shared) (σ:St) (H:Hp) (vs:List V) (us:List Value) (Q:St->Hp->Prop),Inv X pins σ H s->Vals vs us->t vs σ H Q->
  wpAny (model X.prog X.w) X.A (assignInOrder ((assignEach ts X.env).map (·.2)) us) (fun _ s'=>∃ σ' H',Inv X pins σ' H' s'/\Q σ' H') X.xe s
noncomputable abbrev zmy:=V->V->V->Hp->(Hp->Prop)->Prop
noncomputable def znL(X:Cx)(t:zmy):Prop:=
 ∀ (pins:List (Addr × Obj)) (s:Shared) (σ:St) (H:Hp) (o i v:V) (ov iv u:Value) (Q:Hp->Prop),Inv X pins σ H s->RelV o ov->RelV i iv->RelV v u->t o i v H Q->
  wpAny (model X.prog X.w) X.A (setItem ov iv u) (fun _ s'=>∃ H',Inv X pins σ H' s'/\Q H') X.xe s
section
variable {X:Cx} {pos:Pos}
noncomputable def uM(i:Nat):TG:=fun v σ H Q=>Q (σ.set i (some v)) H
theorem zQ{i:Nat}{x:Str}(hN:X.N.Nodup)(hi:X.N[i]?=some x)(hx:Loc X.env.scope x)(hf:X.fn x=true∨X.env.scope.names.lookup x=some .local:=by first | exact .inl rfl | exact .inr rfl | assumption):PG X (.Name x pos) (uM i):=by
 intro pins s σ H v u Q I r h
 exact wpAny_assign_Name (zdD I hN hi hx r (fun s' I'=>⟨_,H,I',h⟩) hf)
noncomputable def zow:TGs:=fun vs σ H Q=>vs=[]/\Q σ H
noncomputable def znw(t:TG)(u:TGs):TGs:=fun vs σ H Q=>∃ v r,vs=v::r/\t v σ H fun σ' H'=>u r σ' H' Q
theorem pgs_nil:PGs X [] zow:=by
 intro pins s σ H vs us Q I r h
 obtain ⟨e,h⟩:=h
 subst e
 cases r
 exact assignInOrder_nil ⟨σ,H,I,h⟩
theorem zib{e:Expr}{es:List Expr}{t:TG}{u:TGs}(h1:PG X e t)(h2:PGs X es u)
  (hs:(assignEach (e::es) X.env).map (·.2)=assign e X.env::(assignEach es X.env).map (·.2):=by rfl):PGs X (e::es) (znw t u):=by
 intro pins s σ H vs us Q I r h
 obtain ⟨v,vr,e1,h⟩:=h
 subst e1
 cases r with
 | cons r rr=>
  rw [hs]
  refine assignInOrder_cons (thn (h1 pins s σ H _ _ _ I r h) fun _ s1 hq_=>?_)
  obtain ⟨σ1,H1,I1,q1⟩:=hq_
  exact h2 pins s1 σ1 H1 _ _ Q I1 rr q1
noncomputable def zov(K:PySem.W.Frag)(n:Nat)(t:TGs):TG:=fun v σ H Q=>∃ a xs,v=.ref a/\SqT K H a xs/\xs.length=n/\t xs σ H Q
theorem zlI{es:List Expr}{k:Nat}{t:TGs}{n:Nat}(hc:X.calm=true)(h:PGs X es t)
  (hn:(assignEach es X.env).length=n:=by rfl)(hst:(assignEach es X.env).findIdx? (·.1)=none:=by rfl):PG X (.Tuple es k pos) (zov X.K n t):=by
 intro pins s σ H v u Q I r hw
 obtain ⟨a,xs,e1,hq,hl,hw⟩:=hw
 subst e1
 cases r
 obtain ⟨its,rv,ht,hz⟩:=I.tuple hq
 refine assign_Tuple_tuple (I.ok.hd hc) ht (by simp [hn,← hl,rv.length]) hst fun h' hx=>?_
 have I1:Inv X pins σ H { s with heap:=h' }:=I.kept (t':=s.toks) fun b o e=>hx b o (Nat.ne_of_lt (Heap.lt_size e)) e
 exact h pins _ σ H xs _ Q I1 (by simpa using rv) hw
noncomputable def zmn(to ti:TE)(t:zmy):TG:=fun v σ H Q=>to σ H fun o H1=>ti σ H1 fun i H2=>t o i v H2 fun H3=>Q σ H3
theorem jN{o i:Expr}{to ti:TE}{t:zmy}(ho:PE X o to)(hi:PE X i ti)(hs:znL X t)
  (ha:∀ v,assign (.Subscript o i pos) X.env v=(do
   let ov ← holding [v] (eval o X.env)
   let iv ← holding [v,ov] (eval i X.env)
   standAt pos
   holding [v,ov,iv] (setItem ov iv v)
   release [v,ov,iv] []):=by intro _;rfl):PG X (.Subscript o i pos) (zmn to ti t):=by
 intro pins s σ H v u Q I r h
 rw [ha]
 refine wpAny_bind (wpAny_holding (thn (ho pins s σ H _ I h) fun ov s1 hq_=>?_))
 obtain ⟨x,H1,I1,r1,q1⟩:=hq_
 refine wpAny_bind (wpAny_holding (thn (hi pins s1 σ H1 _ I1 q1) fun iv s2 hq_=>?_))
 obtain ⟨y,H2,I2,r2,q2⟩:=hq_
 refine wpAny_bind (wpAny_standAt (wpAny_bind (wpAny_holding (thn (hs pins s2 σ H2 x y v ov iv u _ I2 r1 r2 r q2) fun _ s3 hq_=>?_))))
 obtain ⟨H3,I3,q3⟩:=hq_
 exact wpAny_release ⟨σ,H3,I3,q3⟩
noncomputable def jF(te:TE)(g:TG):TS:=fun D σ H=>te σ H fun x H1=>g x σ H1 D.nx
theorem ud{tg e:Expr}{te:TE}{g:TG}(he:PE X e te)(hg:PG X tg g)(hs:swapsWithSole [tg] e pos.line X.env=pure false:=by rfl)(hw:swappedStores [tg] e X.env=pure none:=by rfl)
  (h1:(assignEach [tg] X.env).map (·.2)=[assign tg X.env]:=by rfl):PS X (.Assign [tg] e pos) (jF te g):=by
 intro pins s σ H D I h
 refine wpAny_Assign_stores (thn (he pins s σ H _ I h) fun v s1 ⟨x,H1,I1,r1,q1⟩=>?_) hs hw
 rw [h1]
 exact thn (hg pins s1 σ H1 x v _ I1 r1 q1) fun _ s2 q=>q
theorem zO{i:Nat}{x:Str}{e:Expr}{te:TE}{pos':Pos}(hN:X.N.Nodup)(hi:X.N[i]?=some x)(hx:Loc X.env.scope x)(he:PE X e te)(hs:swapsWith e (some (.Name x pos')) pos.line X.env=pure false:=by rfl)(hf:X.fn x=true∨X.env.scope.names.lookup x=some .local:=by first | exact .inl rfl | exact .inr rfl | assumption):
  PS X (.Assign [.Name x pos'] e pos) (jF te (uM i)):=by
 intro pins s σ H D I h
 refine wpAny_Assign_Name (thn (he pins s σ H _ I h) fun v s1 ⟨y,H1,I1,r1,q1⟩=>?_) hs
 exact zdD I1 hN hi hx r1 (fun s2 I2=>⟨_,H1,I2,q1⟩) hf
noncomputable def zlp(c:TT)(tb:TS):TS:=fun D σ H=>∃ W:Nat->St->Hp->Prop,(∃ m,W m σ H)/\∀ m σ H,W m σ H->
 c σ H fun b H1=>if b=true then ∃ N:St->Hp->Prop,(∀ σ' H',N σ' H'->∃ m',m'<m/\W m' σ' H')/\tb { D with nx:=N,ct:=N,bk:=D.nx } σ H1 else D.nx σ H1
theorem zhW{c:Expr}{body:List Stmt}{tc:TT}{tb:TS}(hp:PassesOwn (model X.prog X.w) X.A X.env X.xe)(hc:PT X c tc)(hb:PSs X body tb):PS X (.While c body [] pos) (zlp tc tb):=by
 intro pins s σ H D I h
 obtain ⟨W,⟨m0,w0⟩,turn⟩:=h
 refine wpAny_While (codeAny_whileLoop (fun n s'=>∃ σ' H',Inv X pins σ' H' s'/\W n σ' H') ?_ m0 ⟨σ,H,I,w0⟩)
 rintro n s1 ⟨σ1,H1,I1,w1⟩
 refine wpAny_passesOwn hp (thn (hc pins s1 σ1 H1 _ I1 (turn n σ1 H1 w1)) fun b s2 hq_=>?_)
 obtain ⟨H2,I2,q2⟩:=hq_
 cases b with
 | true=>
  obtain ⟨N,hN,q2⟩:=q2
  rw [if_pos rfl]
  refine wpAny_passesOwn hp (thn (hb pins s2 σ1 H2 _ I2 q2) fun f s3 q3=>?_)
  cases f with
  | next=>
   obtain ⟨σ3,H3,I3,n3⟩:=q3
   obtain ⟨m',hm,w3⟩:=hN σ3 H3 n3
   exact ⟨m',hm,σ3,H3,I3,w3⟩
  | cont=>
   obtain ⟨σ3,H3,I3,n3⟩:=q3
   obtain ⟨m',hm,w3⟩:=hN σ3 H3 n3
   exact ⟨m',hm,σ3,H3,I3,w3⟩
  | brk=>exact q3
  | ret v=>exact q3
 | false=>
  rw [if_neg Bool.false_ne_true]
  exact wpAny_execs_nil ⟨σ1,H2,I2,q2⟩
end
structure It where
 go:Nat->Hp->Prop
 yld:Nat->Hp->V->Hp->Prop
 stop:Nat->Hp->Prop
noncomputable def ju(X:Cx)(pins:List (Addr × Obj))(H:Hp)(b:Addr):Prop:=
 H b=none/\b≠X.env.locals/\b ∉ X.fs/\(b ∈ X.ex∨X.s₀.heap.objs.size≤b)/\(∀ x c,X.env.cells.lookup x=some c->c≠b)/\∀ p ∈ X.pn++pins,p.1≠b
theorem Inv.fpOk{X:Cx}{pins:List (Addr × Obj)}{σ:St}{H H':Hp}{s:Shared}{b:Addr}(I:Inv X pins σ H s)(hb:s.heap.objs.size≤b)(hn:H' b=none):ju X pins H' b:=by
 refine ⟨hn,Nat.ne_of_gt (Nat.lt_of_lt_of_le I.lt hb),I.nofs hb,.inr (Nat.le_trans I.sz hb),fun x c e z=>?_,fun p hp z=>?_⟩
 ·obtain ⟨v,q⟩:=I.cell x c e
  exact absurd (Nat.lt_of_lt_of_le q.lt (by rw [z];exact hb)) (Nat.lt_irrefl _)
 ·exact absurd (Nat.lt_of_lt_of_le (Heap.lt_size (I.pin p hp).1) (by rw [z];exact hb)) (Nat.lt_irrefl _)
structure Turn (P:Program) (w:World) (K:PySem.W.Frag) (tg:Expr) (J:It) (fp:List Addr) (it:Addr) (tn:Nat->Heap->Prop):Prop where
 mem:it ∈ fp
 obj:∀ i h,tn i h->∀ b ∈ fp,∃ o,h.get? b=some o/\∀ v,o.data≠.cell v
 keep:∀ i h h',tn i h->(∀ b ∈ fp,∀ o,h.get? b=some o->h'.get? b=some o)->tn i h'
 item:∀ (X:Cx),X.prog=P->X.w=w->X.K=K->X.calm=true->∀ (i:Nat) (pins:List (Addr × Obj)) (s:Shared) (σ:St) (H:Hp) (E:Value->Shared->Prop),Inv X pins σ H s->(∀ b ∈ fp,ju X pins H b)->tn i s.heap->J.go i H->
  wpAny (model P w) X.A (pyNext (.ref it)) (fun r s1=>∃ u,r=some u/\
   wpAny (model P w) X.A (letOwnedTupleGo tg (.ref it) u) (fun _ s2=>∃ x H',Inv X pins σ H' s2/\RelV x u/\J.yld i H x H'/\tn (i+1) s2.heap/\∀ b ∈ fp,H' b=none) E s1) E s
 done:∀ (X:Cx),X.prog=P->X.w=w->X.K=K->X.calm=true->∀ (i:Nat) (pins:List (Addr × Obj)) (s:Shared) (σ:St) (H:Hp) (E:Value->Shared->Prop),Inv X pins σ H s->(∀ b ∈ fp,ju X pins H b)->tn i s.heap->J.stop i H->
  wpAny (model P w) X.A (pyNext (.ref it)) (fun r s1=>r=none/\Inv X pins σ H s1) E s
 self:∀ (A:Around) (i:Nat) (s:Shared) (Q:Value->Shared->Prop) (E:Value->Shared->Prop),tn i s.heap->Q (.ref it) s->wpAny (model P w) A (pyIter (.ref it)) Q E s
noncomputable abbrev TI:=St->Hp->(It->Hp->Prop)->Prop
noncomputable def PIE(X:Cx)(pins:List (Addr × Obj))(σ:St)(tg:Expr)(R:It->Hp->Prop)(itv:Value)(s2:Shared):Prop:=
 ∃ (it:Addr) (fp:List Addr) (tn:Nat->Heap->Prop) (J:It) (H':Hp),itv=.ref it/\Inv X pins σ H' s2/\Turn X.prog X.w X.K tg J fp it tn/\tn 0 s2.heap/\(∀ b ∈ fp,ju X pins H' b)/\R J H'
noncomputable def PI(X:Cx)(tg iter:Expr)(wi:TI):Prop:=
 ∀ (pins:List (Addr × Obj)) (s:Shared) (σ:St) (H:Hp) (R:It->Hp->Prop),Inv X pins σ H s->wi σ H R->
  wpAny (model X.prog X.w) X.A (eval iter X.env) (fun v s1=>wpAny (model X.prog X.w) X.A (pyIter v) (PIE X pins σ tg R) X.xe s1) X.xe s
theorem ziQ {M : Model} {A : Around} {E : Value → Shared → Prop} {s : Shared} {tg : Expr} {it : Addr} {u : Value} {o : Obj} {n : String} {vs : Array Value} {Q : Unit → Shared → Prop} (ho : s.heap.get? it = some o) (hc : o.cls = .type n) (hd : o.data = .fields vs)
    (hn : ["enumerate", "zip", "dict_itemiterator", "dict_reverseitemiterator", "odict_iterator", "itertools.zip_longest", "itertools.pairwise"].contains n = false) (hQ : Q () s) : wpAny M A (letOwnedTupleGo tg (.ref it) u) Q E s := by
  unfold letOwnedTupleGo
  cases tg <;> first
    | exact wpAny_pure hQ
    | (cases u <;> first
        | exact wpAny_pure hQ
        | (refine wpAny_bind (wpAny_load ho ?_)
           rw [hc, hd]
           show wpAny M A (if (["enumerate", "zip", "dict_itemiterator", "dict_reverseitemiterator", "odict_iterator", "itertools.zip_longest", "itertools.pairwise"].contains n && vs[0]? == some (rawInt _)) = true then _ else _) Q E s
           rw [if_neg (by intro h; rw [hn, Bool.false_and] at h; cases h)]
           exact wpAny_pure hQ))
noncomputable def Itl(K:PySem.W.Frag)(a:Addr):It:=
 ⟨fun i H=>∃ xs x,SqL K H a xs/\xs[i]?=some x,fun i H x H'=>H'=H/\∀ xs,SqL K H a xs->xs[i]?=some x,fun i H=>∃ xs,SqL K H a xs/\xs.length≤i⟩
noncomputable def Itt(K:PySem.W.Frag)(a:Addr):It:=
 ⟨fun i H=>∃ xs x,SqT K H a xs/\xs[i]?=some x,fun i H x H'=>H'=H/\∀ xs,SqT K H a xs->xs[i]?=some x,fun i H=>∃ xs,SqT K H a xs/\xs.length≤i⟩
noncomputable def Itr(lo:Int)(n:Nat):It:=⟨fun i _=>i<n,fun i H x H'=>H'=H/\x=.int (lo+i),fun i _=>n≤i⟩
theorem zgC{P:Program}{w:World}{K:PySem.W.Frag}{tg:Expr}(a it:Addr):Turn P w K tg (Itl K a) [it] it (fun i h=>h.IsListIter it a i) where
 mem:=by simp
 obj:=fun i h st b hb=>by
  have e:b=it:=by simpa using hb
  subst e
  obtain ⟨o,e,c,d⟩:=st
  exact ⟨o,e,fun v z=>by rw [d] at z;cases z⟩
 keep:=fun i h h' st k=>st.at fun o e=>k it (by simp) o e
 item:=by
  intro X hP hw hK hc i pins s σ H E I hf st hg
  subst hP hw hK
  obtain ⟨xs,x,hq,hx⟩:=hg
  obtain ⟨its,rv,p,hz⟩:=I.list hq
  obtain ⟨u,hu,ru⟩:=rv.get hx
  obtain ⟨f0,f1,f2,f3,f4,f5⟩:=hf it (by simp)
  refine wpAny_pyNext_list_item st p.isList (x:=u) (by simpa using hu) fun h' st' sb=>?_
  have I1:Inv X pins σ H { s with heap:=h' }:=I.turned (t':=s.toks) (fun b o hb e=>(sb.2 b hb).trans e) f0 f1 f3 f4 f5
  obtain ⟨o,e,c,d⟩:=id st'
  exact ⟨u,rfl,ziQ (s:={ s with heap:=h' }) e c d (by decide) ⟨x,H,I1,ru,⟨rfl,fun ys hy=>by rw [I.list_inj hy hq];exact hx⟩,st',fun b hb=>(hf b hb).1⟩⟩
 done:=by
  intro X hP hw hK hc i pins s σ H E I hf st hg
  subst hP hw hK
  obtain ⟨xs,hq,hx⟩:=hg
  obtain ⟨its,rv,p,hz⟩:=I.list hq
  obtain ⟨f0,f1,f2,f3,f4,f5⟩:=hf it (by simp)
  have hl:=rv.length
  exact wpAny_pyNext_list_end (I.ok.hd hc) st p.isList (by simp;omega) fun h' eb=>⟨rfl,I.turned (t':=s.toks) (fun b o hb e=>eb b o hb e) f0 f1 f3 f4 f5⟩
 self:=fun _ _ _ _ _ st h=>wpAny_pyIter_listiter st h
theorem zey{P:Program}{w:World}{K:PySem.W.Frag}{tg:Expr}(a it:Addr):Turn P w K tg (Itt K a) [it] it (fun i h=>h.IsTupleIter it a i) where
 mem:=by simp
 obj:=fun i h st b hb=>by
  have e:b=it:=by simpa using hb
  subst e
  obtain ⟨o,e,c,d⟩:=st
  exact ⟨o,e,fun v z=>by rw [d] at z;cases z⟩
 keep:=fun i h h' st k=>st.at fun o e=>k it (by simp) o e
 item:=by
  intro X hP hw hK hc i pins s σ H E I hf st hg
  subst hP hw hK
  obtain ⟨xs,x,hq,hx⟩:=hg
  obtain ⟨its,rv,p,hz⟩:=I.tuple hq
  obtain ⟨u,hu,ru⟩:=rv.get hx
  obtain ⟨f0,f1,f2,f3,f4,f5⟩:=hf it (by simp)
  refine wpAny_pyNext_tuple_item st (show s.heap.IsTuple a its.toArray from p) (x:=u) (by simpa using hu) fun h' st' sb=>?_
  have I1:Inv X pins σ H { s with heap:=h' }:=I.turned (t':=s.toks) (fun b o hb e=>(sb.2 b hb).trans e) f0 f1 f3 f4 f5
  obtain ⟨o,e,c,d⟩:=id st'
  exact ⟨u,rfl,ziQ (s:={ s with heap:=h' }) e c d (by decide) ⟨x,H,I1,ru,⟨rfl,fun ys hy=>by rw [I.tuple_inj hy hq];exact hx⟩,st',fun b hb=>(hf b hb).1⟩⟩
 done:=by
  intro X hP hw hK hc i pins s σ H E I hf st hg
  subst hP hw hK
  obtain ⟨xs,hq,hx⟩:=hg
  obtain ⟨its,rv,p,hz⟩:=I.tuple hq
  obtain ⟨f0,f1,f2,f3,f4,f5⟩:=hf it (by simp)
  have hl:=rv.length
  exact wpAny_pyNext_tuple_end (I.ok.hd hc) st (show s.heap.IsTuple a its.toArray from p) (by simp;omega) fun h' eb=>⟨rfl,I.turned (t':=s.toks) (fun b o hb e=>eb b o hb e) f0 f1 f3 f4 f5⟩
 self:=fun _ _ _ _ _ st h=>wpAny_pyIter_tupleiter st h
theorem zez{P:Program}{w:World}{K:PySem.W.Frag}{tg:Expr}(it:Addr)(lo:Int)(n:Nat):Turn P w K tg (Itr lo n) [it] it (fun i h=>IsRangeIter h it (lo+(i:Nat) * 1) ((n:Int) - (i:Nat)) 1) where
 mem:=by simp
 obj:=fun i h st b hb=>by
  have e:b=it:=by simpa using hb
  subst e
  exact ⟨_,st,fun v z=>by
   have z':Data.fields _=Data.cell v:=z
   cases z'⟩
 keep:=fun i h h' st k=>k it (by simp) _ st
 item:=by
  intro X hP hw hK hc i pins s σ H E I hf st hg
  subst hP hw hK
  obtain ⟨f0,f1,f2,f3,f4,f5⟩:=hf it (by simp)
  have W:=Walks.range (prog:=X.prog) (w:=X.w) (I.ok.hd hc) it lo 1 n
  refine W.item i s _ _ hg st fun v h' tk hv st' kk=>?_
  obtain ⟨t,rfl⟩:=hv
  have I1:Inv X pins σ H { s with heap:=h',toks:=tk }:=I.turned (fun b o hb e=>kk b o (by simpa using hb) e) f0 f1 f3 f4 f5
  refine ⟨_,rfl,ziQ (s:={ s with heap:=h',toks:=tk }) (n:="range_iterator") st' rfl rfl (by decide) ⟨.int (lo+i),H,I1,⟨t,?_⟩,⟨rfl,rfl⟩,st',fun b hb=>(hf b hb).1⟩⟩
  rw [Int.mul_one]
 done:=by
  intro X hP hw hK hc i pins s σ H E I hf st hg
  subst hP hw hK
  obtain ⟨f0,f1,f2,f3,f4,f5⟩:=hf it (by simp)
  exact wpAny_pyNext_range_end (I.ok.hd hc) st (by have:n≤i:=hg;omega) fun h' eb=>⟨rfl,I.turned (t':=s.toks) (fun b o hb e=>eb b o hb e) f0 f1 f3 f4 f5⟩
 self:=fun _ _ _ _ _ st h=>wpAny_pyIter_rangeiter st h
section
variable {X:Cx} {tg:Expr}
noncomputable def znv(K:PySem.W.Frag)(tl:TE):TI:=fun σ H R=>tl σ H fun x H1=>∃ a,x=.ref a/\(∃ xs,SqL K H1 a xs)/\R (Itl K a) H1
noncomputable def zou(K:PySem.W.Frag)(tl:TE):TI:=fun σ H R=>tl σ H fun x H1=>∃ a,x=.ref a/\(∃ xs,SqT K H1 a xs)/\R (Itt K a) H1
theorem zjT{l:Expr}{tl:TE}(hl:PE X l tl):PI X tg l (znv X.K tl):=by
 intro pins s σ H R I h
 refine thn (hl pins s σ H _ I h) fun v s1 ⟨x,H1,I1,r1,q1⟩=>?_
 obtain ⟨a,e,⟨xs,hq⟩,q⟩:=q1
 subst e
 cases r1
 obtain ⟨its,rv,p,hz⟩:=I1.list hq
 refine wpAny_pyIter_list p.isList ?_
 refine ⟨s1.heap.objs.size,[s1.heap.objs.size],_,_,H1,rfl,I1.kept (t':=s1.toks) fun b o e=>Heap.get?_push_of_some _ e,zgC a _,⟨_,Heap.get?_push_size _ rfl,rfl,rfl⟩,fun b hb=>?_,q⟩
 have e:b=s1.heap.objs.size:=by simpa using hb
 subst e
 exact I1.fpOk (Nat.le_refl _) (I1.hok.fresh (Nat.le_refl _))
theorem zlH{l:Expr}{tl:TE}(hl:PE X l tl):PI X tg l (zou X.K tl):=by
 intro pins s σ H R I h
 refine thn (hl pins s σ H _ I h) fun v s1 ⟨x,H1,I1,r1,q1⟩=>?_
 obtain ⟨a,e,⟨xs,hq⟩,q⟩:=q1
 subst e
 cases r1
 obtain ⟨its,rv,p,hz⟩:=I1.tuple hq
 refine wpAny_pyIter_tuple (show s1.heap.IsTuple a its.toArray from p) ?_
 refine ⟨s1.heap.objs.size,[s1.heap.objs.size],_,_,H1,rfl,I1.kept (t':=s1.toks) fun b o e=>Heap.get?_push_of_some _ e,zey a _,⟨_,Heap.get?_push_size _ rfl,rfl,rfl⟩,fun b hb=>?_,q⟩
 have e:b=s1.heap.objs.size:=by simpa using hb
 subst e
 exact I1.fpOk (Nat.le_refl _) (I1.hok.fresh (Nat.le_refl _))
theorem zhP{pins:List (Addr × Obj)}{σ:St}{H:Hp}{s:Shared}{R:It->Hp->Prop}{E:Value->Shared->Prop}{lo hi:Int}{t u v:Tok}{tk:Nat}(I:Inv X pins σ H s)(h1 : -(2 ^ 62)≤lo)(h2:lo<2 ^ 62)(h3 : -(2 ^ 62)≤hi)(h4:hi<2 ^ 62)
  (q:R (Itr lo (hi - lo).toNat) H):wpAny (model X.prog X.w) X.A (pyIter (.ref s.heap.objs.size)) (PIE X pins σ tg R) E { s with heap:=s.heap.push { cls:=.type "range",data:=.fields #[.int lo t,.int hi u,.int 1 v] },toks:=tk }:=by
 refine wpAny_pyIter_range (IsRange.new ..) (small_one h1 h2 h3 h4) ?_
 have I1:Inv X pins σ H { s with heap:=s.heap.push { cls:=.type "range",data:=.fields #[.int lo t,.int hi u,.int 1 v] },toks:=tk }:=I.kept fun b o e=>Heap.get?_push_of_some _ e
 refine ⟨(s.heap.push { cls:=.type "range",data:=.fields #[.int lo t,.int hi u,.int 1 v] }).objs.size,[(s.heap.push { cls:=.type "range",data:=.fields #[.int lo t,.int hi u,.int 1 v] }).objs.size],_,_,H,rfl,
  I1.kept (t':=tk) fun b o e=>Heap.get?_push_of_some _ e,zez _ lo (hi - lo).toNat,?_,fun b hb=>?_,q⟩
 ·have e1:lo+((0:Nat):Int) * 1=lo:=by simp
  have e2:(((hi - lo).toNat:Nat):Int) - ((0:Nat):Int)=Builtin.Range.rangeSize lo hi 1:=by rw [rangeSize_one];split<;>omega
  show IsRangeIter _ _ (lo+((0:Nat):Int) * 1) ((((hi - lo).toNat:Nat):Int) - ((0:Nat):Int)) 1
  rw [e1,e2]
  exact Heap.get?_push_size _ rfl
 ·have e:b=(s.heap.push { cls:=.type "range",data:=.fields #[.int lo t,.int hi u,.int 1 v] }).objs.size:=by simpa using hb
  subst e
  exact I1.fpOk (Nat.le_refl _) (I1.hok.fresh (Nat.le_refl _))
noncomputable def znu(ta:TA):TI:=fun σ H R=>ta σ H fun vs H1=>∃ j:Int,vs=[.int j]/\-(2 ^ 62)≤j/\j<2 ^ 62/\R (Itr 0 j.toNat) H1
theorem zgO{a:Expr}{ta:TA}{p pos:Pos}(hg:Gl X "range")(hm:X.mg "range"=none)(ha:PA X [a] ta)(hs:starEach [a] X.env=[(false,eval a X.env)]:=by rfl):PI X tg (.Call (.Name "range" p) [a] [] pos) (znu ta):=by
 intro pins s σ H R I h
 refine Call_ (jT I hg hm boot_range (PyProof.Rows.callWith_type1 (thn (ha pos pins s σ H _ I h) fun us s1 ⟨vs,H1,I1,r1,q1⟩=>?_) hs rfl))
 obtain ⟨j,e,q1,q2,q⟩:=q1
 subst e
 cases r1 with
 | cons r rr=>
  cases rr
  obtain ⟨t,rfl⟩:=r
  exact call_range_1 (zhP I1 (by omega) (by omega) q1 q2 (by simpa using q))
noncomputable def zoj(wi:TI)(g:TG)(tb:TS):TS:=fun D σ H=>wi σ H fun J H1=>∃ W:Nat->Nat->St->Hp->Prop,(∃ m,W 0 m σ H1)/\∀ i m σ H,W i m σ H->
 (J.stop i H/\D.nx σ H)∨(J.go i H/\∃ N:St->Hp->Prop,(∀ σ' H',N σ' H'->∃ m',m'<m/\W (i+1) m' σ' H')/\∀ x H',J.yld i H x H'->g x σ H' fun σ2 H2=>tb { D with nx:=N,ct:=N,bk:=D.nx } σ2 H2)
noncomputable def zaI(fp:List Addr)(h:Heap):List (Addr × Obj):=fp.filterMap fun b=>(h.get? b).map fun o=>(b,o)
theorem uh{fp:List Addr}{h:Heap}{b:Addr}{o:Obj}(hb:b ∈ fp)(e:h.get? b=some o):(b,o) ∈ zaI fp h:=List.mem_filterMap.mpr ⟨b,hb,by rw [e];rfl⟩
theorem zgV{fp:List Addr}{h:Heap}{p:Addr × Obj}(hp:p ∈ zaI fp h):p.1 ∈ fp/\h.get? p.1=some p.2:=by
 obtain ⟨b,hb,e⟩:=List.mem_filterMap.mp hp
 cases q:h.get? b with
 | none=>rw [q] at e;cases e
 | some o=>
  rw [q] at e
  have e':(b,o)=p:=Option.some.inj e
  subst e'
  exact ⟨hb,q⟩
theorem Inv.pinned{pins:List (Addr × Obj)}{σ:St}{H:Hp}{s:Shared}{fp:List Addr}(I:Inv X pins σ H s)(hf:∀ b ∈ fp,ju X pins H b)(ho:∀ b ∈ fp,∃ o,s.heap.get? b=some o/\∀ v,o.data≠.cell v):Inv X (pins++zaI fp s.heap) σ H s:=
 I.pins_of fun p hp=>(List.mem_append.mp hp).elim (fun z=>I.pin p (List.mem_append_right _ z)) fun z=>by
  obtain ⟨hb,e⟩:=zgV z
  obtain ⟨f0,f1,f2,_⟩:=hf p.1 hb
  obtain ⟨o,e',d⟩:=ho p.1 hb
  rw [e] at e';cases e'
  exact ⟨e,f0,f1,f2,d⟩
theorem Inv.unpinned{pins pl:List (Addr × Obj)}{σ:St}{H:Hp}{s:Shared}(I:Inv X (pins++pl) σ H s):Inv X pins σ H s:=I.pins_of fun p hp=>I.pin p (List.mem_append_right _ (List.mem_append_left _ hp))
theorem zlF{iter:Expr}{body:List Stmt}{wi:TI}{g:TG}{tb:TS}{pos:Pos}(hp:PassesOwn (model X.prog X.w) X.A X.env X.xe)(hc:X.calm=true)(hi:PI X tg iter wi)(hg:PG X tg g)(hb:PSs X body tb)
  (hs:∀ x,foldedSetIterable iter X.env x=pure x:=by intro _;rfl):PS X (.For tg iter body [] pos) (zoj wi g tb):=by
 intro pins s σ H D I h
 refine wpAny_For (thn (hi pins s σ H _ I h) fun v s1 h1=>thn h1 fun itv s2 h2=>?_) hs
 obtain ⟨it,fp,tn,J,H2,e,I2,T,st2,f2,W,⟨m0,w0⟩,turn⟩:=h2
 subst e
 -- what stays true of the iterator's objects through the loop
 have stat:∀ {H':Hp},(∀ b ∈ fp,H' b=none)->∀ b ∈ fp,ju X pins H' b:=fun hn b hb=>⟨hn b hb,(f2 b hb).2⟩
 refine codeAny_forLoop_any (fun n s'=>∃ i σ' H',Inv X pins σ' H' s'/\tn i s'.heap/\(∀ b ∈ fp,H' b=none)/\W i n σ' H') ?_ m0 ⟨0,σ,H2,I2,st2,fun b hb=>(f2 b hb).1,w0⟩
 rintro n s3 ⟨i,σ3,H3,I3,st3,fr3,w3⟩
 rcases turn i n σ3 H3 w3 with ⟨stop,qn⟩ | ⟨go,N,hN,step⟩
 ·refine wpAny_passesOwn hp (thn (T.done X rfl rfl rfl hc i pins s3 σ3 H3 X.xe I3 (stat fr3) st3 stop) fun r s4 ⟨hr,I4⟩=>?_)
  subst hr
  exact wpAny_execs_nil ⟨σ3,H3,I4,qn⟩
 ·refine wpAny_passesOwn hp (thn (T.item X rfl rfl rfl hc i pins s3 σ3 H3 X.xe I3 (stat fr3) st3 go) fun r s4 ⟨u,hr,h4⟩=>?_)
  subst hr
  refine wpAny_passesOwn hp (thn h4 fun _ s5 hq_=>?_)
  obtain ⟨x,H5,I5,r5,y5,st5,fr5⟩:=hq_
  have I5':=I5.pinned (stat fr5) (T.obj _ _ st5)
  refine wpAny_passesOwn hp (thn (hg _ s5 σ3 H5 x u _ I5' r5 (step x H5 y5)) fun _ s6 hq_=>?_)
  obtain ⟨σ6,H6,I6,q6⟩:=hq_
  refine wpAny_passesOwn hp (thn (hb _ s6 σ6 H6 _ I6 q6) fun f s7 q7=>?_)
  have again:∀ {σ7:St} {H7:Hp},Inv X (pins++zaI fp s5.heap) σ7 H7 s7->N σ7 H7->∃ m,m<n/\∃ i σ' H',Inv X pins σ' H' s7/\tn i s7.heap/\(∀ b ∈ fp,H' b=none)/\W i m σ' H':=fun {σ7 H7} I7 n7=>by
   obtain ⟨m',hm,w7⟩:=hN σ7 H7 n7
   refine ⟨m',hm,i+1,σ7,H7,I7.unpinned,T.keep _ _ _ st5 fun b hb o e=>(I7.pin (b,o) (List.mem_append_right _ (List.mem_append_right _ (uh hb e)))).1,fun b hb=>?_,w7⟩
   obtain ⟨o,e,d⟩:=T.obj _ _ st5 b hb
   exact (I7.pin (b,o) (List.mem_append_right _ (List.mem_append_right _ (uh hb e)))).2.1
  cases f with
  | next=>obtain ⟨σ7,H7,I7,n7⟩:=q7;exact again I7 n7
  | cont=>obtain ⟨σ7,H7,I7,n7⟩:=q7;exact again I7 n7
  | brk=>obtain ⟨σ7,H7,I7,q7⟩:=q7;exact ⟨σ7,H7,I7.unpinned,q7⟩
  | ret v=>obtain ⟨x7,σ7,H7,I7,r7,q7⟩:=q7;exact ⟨x7,σ7,H7,I7.unpinned,r7,q7⟩
end
noncomputable abbrev R2:=V->V->Hp->VK->Prop
noncomputable def OpR(X:Cx)(f:Value->Value->Sem Value)(r:R2):Prop:=
 ∀ (pins:List (Addr × Obj)) (s:Shared) (σ:St) (H:Hp) (x y:V) (v u:Value) (Q:VK),Inv X pins σ H s->RelV x v->RelV y u->r x y H Q->
  wpAny (model X.prog X.w) X.A (f v u) (EP X pins σ Q) X.xe s
noncomputable def UnR(X:Cx)(f:Value->Sem Value)(r:V->Hp->VK->Prop):Prop:=
 ∀ (pins:List (Addr × Obj)) (s:Shared) (σ:St) (H:Hp) (x:V) (v:Value) (Q:VK),Inv X pins σ H s->RelV x v->r x H Q->
  wpAny (model X.prog X.w) X.A (f v) (EP X pins σ Q) X.xe s
noncomputable def CallR(X:Cx)(f:Value)(r:List V->Hp->VK->Prop):Prop:=
 ∀ (pins:List (Addr × Obj)) (s:Shared) (σ:St) (H:Hp) (xs:List V) (us:List Value) (Q:VK),Inv X pins σ H s->Vals xs us->r xs H Q->
  wpAny (model X.prog X.w) X.A (call f us) (EP X pins σ Q) X.xe s
noncomputable def zoG(X:Cx)(r:V->Hp->(Bool->Hp->Prop)->Prop):Prop:=
 ∀ (pins:List (Addr × Obj)) (s:Shared) (σ:St) (H:Hp) (x:V) (v:Value) (Q:Bool->Hp->Prop),Inv X pins σ H s->RelV x v->r x H Q->
  wpAny (model X.prog X.w) X.A (truthy v) (TP X pins σ Q) X.xe s
noncomputable def tOp(r:R2)(ta tb:TE):TE:=fun σ H Q=>ta σ H fun x H1=>tb σ H1 fun y H2=>r x y H2 Q
noncomputable def tUn(r:V->Hp->VK->Prop)(ta:TE):TE:=fun σ H Q=>ta σ H fun x H1=>r x H1 Q
noncomputable def rI(C:Int->Int->Prop)(g:Int->Int->V):R2:=fun x y H Q=>∃ i j,x=.int i/\y=.int j/\C i j/\Q (g i j) H
noncomputable def rI0(g:Int->Int->V):R2:=fun x y H Q=>∃ i j,x=.int i/\y=.int j/\Q (g i j) H
noncomputable def rU(g:Int->V):V->Hp->VK->Prop:=fun x H Q=>∃ i,x=.int i/\Q (g i) H
section
variable {X:Cx} {a b c:Expr} {ta tb tc:TE} {pos:Pos}
theorem zmu(ha:PE X a ta)(hb:PE X b tb){pins:List (Addr × Obj)}{s:Shared}{σ:St}{H:Hp}{R:V->V->Hp->Prop}(I:Inv X pins σ H s)
  (h:ta σ H fun x H1=>tb σ H1 fun y H2=>R x y H2){Q:Value->Shared->Prop}{f:Value->Value->Sem Value}
  (hf:∀ v u s2 x y H2,Inv X pins σ H2 s2->RelV x v->RelV y u->R x y H2->wpAny (model X.prog X.w) X.A (f v u) Q X.xe s2):
  wpAny (model X.prog X.w) X.A (eval a X.env) (fun v s₁=>wpAny (model X.prog X.w) X.A (eval b X.env) (fun u s₂=>wpAny (model X.prog X.w) X.A (f v u) Q X.xe s₂) X.xe s₁) X.xe s:=by
 refine thn (ha pins s σ H _ I h) fun v s1 ⟨x,H1,I1,r1,q1⟩=>?_
 refine thn (hb pins s1 σ H1 _ I1 q1) fun u s2 ⟨y,H2,I2,r2,q2⟩=>?_
 exact hf v u s2 x y H2 I2 r1 r2 q2
theorem zkV{op:Operator}{r:R2}(ho:OpR X (binaryOp op) r)(ha:PE X a ta)(hb:PE X b tb):PE X (.BinOp a op b pos) (tOp r ta tb):=by
 intro pins s σ H Q I h
 exact wpAny_BinOp (zmu ha hb I h fun v u s2 x y H2 I2 rx ry q=>ho pins s2 σ H2 x y v u Q I2 rx ry q)
theorem znh{op:UnaryOp}{r:V->Hp->VK->Prop}(ho:UnR X (unaryOp op) r)(ha:PE X a ta):PE X (.UnaryOp op a pos) (tUn r ta):=by
 intro pins s σ H Q I h
 exact UnaryOp_ (thn (ha pins s σ H _ I h) fun v s1 ⟨x,H1,I1,r1,q1⟩=>ho pins s1 σ H1 x v Q I1 r1 q1)
theorem opI{f:Value->Value->Sem Value}{C:Int->Int->Prop}{g:Int->Int->Int}
  (rule:∀ (i j:Int) (t u:Tok) (s:Shared) (Q:Value->Shared->Prop) (E:Value->Shared->Prop),C i j->Q (.int (g i j) s.toks) { s with toks:=s.toks+1 }->wpAny (model X.prog X.w) X.A (f (.int i t) (.int j u)) Q E s):
  OpR X f (rI C fun i j=>.int (g i j)):=by
 intro pins s σ H x y v u Q I rx ry h
 obtain ⟨i,j,rfl,rfl,hc,q⟩:=h
 obtain ⟨t,rfl⟩:=rx
 obtain ⟨t',rfl⟩:=ry
 exact rule i j t t' s _ _ hc ⟨.int (g i j),H,I.tok _,⟨_,rfl⟩,q⟩
theorem znp{f:Value->Value->Sem Value}{g:Int->Int->Int}
  (rule:∀ (i j:Int) (t u:Tok) (s:Shared) (Q:Value->Shared->Prop) (E:Value->Shared->Prop),Q (.int (g i j) s.toks) { s with toks:=s.toks+1 }->wpAny (model X.prog X.w) X.A (f (.int i t) (.int j u)) Q E s):
  OpR X f (rI0 fun i j=>.int (g i j)):=by
 intro pins s σ H x y v u Q I rx ry h
 obtain ⟨i,j,rfl,rfl,q⟩:=h
 obtain ⟨t,rfl⟩:=rx
 obtain ⟨t',rfl⟩:=ry
 exact rule i j t t' s _ _ ⟨.int (g i j),H,I.tok _,⟨_,rfl⟩,q⟩
theorem zkf{f:Value->Value->Sem Value}{g:Int->Int->Bool}
  (rule:∀ (i j:Int) (t u:Tok) (s:Shared) (Q:Value->Shared->Prop) (E:Value->Shared->Prop),Q (.bool (g i j)) s->wpAny (model X.prog X.w) X.A (f (.int i t) (.int j u)) Q E s):
  OpR X f (rI0 fun i j=>.bl (g i j)):=by
 intro pins s σ H x y v u Q I rx ry h
 obtain ⟨i,j,rfl,rfl,q⟩:=h
 obtain ⟨t,rfl⟩:=rx
 obtain ⟨t',rfl⟩:=ry
 exact rule i j t t' s _ _ ⟨.bl (g i j),H,I,rfl,q⟩
noncomputable def znN(i j:Int):Prop:=0<j/\j<1073741824
noncomputable def zpc(i j:Int):Prop:=(-(2 ^ 64)<i/\i<2 ^ 64)∨(-(2 ^ 64)<j/\j<2 ^ 64)
theorem op_add:OpR X (binaryOp .Add) (rI0 fun i j=>.int (i+j)):=znp fun _ _ _ _ _ _ _ q=>add_int q
theorem yx:OpR X (binaryOp .Sub) (rI0 fun i j=>.int (i - j)):=znp fun _ _ _ _ _ _ _ q=>sub_int q
theorem uf:OpR X (binaryOp .FloorDiv) (rI znN fun i j=>.int (i / j)):=opI fun i j _ _ _ _ _ hc q=>by
 have h1:(0:Int)<j:=hc.1
 have h2:j<1073741824:=hc.2
 exact floordiv_int (by omega) (by rw [Int.fdiv_eq_ediv_of_nonneg i (by omega)];exact q) (.inl (PyProof.noPylong_small (by omega)))
theorem xt:OpR X (binaryOp .Mod) (rI (fun _ j=>0<j) fun i j=>.int (i % j)):=opI fun i j _ _ _ _ _ hc q=>by
 have h1:(0:Int)<j:=hc
 exact mod_int' (by omega) (by rw [Int.fmod_eq_emod_of_nonneg i (by omega)];exact q)
theorem unI{f:Value->Sem Value}{g:Int->Int}
  (rule:∀ (i:Int) (t:Tok) (s:Shared) (Q:Value->Shared->Prop) (E:Value->Shared->Prop),Q (.int (g i) s.toks) { s with toks:=s.toks+1 }->wpAny (model X.prog X.w) X.A (f (.int i t)) Q E s):
  UnR X f (rU fun i=>.int (g i)):=by
 intro pins s σ H x v Q I rx h
 obtain ⟨i,rfl,q⟩:=h
 obtain ⟨t,rfl⟩:=rx
 exact rule i t s _ _ ⟨.int (g i),H,I.tok _,⟨_,rfl⟩,q⟩
theorem zlm:UnR X (unaryOp .USub) (rU fun i=>.int (-i)):=unI fun _ _ _ _ _ q=>neg_int q
theorem kf:OpR X (compareOp .Lt) (rI0 fun i j=>.bl (decide (i<j))):=zkf fun _ _ _ _ _ _ _ q=>lt_int q
theorem zdQ:OpR X (compareOp .LtE) (rI0 fun i j=>.bl (decide (i≤j))):=zkf fun _ _ _ _ _ _ _ q=>le_int q
theorem zcl:OpR X (compareOp .Gt) (rI0 fun i j=>.bl (decide (j<i))):=zkf fun _ _ _ _ _ _ _ q=>gt_int q
theorem zno:OpR X (compareOp .GtE) (rI0 fun i j=>.bl (decide (j≤i))):=zkf fun _ _ _ _ _ _ _ q=>ge_int q
theorem OpR.or{f:Value->Value->Sem Value}{r r':R2}(h:OpR X f r)(h':OpR X f r'):OpR X f (fun x y H Q=>r x y H Q∨r' x y H Q):=by
 intro pins s σ H x y v u Q I rx ry q
 rcases q with q | q
 ·exact h pins s σ H x y v u Q I rx ry q
 ·exact h' pins s σ H x y v u Q I rx ry q
theorem zu(b:Expr){op:CmpOp}(h:op≠.In:=by decide)(h2:op≠.NotIn:=by decide):behindInMarks op b=false:=by
 have e1:(op == CmpOp.In)=false:=by cases op<;>first | rfl | exact absurd rfl h
 have e2:(op == CmpOp.NotIn)=false:=by cases op<;>first | rfl | exact absurd rfl h2
 cases b<;>simp [behindInMarks,e1,e2]
theorem zkc{op:CmpOp}{r:R2}(ho:OpR X (compareOp op) r)(ha:PE X a ta)(hb:PE X b tb)(hm:behindInMarks op b=false):PE X (.Compare a [op] [b] pos) (tOp r ta tb):=by
 intro pins s σ H Q I h
 exact wpAny_Compare1 (zmu ha hb I h fun v u s2 x y H2 I2 rx ry q=>ho pins s2 σ H2 x y v u Q I2 rx ry q) hm
noncomputable def zhG(t:TE):TT:=fun σ H Q=>t σ H fun x H'=>∃ k,x=.bl k/\Q k H'
theorem zfL{op:CmpOp}{r:R2}(ho:OpR X (compareOp op) r)(ha:PE X a ta)(hb:PE X b tb)(hm:behindInMarks op b=false):PT X (.Compare a [op] [b] pos) (zhG (tOp r ta tb)):=by
 intro pins s σ H Q I h
 refine wpAny_isTrue_Compare1 (thn (ha pins s σ H _ I h) fun v s1 ⟨x,H1,I1,r1,q1⟩=>thn (hb pins s1 σ H1 _ I1 q1) fun u s2 ⟨y,H2,I2,r2,q2⟩=>
  thn (ho pins s2 σ H2 x y v u _ I2 r1 r2 q2) fun c s3 ⟨z,H3,I3,r3,k,e,q3⟩=>?_) hm
 subst e
 cases r3
 exact wpAny_truthy_bool ⟨H3,I3,q3⟩
noncomputable def zeD(r r':R2)(ta tb tc:TE):TE:=fun σ H Q=>ta σ H fun x H1=>tb σ H1 fun y H2=>r x y H2 fun z H3=>∃ k,z=.bl k/\
 (if k=true then tc σ H3 fun w' H4=>r' y w' H4 Q else Q (.bl false) H3)
theorem zih{op op':CmpOp}{r r':R2}(ho:OpR X (compareOp op) r)(ho':OpR X (compareOp op') r')(ha:PE X a ta)(hb:PE X b tb)(hc:PE X c tc)
  (hm:lastMarks [op,op'] [b,c]=false:=by with_unfolding_all rfl):PE X (.Compare a [op,op'] [b,c] pos) (zeD r r' ta tb tc):=by
 intro pins s σ H Q I h
 refine Compare_chain (thn (ha pins s σ H _ I h) fun v s1 ⟨x,H1,I1,r1,q1⟩=>chain_link (thn (hb pins s1 σ H1 _ I1 q1) fun u s2 ⟨y,H2,I2,r2,q2⟩=>
  thn (ho pins s2 σ H2 x y v u _ I2 r1 r2 q2) fun d s3 ⟨z,H3,I3,r3,k,e,q3⟩=>?_)) hm
 subst e
 cases r3
 refine wpAny_truthy_bool ?_
 cases k with
 | false=>exact ite_ff ⟨.bl false,H3,I3,rfl,q3⟩
 | true=>exact ite_tt (chain_last (thn (hc pins s3 σ H3 _ I3 q3) fun w' s4 ⟨z',H4,I4,r4,q4⟩=>ho' pins s4 σ H4 y z' u w' Q I4 r2 r4 q4))
theorem zhV{op op':CmpOp}{r r':R2}(ho:OpR X (compareOp op) r)(ho':OpR X (compareOp op') r')(ha:PE X a ta)(hb:PE X b tb)(hc:PE X c tc)
  (hm:lastMarks [op,op'] [b,c]=false:=by with_unfolding_all rfl):PT X (.Compare a [op,op'] [b,c] pos) (zhG (zeD r r' ta tb tc)):=by
 intro pins s σ H Q I h
 refine isTrue_chain (thn (ha pins s σ H _ I h) fun v s1 ⟨x,H1,I1,r1,q1⟩=>test_link (thn (hb pins s1 σ H1 _ I1 q1) fun u s2 ⟨y,H2,I2,r2,q2⟩=>
  thn (ho pins s2 σ H2 x y v u _ I2 r1 r2 q2) fun d s3 ⟨z,H3,I3,r3,k,e,q3⟩=>?_)) hm
 subst e
 cases r3
 refine wpAny_truthy_bool ?_
 cases k with
 | false=>
  obtain ⟨k',e',q'⟩:=q3
  cases e'
  exact ite_ff ⟨H3,I3,q'⟩
 | true=>
  refine ite_tt (test_last (thn (hc pins s3 σ H3 _ I3 q3) fun w' s4 ⟨z',H4,I4,r4,q4⟩=>thn (ho' pins s4 σ H4 y z' u w' _ I4 r2 r4 q4) fun d' s5 ⟨z2,H5,I5,r5,k2,e2,q5⟩=>?_))
  subst e2
  cases r5
  exact wpAny_truthy_bool ⟨H5,I5,q5⟩
noncomputable def znK(K:PySem.W.Frag)(x:V)(H:Hp)(k:Bool):Prop:=
 match x with
 | .non=>k=false
 | .bl b=>k=b
 | .int i=>k=(i != 0)
 | .str y=>y.length≤sizeLine/\k=((y.length:Int) != 0)
 | .byt y=>y.size≤sizeLine/\k=((y.size:Int) != 0)
 | .ref p=>(∃ xs,SqL K H p xs/\k=!xs.isEmpty)∨(∃ xs,SqT K H p xs/\k=!xs.isEmpty)∨∃ kvs,H p=some (.dK kvs)/\k=!kvs.isEmpty
 | _=>False
theorem zfa{κ:Type}{kvs:List (κ × V)}{vs:List (κ × Value)}(r:KV kvs vs):(!vs.isEmpty)=!kvs.isEmpty:=by
 cases r<;>rfl
theorem zbf{xs:List V}{its:List Value}(r:Vals xs its):(!its.toArray.isEmpty)=!xs.isEmpty:=by
 cases r<;>simp
theorem kD:(sizeLine:Nat)<2 ^ 63:=by rw [sizeLine_eq];decide
theorem zln:zoG X (fun x H Q=>∃ k,znK X.K x H k/\Q k H):=by
 intro pins s σ H x v Q I rx h
 obtain ⟨k,e,q⟩:=h
 have hl:=kD
 have hs:sizeLine=16777216:=sizeLine_eq
 cases x with
 | non=>
  cases rx
  have e':k=false:=e
  subst e'
  exact truthy_none ⟨H,I,q⟩
 | bl b=>
  cases rx
  have e':k=b:=e
  subst e'
  exact wpAny_truthy_bool ⟨H,I,q⟩
 | int i=>
  obtain ⟨t,rfl⟩:=rx
  have e':k=(i != 0):=e
  subst e'
  exact PySem.P.truthy_int ⟨H,I,q⟩
 | str y=>
  obtain ⟨t,rfl⟩:=rx
  obtain ⟨hy,e'⟩:y.length≤sizeLine/\k=((y.length:Int) != 0):=e
  subst e'
  exact PySem.P.truthy_str (by omega) ⟨H,I.tok _,q⟩
 | byt y=>
  obtain ⟨t,rfl⟩:=rx
  obtain ⟨hy,e'⟩:y.size≤sizeLine/\k=((y.size:Int) != 0):=e
  subst e'
  exact PySem.W.truthy_bytes (by omega) ⟨H,I.tok _,q⟩
 | ref p=>
  cases rx
  have e':(∃ xs,SqL X.K H p xs/\k=!xs.isEmpty)∨(∃ xs,SqT X.K H p xs/\k=!xs.isEmpty)∨∃ kvs,H p=some (.dK kvs)/\k=!kvs.isEmpty:=e
  rcases e' with ⟨xs,hx,e'⟩ | ⟨xs,hx,e'⟩ | ⟨kvs,hx,e'⟩
  ·subst e'
   obtain ⟨its,r,pl,hz⟩:=I.list hx
   have hlen:=r.length
   exact wpAny_truthy_list pl.isList (by simp only [List.size_toArray];omega) ⟨H,I.tok _,by rw [zbf r];exact q⟩
  ·subst e'
   obtain ⟨its,r,pl,hz⟩:=I.tuple hx
   have hlen:=r.length
   exact truthy_tuple pl (by simp only [List.size_toArray];omega) ⟨H,I.tok _,by rw [zbf r];exact q⟩
  ·subst e'
   obtain ⟨hz,hS,vs,r,m⟩:kvs.length≤sizeLine/\(p == sysModules)=false/\∃ vs,KV kvs vs/\s.heap.DictOf (zk X.prog X.w) p vs:=I.hok p _ hx
   have hlen:kvs.length=vs.length:=Paired.length r
   exact wpAny_truthy_dict hS m (by omega) ⟨H,I.tok _,by rw [zfa r];exact q⟩
 | _=>exact (show False from e).elim
theorem zhU(ha:PE X a ta)(he:∀ whole,isTrue a X.env whole=(do let v ← whole;standAt a.pos;holding [v] (truthy v))):
  PT X a (fun σ H Q=>ta σ H fun x H'=>∃ k,znK X.K x H' k/\Q k H'):=by
 intro pins s σ H Q I h
 exact isTrue_plain (thn (ha pins s σ H _ I h) fun v s1 ⟨x,H1,I1,r1,q1⟩=>zln pins s1 σ H1 x v Q I1 r1 q1) (he _)
theorem zeP:OpR X (binaryOp .Add) (fun x y H Q=>∃ i j,x=.str i/\y=.str j/\i.length+j.length≤sizeLine/\Q (.str (i++j)) H):=by
 intro pins s σ H x y v u Q I rx ry h
 obtain ⟨i,j,rfl,rfl,hz,q⟩:=h
 obtain ⟨t,rfl⟩:=rx
 obtain ⟨t',rfl⟩:=ry
 exact add_str (fun t' tk=>⟨.str (i++j),H,I.tok _,⟨_,rfl⟩,q⟩) hz
theorem zbX{x:V}{us:List Value}(r:Vals [x] us):∃ u,us=[u]/\RelV x u:=by
 cases r with
 | cons r1 r2=>cases r2;exact ⟨_,rfl,r1⟩
theorem zkP{x y:V}{us:List Value}(r:Vals [x,y] us):∃ u w',us=[u,w']/\RelV x u/\RelV y w':=by
 cases r with
 | cons r1 r2=>
  cases r2 with
  | cons r3 r4=>cases r4;exact ⟨_,_,rfl,r1,r3⟩
end
structure ObjM (h:Heap) (x dx C:Addr) (mA:Str->Option Value):Prop where
 obj:h.get? x=some (PySem.W.instObj C dx)
 ns:h.Ns1 dx mA
 ne:dx≠x
theorem RelO.some_of{v:V}{o:Option Value}(r:RelO (some v) o):∃ u,o=some u/\RelV v u:=by
 cases o with
 | none=>exact (show False from r).elim
 | some u=>exact ⟨u,rfl,r⟩
structure Cls (K:PySem.W.Frag) (C:Addr):Prop where
 pg:PySem.W.plainGet K C Str.empty=true
 hd:PySem.W.hasDictIn K C=true
 po:PySem.W.plainOver K C=true
 sa:PySem.W.findIn K (.ref C) "__setattr__"=some (some (.builtin "object.__setattr__"))
structure Con (K:PySem.W.Frag) (C:Addr) (f:Str) (v:V) (u:Value):Prop where
 at_:PySem.W.findIn K (.ref C) f=some (some u)
 rel:RelV v u
 get:PySem.W.specialIn K u "__get__"=some none
 cp:PySem.W.copiedNames.contains f=false
structure Meth (K:PySem.W.Frag) (C:Addr) (m:Str) (f:Addr):Prop where
 at_:PySem.W.findIn K (.ref C) m=some (some (.ref f))
 fn:PySem.W.isFn K (.ref f)=true
 kp:PySem.W.keepIn K (.ref f)=true
section
variable {X:Cx} {pins:List (Addr × Obj)} {σ:St} {H:Hp} {s:Shared} {A:Around} {E:Value->Shared->Prop} {Q:Value->Shared->Prop} {c:Value} {b:Bool}
inductive TyOf (K:PySem.W.Frag) (H:Hp):V->Value->Prop where
 | non:TyOf K H .non (.type "NoneType")
 | bl (x:Bool):TyOf K H (.bl x) (.type "bool")
 | int (i:Int):TyOf K H (.int i) (.type "int")
 | str (x:Str):TyOf K H (.str x) (.type "str")
 | flt (x:UInt64):TyOf K H (.flt x) (.type "float")
 | lst {a:Addr} {xs:List V} (e:H a=some (.lst xs)):TyOf K H (.ref a) (.type "list")
 | frz {a:Addr} {o:Obj} {xs:List V} (e:H a=some (.frz o (.lst xs))):TyOf K H (.ref a) (.type "list")
 | tup {a:Addr} {xs:List V} (e:H a=some (.tup xs)):TyOf K H (.ref a) (.type "tuple")
 | dK {a:Addr} {kvs:List (Key × V)} (e:H a=some (.dK kvs)):TyOf K H (.ref a) (.type "dict")
 | dT {a:Addr} {kvs:List (List Key × V)} (e:H a=some (.dT kvs)):TyOf K H (.ref a) (.type "dict")
 | ins {a C dx:Addr} {fs:List (Str × V)} (e:H a=some (.ins C dx fs)) (cl:Cls K C) (ha:PySem.W.findIn K (.ref C) "__class__"=some (some (.builtin "object.__class__")))
   (hn:PySem.W.specialIn K (.builtin "object.__class__") "__get__"=some (some (.builtin "getset_descriptor.__get__"))) (htk:PySem.W.takesIn K (.builtin "object.__class__")=some true)
   (hm:PySem.W.mroIn K C (.type "object")=some true):TyOf K H (.ref a) (.ref C)
end
structure Room (k:Nat) (A:Around):Prop where
 hd:A.handled=none
 dp:A.depth+3 * k+5<recursionLimit
 un:A.units+16 * k+200<cLine
theorem Room.mono{j k:Nat}{A:Around}(r:Room k A)(h:j≤k):Room j A:=⟨r.hd,by have:=r.dp;omega,by have:=r.un;omega⟩
theorem Room.deeper{k:Nat}{A:Around}(r:Room (k+1) A)(env:Env):Room k (A.deeper env):=
 ⟨r.hd,by have:=r.dp;show A.depth+1+3 * k+5<_;omega,by have:=r.un;show A.units+3+16 * k+200<_;omega⟩
theorem Room.depth{k:Nat}{A:Around}(r:Room k A):A.depth<recursionLimit:=by have:=r.dp;omega
theorem Room.units{k:Nat}{A:Around}(r:Room k A):A.units+64<cLine:=by have:=r.un;omega
noncomputable def zcJ:TA:=fun _ H Q=>Q [] H
noncomputable def kY(ta:TE)(tr:TA):TA:=fun σ H Q=>ta σ H fun x H1=>tr σ H1 fun xs H2=>Q (x::xs) H2
section
variable {X:Cx} {e:Expr} {es:List Expr} {te:TE} {t:TA} {pos:Pos}
theorem pa_nil:PA X [] zcJ:=fun _ _ _ _ H Q I h=>Calls.spliced_nil ⟨[],H,I,.nil,h⟩
theorem zw(ha:PE X e te)(hr:PA X es t)(hs:starEach (e::es) X.env=(false,eval e X.env)::starEach es X.env:=by rfl):PA X (e::es) (kY te t):=by
 intro pos pins s σ H Q I h
 rw [hs]
 show wpAny _ _ (spliced ((false,eval e X.env)::backTo pos (starEach es X.env))) _ _ s
 refine Calls.spliced_cons (thn (ha pins s σ H _ I h) fun u s1 hq_=>?_)
 obtain ⟨x,H1,I1,r1,q1⟩:=hq_
 exact thn (hr pos pins s1 σ H1 _ I1 q1) fun us s2 ⟨xs,H2,I2,r2,q2⟩=>⟨x::xs,H2,I2,.cons r1 r2,q2⟩
noncomputable def zob(t:TA):TE:=fun σ H Q=>t σ H fun xs H1=>xs.length≤sizeLine/\∀ p,H1 p=none->Q (.ref p) (upd H1 p (.tup xs))
noncomputable def zoh(t:TA):TE:=fun σ H Q=>t σ H fun xs H1=>xs.length≤sizeLine/\∀ p,H1 p=none->Q (.ref p) (upd H1 p (.lst xs))
theorem zlL{x1}(h:PA X es t):PE X (.Tuple es x1 pos) (zob t):=by
 intro pins s σ H Q I hq
 refine wpAny_Tuple_spliced (thn (h pos pins s σ H _ I hq) fun us s1 ⟨xs,H1,I1,r,z,q⟩=>⟨by rw [← r.length];exact z,?_⟩)
 have hf:H1 s1.heap.objs.size=none:=I1.hok.fresh (Nat.le_refl _)
 refine ⟨.ref s1.heap.objs.size,upd H1 s1.heap.objs.size (.tup xs),I1.laid (t':=s1.toks) (fun b u e=>Heap.get?_push_of_some _ e) (Nat.le_refl _) ?_,rfl,q _ hf⟩
 exact ⟨z,us,r,⟨_,Heap.get?_push_size _ rfl,rfl,_,rfl⟩⟩
theorem zlQ(h:PA X es t):PE X (.List es pos) (zoh t):=by
 intro pins s σ H Q I hq
 refine wpAny_List_spliced (thn (h pos pins s σ H _ I hq) fun us s1 ⟨xs,H1,I1,r,z,q⟩=>⟨by rw [← r.length];exact z,?_⟩)
 have hf:H1 s1.heap.objs.size=none:=I1.hok.fresh (Nat.le_refl _)
 refine ⟨.ref s1.heap.objs.size,upd H1 s1.heap.objs.size (.lst xs),I1.laid (t':=s1.toks) (fun b u e=>Heap.get?_push_of_some _ e) (Nat.le_refl _) ?_,rfl,q _ hf⟩
 exact ⟨z,us,0,r,Heap.get?_push_size _ rfl⟩
end
noncomputable abbrev Sp:=List V->Hp->VK->XK->Prop
noncomputable abbrev CXT:=List Env->Hp->Shared->XK->Value->Shared->Prop
structure Env0 (P:Program) (w:World) (K:PySem.W.Frag) (mg:Str->Option Value) (base:Heap) (A:Around) (outer:List Env) (s:Shared) (H:Hp):Prop where
 frames:A.frames=some outer
 mod:Mod K mg base
 bs:∀ b o,base.get? b=some o->s.heap.get? b=some o/\H b=none
 bsz:base.objs.size≤s.heap.objs.size
 funs:s.heap.FunFrames base outer
 frf:∀ b ∈ frs outer,H b=none
 hok:HOk P w H s.heap
 bare:AllBare s.gens
noncomputable def CE(outer:List Env)(P:Program)(w:World)(H:Hp)(s:Shared)(Q:VK)(u:Value)(s':Shared):Prop:=
 ∃ v H',s'.os=s.os/\AllBare s'.gens/\Un (frs outer) [] H H' s.heap s'.heap/\HOk P w H' s'.heap/\RelV v u/\Q v H'
noncomputable def CR(CX:CXT)(outer:List Env)(P:Program)(w:World)(H:Hp)(s:Shared)(Q:VK)(E:XK)(r:Result)(s':Shared):Prop:=
 match r with
 | .ok (.ret u)=>CE outer P w H s Q u s'
 | .ok _=>False
 | .error e=>CX outer H s E e s'
structure FnOk (P:Program) (w:World) (K:PySem.W.Frag) (mg:Str->Option Value) (base:Heap) (CX:CXT) (k:Nat) (f:Addr) (fd:FuncData) (ps:List Str) (sp:Sp):Prop where
 len:∀ vs H Q E,sp vs H Q E->vs.length=ps.length
 run:∀ (A:Around) (outer:List Env) (s:Shared) (H:Hp) (args:Args) (us:List Value) (vs:List V) (Q:VK) (E:XK),Room k A->Env0 P w K mg base A outer s H->BindsTo s fd args (ps.zip us)->Vals vs us->sp vs H Q E->
  codeAny (model P w) A (.call (.ref f) args) (CR CX outer P w H s Q E) s
section
variable {X:Cx} {pins:List (Addr × Obj)} {σ:St} {H:Hp} {s s':Shared}
theorem Inv.env0(I:Inv X pins σ H s):Env0 X.prog X.w X.K X.mg X.base X.A X.stack s H:=
 ⟨I.ok.frames,I.ok.mod,I.bs,Nat.le_trans I.ok.bsz I.sz,I.stack,I.stkFree,I.hok,I.bare⟩
theorem Inv.after{Q:VK}{u:Value}(I:Inv X pins σ H s)(h:CE X.stack X.prog X.w H s Q u s'):EP X pins σ Q u s':=by
 obtain ⟨v,H',os,bare,un,hok,r,q⟩:=h
 obtain ⟨hh,g,d,t,os'⟩:=s'
 obtain rfl:os'=s.os:=os
 exact ⟨v,H',I.call (h':=hh) (g':=g) (d':=d) (t':=t) (ch:=[]) un hok bare (fun b z=>absurd z (by simp)),r,q⟩
end
noncomputable def zkS(sp:Sp)(dvs:List V)(E:XK)(t:TA):TE:=fun σ H Q=>t σ H fun vs H1=>sp (vs++dvs) H1 Q E
noncomputable def Binds(K:PySem.W.Frag)(fd:FuncData)(ps:List Str)(ds:List Value):Prop:=
 ∀ (s:Shared) (us:List Value),K.In s.heap->(us++ds).length=ps.length->BindsTo s fd ⟨us,[]⟩ (ps.zip (us++ds))
theorem Binds.all{K:PySem.W.Frag}{fd:FuncData}{ps:List Str}(h:∀ us:List Value,us.length=ps.length->bindArgs fd ⟨us,[]⟩=pure (ps.zip us)):Binds K fd ps []:=fun s us _ hl=>by
 rw [List.append_nil] at hl ⊢
 exact .of_eq (h us hl)
noncomputable def zfu(CX:CXT)(X:Cx)(E:XK):Prop:=∀ (pins:List (Addr × Obj)) (σ:St) (H:Hp) (s:Shared) (e:Value) (s':Shared),Inv X pins σ H s->CX X.stack H s E e s'->X.xe e s'
section
variable {X:Cx} {CX:CXT} {k:Nat} {f C:Addr} {fd:FuncData} {ps:List Str} {sp:Sp} {dvs:List V} {ds:List Value} {E:XK} {x m:Str} {p pos apos:Pos} {e o:Expr} {es:List Expr} {ta:TE} {t:TA}
theorem zlw{pins:List (Addr × Obj)}{σ:St}{H:Hp}{s:Shared}{Q:VK}{us:List Value}{vs:List V}(F:FnOk X.prog X.w X.K X.mg X.base CX k f fd ps sp)(hr:Room k X.A)(hb:Binds X.K fd ps ds)(hd:Vals dvs ds)(hx:zfu CX X E)
  (I:Inv X pins σ H s)(r:Vals vs us)(h:sp (vs++dvs) H Q E):wpAny (model X.prog X.w) X.A (call (.ref f) us) (EP X pins σ Q) X.xe s:=by
 have r2:Vals (vs++dvs) (us++ds):=r.append hd
 have hl:(us++ds).length=ps.length:=by rw [← r2.length];exact F.len _ _ _ _ h
 refine wpAny_call (codeAny_mono (F.run X.A X.stack s H ⟨us,[]⟩ (us++ds) (vs++dvs) Q E hr I.env0 (hb s us I.kIn hl) r2 h) fun r s' hq=>?_)
 cases r with
 | error e=>exact hx pins σ H s e s' I hq
 | ok fl=>
  cases fl with
  | ret u=>exact I.after hq
  | next=>exact False.elim hq
  | brk=>exact False.elim hq
  | cont=>exact False.elim hq
theorem zkd(F:FnOk X.prog X.w X.K X.mg X.base CX k f fd ps sp)(hr:Room k X.A)(hg:Gl X x)(hm:X.mg x=some (.ref f))(hk:PySem.W.keepIn X.K (.ref f)=true)(hb:Binds X.K fd ps ds)(hd:Vals dvs ds)(hx:zfu CX X E)
  (ha:PA X (e::es) t)(hdb:(x == ("__debug__":Str))=false:=by decide)(he:starEach (e::es) X.env=(false,eval e X.env)::starEach es X.env:=by rfl)(hpl:(backTo pos (starEach es X.env)).any (·.1)=false:=by rfl):
  PE X (.Call (.Name x p) (e::es) [] pos) (zkS sp dvs E t):=by
 intro pins s σ H Q I h
 refine wpAny_Call_Name_kw (zfS I hg hm ?_ hdb)
 refine PySem.W.callWith_K (h₀:=X.base) I.ok.mod.kin hk (thn (ha pos pins s σ H _ I h) fun us s1 ⟨vs,H1,I1,r,q⟩=>⟨I1.kIn,?_⟩) he hpl
 exact zlw F hr hb hd hx I1 r q
structure Mk (K:PySem.W.Frag) (C f:Addr):Prop where
 makes:PySem.W.makesIn K C=true
 init:PySem.W.findIn K (.ref C) "__init__"=some (some (.ref f))
 fn:PySem.W.isFn K (.ref f)=true
 kp:PySem.W.keepIn K (.ref C)=true
end
section
variable {X:Cx} {CX:CXT} {k:Nat} {f C:Addr} {fd:FuncData} {ps ks:List Str} {sp:Sp} {E:XK} {x m:Str} {p pos apos kpos:Pos} {e o:Expr} {es:List Expr} {kws:List Keyword} {te ta:TE} {t tk:TA} {nm:Option Str}
structure KBinds (K:PySem.W.Frag) (fd:FuncData) (ps ks:List Str) (g:List Value->List Value->List Value) (gV:List V->List V->List V):Prop where
 to:∀ (s:Shared) (us ws:List Value),K.In s.heap->(g us ws).length=ps.length->BindsTo s fd ⟨us,ks.zip ws⟩ (ps.zip (g us ws))
 rel:∀ {vs:List V} {us:List Value} {zs:List V} {ws:List Value},Vals vs us->Vals zs ws->Vals (gV vs zs) (g us ws)
variable {g:List Value->List Value->List Value} {gV:List V->List V->List V}
end
structure FnScope (N P:List Str) (sc:Scope):Prop where
 kind:sc.kind=.function
 co:sc.isCoroutine=false
 gen:sc.isGenerator=false
 nd:N.Nodup
 pre:N.take P.length=P
 par:∀ x ∈ P,sc.names.lookup x=some .local∨sc.names.lookup x=some .cell
 nofree:∀ y ∈ sc.names,y.2≠.free
theorem zcB{kindOf:Str->Option NameKind}{x:Str}:∀ {binds:List (Str × Value)} {m:Str->Option Value},(∀ v,(x,v) ∉ binds)->bindL kindOf binds m x=m x
 | [],_,_=>rfl
 | (n,v)::r,m,h=>by
  unfold bindL
  rw [zcB fun w hw=>h w (List.mem_cons_of_mem _ hw)]
  split
  ·have:x≠n:=by rintro rfl;exact h v List.mem_cons_self
   simp [this]
  ·rfl
theorem zcD{kindOf:Str->Option NameKind}{x:Str}:∀ {binds:List (Str × Value)} {m:Str->Option Value},(∀ v,(x,v) ∉ binds)->bindC kindOf binds m x=m x
 | [],_,_=>rfl
 | (n,v)::r,m,h=>by
  unfold bindC
  rw [zcD fun w hw=>h w (List.mem_cons_of_mem _ hw)]
  split
  ·rfl
  ·have:x≠n:=by rintro rfl;exact h v List.mem_cons_self
   simp [this]
theorem zcC{kindOf:Str->Option NameKind}{x:Str}{v:Value}:∀ {P:List Str} {vs:List Value} {i:Nat} {m:Str->Option Value},P.Nodup->P[i]?=some x->vs[i]?=some v->kindOf x=some .local->
  bindL kindOf (P.zip vs) m x=some v
 | [],_,_,_,_,h,_,_=>by simp at h
 | _::_,[],_,_,_,_,h,_=>by simp at h
 | p::P,w::vs,0,m,nd,h1,h2,hk=>by
  simp at h1 h2;subst h1;subst h2
  show bindL kindOf ((p,w)::P.zip vs) m p=_
  unfold bindL
  rw [zcB fun v hv=>(List.nodup_cons.mp nd).1 (List.of_mem_zip hv).1,if_pos hk]
  simp
 | p::P,w::vs,i+1,m,nd,h1,h2,hk=>by
  show bindL kindOf ((p,w)::P.zip vs) m x=_
  unfold bindL
  exact zcC (i:=i) (List.nodup_cons.mp nd).2 (by simpa using h1) (by simpa using h2) hk
theorem zcE{kindOf:Str->Option NameKind}{x:Str}{v:Value}:∀ {P:List Str} {vs:List Value} {i:Nat} {m:Str->Option Value},P.Nodup->P[i]?=some x->vs[i]?=some v->kindOf x≠some .local->
  bindC kindOf (P.zip vs) m x=some v
 | [],_,_,_,_,h,_,_=>by simp at h
 | _::_,[],_,_,_,_,h,_=>by simp at h
 | p::P,w::vs,0,m,nd,h1,h2,hk=>by
  simp at h1 h2;subst h1;subst h2
  show bindC kindOf ((p,w)::P.zip vs) m p=_
  unfold bindC
  rw [zcD fun v hv=>(List.nodup_cons.mp nd).1 (List.of_mem_zip hv).1,if_neg hk]
  simp
 | p::P,w::vs,i+1,m,nd,h1,h2,hk=>by
  show bindC kindOf ((p,w)::P.zip vs) m x=_
  unfold bindC
  exact zcE (i:=i) (List.nodup_cons.mp nd).2 (by simpa using h1) (by simpa using h2) hk
noncomputable def start(N:List Str)(vs:List V):St:=vs.map some++List.replicate (N.length - vs.length) none
noncomputable def zep(CX:CXT)(P:Program)(w:World)(K:PySem.W.Frag)(mg:Str->Option Value)(base:Heap)(N:List Str)(qual:Str)(scope:Scope)(f:Addr)(cd:Value)(A:Around)(outer:List Env)(s:Shared)(H:Hp)(E:XK):Cx where
 prog:=P
 w:=w
 K:=K
 mg:=mg
 base:=base
 A:=A.deeper (envOfC qual scope s.heap.objs.size f cd)
 N:=N
 s₀:=s
 H₀:=H
 env:=envOfC qual scope s.heap.objs.size f cd
 outer:=outer
 stack:=envOfC qual scope s.heap.objs.size f cd::outer
 ex:=[]
 calm:=true
 fn:=fun _=>true
 pn:=[]
 xe:=fun e s'=>wpAny (model P w) (A.deeper (envOfC qual scope s.heap.objs.size f cd)) (leaving (envOfC qual scope s.heap.objs.size f cd) e) (fun _ s''=>CX outer H s E e s'') (fun e' s''=>CX outer H s E e' s'') s'
theorem zer{sc:Scope}{n:Nat}{x:Str}(h:sc.names.lookup x=some .cell):∃ c,(cellsFrom n sc.names []).lookup x=some c:=by
 have q:=PySem.W.cellsFrom_some sc.names n [] (.inl h)
 exact Option.isSome_iff_exists.mp q
theorem zhb{CX:CXT}{P:Program}{w:World}{K:PySem.W.Frag}{mg:Str->Option Value}{base:Heap}{N ps:List Str}{qual:Str}{scope:Scope}{f:Addr}{cd:Value}{A:Around}{outer:List Env}{s s1:Shared}{H:Hp}{E:XK}{us:List Value}{vs:List V}
  (S:FnScope N ps scope)(hd:A.handled=none)(e0:Env0 P w K mg base A outer s H)(hl:vs.length=ps.length)(r:Vals vs us)
  (x:InCallC s s.heap.objs.size (bindL (envOfC qual scope s.heap.objs.size f cd).kindOf (ps.zip us) fun _=>none) (cellsFrom (s.heap.objs.size+1) scope.names []) (bindC (envOfC qual scope s.heap.objs.size f cd).kindOf (ps.zip us) fun _=>none) s1):
  Inv (zep CX P w K mg base N qual scope f cd A outer s H E) [] (start N vs) H s1:=by
 have hpl:ps.length≤N.length:=by have:=congrArg List.length S.pre;rw [List.length_take] at this;omega
 obtain ⟨h1,tk,rfl,hk⟩:=x.done
 have noA:∀ b:Addr,b ∉ (zep CX P w K mg base N qual scope f cd A outer s H E).ex:=fun b z=>absurd (show b ∈ ([]:List Addr) from z) (by simp)
 refine ⟨⟨e0.mod,S.kind,rfl,rfl,Nat.le_refl _,fun y z c h1 h2=>?_,fun y hy=>?_,fun y c _ h=>?_,fun _=>hd,Around.frames_deeper e0.frames,.inr ⟨rfl,rfl⟩,fun b z=>absurd z (noA b),e0.bs,e0.bsz,fun b _ _=>noA b,fun b z=>absurd z (noA b),e0.funs,e0.frf⟩,
  rfl,e0.bare,Un.kept hk,⟨_,x.toInCall.ns,fun i y v h1 h2 h3=>?_⟩,fun y c h=>⟨_,x.cell y c h⟩,e0.hok.fresh (Nat.le_refl _),fun y c h=>?_,fun p hp=>absurd (show p ∈ ([]:List (Addr × Obj)) from hp) (by simp),e0.hok.kept hk,?_⟩
 ·exact name_of_addr x.apart (PySem.mem_of_lookup h1) (PySem.mem_of_lookup h2)
 ·have hy:scope.names.lookup y=some .cell∨scope.names.lookup y=some .free:=hy
  rcases hy with hy | hy
  ·exact zer hy
  ·exact absurd rfl (S.nofree _ (PySem.mem_of_lookup hy))
 ·exact Nat.le_of_lt (x.above y c (PySem.mem_of_lookup h))
 ·have hi:i<vs.length:=by
   unfold start at h2
   by_cases hi:i<vs.length
   ·exact hi
   ·rw [List.getElem?_append_right (by simpa using hi)] at h2
    rw [List.getElem?_replicate] at h2
    split at h2<;>cases h2
  have ha:vs[i]?=some v:=by
   unfold start at h2
   rw [List.getElem?_append_left (by simpa using hi),List.getElem?_map] at h2
   cases e:vs[i]? with
   | none=>rw [e] at h2;cases h2
   | some a=>rw [e] at h2;cases h2;rfl
  obtain ⟨u,hu,rv⟩:=r.get ha
  have hp:ps[i]?=some y:=by
   rw [← S.pre,List.getElem?_take_of_lt (by omega)];exact h1
  have ndP:ps.Nodup:=by rw [← S.pre];exact S.nd.sublist (List.take_sublist _ _)
  refine ⟨u,rv,?_⟩
  rcases S.par y (List.mem_of_getElem? hp) with k | k
  ·exact .inl ⟨k,zcC ndP hp hu k⟩
  ·obtain ⟨c,e⟩:=zer (n:=s.heap.objs.size+1) k
   refine .inr ⟨.inl k,c,e,?_⟩
   have q:=x.cell y c e
   rw [zcE ndP hp hu (by show scope.names.lookup y≠_;rw [k];decide)] at q
   exact q
 ·exact e0.hok.fresh (Nat.le_of_lt (x.above y c (PySem.mem_of_lookup h)))
 ·unfold start
  show _=N.length
  rw [List.length_append,List.length_map,List.length_replicate]
  omega
theorem znx {CX : CXT} {P : Program} {w : World} {K : PySem.W.Frag} {mg : Str → Option Value} {base : Heap} {k : Nat} {f : Addr} {name qual : Str} {params : Arguments} {body : List Stmt} {scope : Scope} {dV kV doc pm cdv ct oc : Value} {an od : Option Addr}
    {osl : Array (Option Value)} {N ps : List Str} {sp : Sp} (lk : K.lookup f = some ⟨oc, od, .func (PySem.W.fnOf name qual params body scope dV kV doc pm an cdv ct), osl⟩) (hcd : PySem.W.codeIn K cdv qual = true) (S : FnScope N ps scope)
    (len : ∀ vs H Q E, sp vs H Q E → vs.length = ps.length)
    (hbody : ∀ (A : Around) (outer : List Env) (s : Shared) (H : Hp) (vs : List V) (Q : VK) (E : XK), Room k (A.deeper (envOfC qual scope s.heap.objs.size f cdv)) → sp vs H Q E →
      ∃ t, PSs (zep CX P w K mg base N qual scope f cdv A outer s H E) body t ∧ t { nx := fun _ H' => Q .non H', rt := Q } (start N vs) H) :
    FnOk P w K mg base CX (k + 1) f (PySem.W.fnOf name qual params body scope dV kV doc pm an cdv ct) ps sp := by
  refine ⟨len, fun A outer s H args us vs Q E hr e0 hb r hsp => ?_⟩
  have hl := len _ _ _ _ hsp
  have KX : K.In s.heap := e0.mod.kin.keeps fun b o e => (e0.bs b o e).1
  have lim : s.heap.NoLimit := e0.mod.nolimit.keeps fun b o e => (e0.bs b o e).1
  have hkind : ∀ y ∈ ps.zip us, scope.names.lookup y.1 = some .local ∨ (scope.names.lookup y.1 = some .cell ∧ ((cellsFrom (s.heap.objs.size + 1) scope.names []).lookup y.1).isSome = true) := fun ⟨n, v⟩ hy => by
    rcases S.par n (List.of_mem_zip hy).1 with q | q
    · exact .inl q
    · exact .inr ⟨q, PySem.W.cellsFrom_some _ _ _ (.inl q)⟩
  refine codeAny_call_function hr.depth (KX _ _ lk) rfl S.co S.gen rfl (PySem.W.codeRec_of KX hcd) (hb _ _ _ _ ?_)
  refine wpAny_newFunctionEnv_cells S.kind hkind fun env he s1 x => ?_
  subst he
  refine ⟨lim.keeps x.toInCall.keep, codeAny_func ?_⟩
  obtain ⟨t, ht, hq⟩ := hbody A outer s H vs Q E (hr.deeper _) hsp
  have I : Inv (zep CX P w K mg base N qual scope f cdv A outer s H E) [] (start N vs) H s1 := zhb S hr.hd e0 hl r x
  refine wpAny_mono (ht [] s1 (start N vs) H _ I hq) (fun fl s' hs => ?_) fun e s' hs => hs
  have fin : ∀ {σ' : St} {H' : Hp} {v : V} {u : Value}, Inv (zep CX P w K mg base N qual scope f cdv A outer s H E) [] σ' H' s' → RelV v u → Q v H' → CE outer P w H s Q u s' :=
    fun {σ' H' v u} J rv q => ⟨v, H', J.os, J.bare, J.base, J.hok, rv, q⟩
  cases fl with
  | ret u =>
    obtain ⟨v, σ', H', J, rv, q⟩ := hs
    exact fin J rv q
  | next =>
    obtain ⟨σ', H', J, q⟩ := hs
    exact fin (v := V.non) (u := Value.none) J rfl q
  | brk =>
    obtain ⟨_, _, _, q⟩ := hs
    exact False.elim q
  | cont =>
    obtain ⟨_, _, _, q⟩ := hs
    exact False.elim q
section
variable {X:Cx} {x:Str} {p pos:Pos} {e:Expr} {es:List Expr} {t:TA} {id T:String} {r:List V->Hp->VK->Prop}
noncomputable def tCB(r:List V->Hp->VK->Prop)(t:TA):TE:=fun σ H Q=>t σ H fun vs H1=>r vs H1 Q
theorem zii(hc:CallR X (.builtin id) r)(hg:Gl X x)(hm:X.mg x=none)(hv:bootBuiltins x=some (.builtin id))(ha:PA X (e::es) t)(hn:x≠"__name__":=by decide)(hdb:(x == ("__debug__":Str))=false:=by decide)
  (he:starEach (e::es) X.env=(false,eval e X.env)::starEach es X.env:=by rfl)(hpl:(backTo pos (starEach es X.env)).any (·.1)=false:=by rfl):PE X (.Call (.Name x p) (e::es) [] pos) (tCB r t):=by
 intro pins s σ H Q I h
 refine wpAny_Call_Name_kw (jT I hg hm hv ?_ hn hdb)
 exact PyProof.Rows.callWith_builtin1 (thn (ha pos pins s σ H _ I h) fun us s1 ⟨vs,H1,I1,r1,q1⟩=>hc pins s1 σ H1 vs us Q I1 r1 q1) he hpl
theorem zcg(hc:CallR X (.type T) r)(hg:Gl X x)(hm:X.mg x=none)(hv:bootBuiltins x=some (.type T))(ha:PA X (e::es) t)(hn:x≠"__name__":=by decide)(hdb:(x == ("__debug__":Str))=false:=by decide)
  (he:starEach (e::es) X.env=(false,eval e X.env)::starEach es X.env:=by rfl)(hpl:(backTo pos (starEach es X.env)).any (·.1)=false:=by rfl):PE X (.Call (.Name x p) (e::es) [] pos) (tCB r t):=by
 intro pins s σ H Q I h
 refine wpAny_Call_Name_kw (jT I hg hm hv ?_ hn hdb)
 exact PyProof.Rows.callWith_type1 (thn (ha pos pins s σ H _ I h) fun us s1 ⟨vs,H1,I1,r1,q1⟩=>hc pins s1 σ H1 vs us Q I1 r1 q1) he hpl
end
end L2
namespace HT
open PySem PyProof.Rows
section
variable {prog:Program} {w:World} {A:Around} {E:Value->Shared->Prop} {s:Shared}
theorem cat_tup{t b:Addr}{vs ws:List Value}{Q:Value->Shared->Prop}(ht:IsTup s.heap t vs.toArray)(hb:IsTup s.heap b ws.toArray)(hv:vs≠[])
  (h1:ws=[]->Q (.ref t) s)(h2:ws≠[]->Q (.ref s.heap.objs.size) { s with heap:=s.heap.push { cls:=.type "tuple",data:=.seq (vs++ws).toArray } })
  (hsz:vs.length+ws.length≤sizeLine):wpAny (model prog w) A (binaryOp .Add (.ref t) (.ref b)) Q E s:=by
 obtain ⟨⟨cls,dd,data,sl⟩,ho,hc,n,hd⟩:=id ht
 obtain ⟨⟨cls2,dd2,data2,sl2⟩,ho2,hc2,n2,hd2⟩:=id hb
 simp only at hc hd hc2 hd2
 subst hc hd hc2 hd2
 have e:vs.toArray++ws.toArray=(vs++ws).toArray:=by simp
 by_cases hw:ws=[]
 ·exact concat_meets ⟨_,ho,rfl⟩ ⟨_,ho2,rfl⟩ noFill_tuple_add seq_tuple_add PySem.F.slot_tuple_add PySem.F.entry_tuple_add (PySem.F.args_tuple_add_2 _ _)
   (tuple_addW1 t b vs.toArray ws.toArray n n2 dd dd2 sl sl2 (by simpa using hv) (by simp [hw])) ⟨ho,ho2,h1 hw⟩
 ·refine concat_meets ⟨_,ho,rfl⟩ ⟨_,ho2,rfl⟩ noFill_tuple_add seq_tuple_add PySem.F.slot_tuple_add PySem.F.entry_tuple_add (PySem.F.args_tuple_add_2 _ _)
   (tuple_addW2 t b vs.toArray ws.toArray n n2 dd dd2 sl sl2 (by simpa using hv) (by simpa using hw) (by rw [List.size_toArray,List.size_toArray];exact hsz)) ⟨ho,ho2,?_⟩
  rw [e]
  exact h2 hw
noncomputable def sIx(n d:Nat):Option Int->Nat
 | none=>d
 | some v=>if v<0 then (v+(n:Int)).toNat else min v.toNat n
theorem zlv(n d:Nat)(hd:d≤n)(o:Option Int):sIx n d o≤n:=by
 cases o with
 | none=>exact hd
 | some v=>
  show (if v<0 then (v+(n:Int)).toNat else min v.toNat n)≤n
  by_cases hv:v<0
  ·rw [if_pos hv];omega
  ·rw [if_neg hv];exact Nat.min_le_right _ _
theorem zgk(v:Int)(n d:Nat):(if v<0 then max (v+(n:Int)) 0 else min v (n:Int))=((sIx n d (some v):Nat):Int):=by
 show (if v<0 then max (v+(n:Int)) 0 else min v (n:Int))=(((if v<0 then (v+(n:Int)).toNat else min v.toNat n):Nat):Int)
 by_cases hv:v<0
 ·simp only [if_pos hv];omega
 ·simp only [if_neg hv];omega
theorem zfs(lo hi:Option Int)(n:Nat):Builtin.Slice.sliceAdjust lo hi 1 (n:Int)=(((sIx n 0 lo:Nat):Int),((sIx n n hi:Nat):Int)):=by
 have h1:¬ ((1:Int)<0):=by omega
 unfold Builtin.Slice.sliceAdjust
 simp only [h1,if_false]
 refine Prod.ext ?_ ?_
 ·cases lo with
  | none=>rfl
  | some v=>exact zgk v n 0
 ·cases hi with
  | none=>rfl
  | some v=>exact zgk v n n
theorem zeK(i j:Nat):Builtin.Slice.slicePlaces (i:Int) (j:Int) 1=j - i:=by
 unfold Builtin.Slice.slicePlaces
 have h1:(1:Int) > 0:=by omega
 simp only [h1,if_true,Int.ediv_one]
 split<;>omega
theorem zay{v:Value}{o:Option Int}{Q:Option Int->Shared->Prop}(p:IsPart v o)(h:Q o s):wpAny (model prog w) A (Builtin.Slice.slicePartIndex v) Q E s:=by
 cases p with
 | none=>exact slicePart_none h
 | int i t=>exact slicePart_int h
theorem sliceApplied_gen{sl:Addr}{vl vu:Value}{lo hi:Option Int}{n:Nat}{Q:Int × Int × Nat->Shared->Prop}(hs:s.heap.IsSliceOf sl vl vu .none)(pl:IsPart vl lo)(pu:IsPart vu hi)
  (h:Q (((sIx n 0 lo:Nat):Int),1,sIx n n hi - sIx n 0 lo) s):wpAny (model prog w) A (Builtin.Slice.sliceApplied (.ref sl) (pure (n:Int))) Q E s:=by
 obtain ⟨os,hos,hcs,hds⟩:=id hs
 unfold Builtin.Slice.sliceApplied Builtin.Slice.sliceFields
 refine wpAny_bind (wpAny_bind (wpAny_field hos hds (x:=vl) rfl (wpAny_bind (wpAny_field hos hds (x:=vu) rfl (wpAny_bind (wpAny_field hos hds (x:=.none) rfl (wpAny_pure ?_)))))))
 refine wpAny_bind (slicePart_none ?_)
 show wpAny _ _ (if ((1:Int) == 0)=true then _ else _) _ _ s
 rw [if_neg (by decide)]
 refine wpAny_bind (zay pl (wpAny_bind (zay pu (wpAny_bind (wpAny_pure ?_)))))
 show wpAny _ _ (match Builtin.Slice.sliceAdjust lo hi 1 (n:Int) with | (lo,hi)=>pure (lo,(1:Int),Builtin.Slice.slicePlaces lo hi 1)) _ _ s
 rw [zfs lo hi n]
 show wpAny _ _ (pure (((sIx n 0 lo:Nat):Int),(1:Int),Builtin.Slice.slicePlaces ((sIx n 0 lo:Nat):Int) ((sIx n n hi:Nat):Int) 1)) _ _ s
 rw [zeK]
 exact wpAny_pure h
theorem zhZ(xs:Array Value)(i k:Nat):((List.range k).filterMap fun (m:Nat)=>xs[((i:Int)+(m:Int) * 1).toNat]?).toArray=((xs.toList.drop i).take k).toArray:=by
 have e:(fun (m:Nat)=>xs[((i:Int)+(m:Int) * 1).toNat]?)=fun m=>xs[i+m]?:=by
  funext m
  have:((i:Int)+(m:Int) * 1).toNat=i+m:=by omega
  rw [this]
 rw [e]
 have:=pick_run xs i k
 rw [List.filterMap_map] at this
 have e2:((fun x=>xs[x]?) ∘ fun x=>i+x)=fun m=>xs[i+m]?:=rfl
 rw [e2] at this
 rw [this]
theorem getItem_tuple_cut{t sl:Addr}{items:Array Value}{vl vu:Value}{lo hi:Option Int}{Q:Value->Shared->Prop}(ht:IsTup s.heap t items)(hs:s.heap.IsSliceOf sl vl vu .none)(pl:IsPart vl lo)(pu:IsPart vu hi)
  (hw:¬ (sIx items.size 0 lo=0/\sIx items.size items.size hi=items.size))
  (h:Q (.ref s.heap.objs.size) { s with heap:=s.heap.push { cls:=.type "tuple",data:=.seq ((items.toList.drop (sIx items.size 0 lo)).take (sIx items.size items.size hi - sIx items.size 0 lo)).toArray } })
  (hsz:items.size≤sizeLine):wpAny (model prog w) A (getItem (.ref t) (.ref sl)) Q E s:=by
 have htake:sizeOk (.seq ((items.toList.drop (sIx items.size 0 lo)).take (sIx items.size items.size hi - sIx items.size 0 lo)).toArray):=by
  show ((items.toList.drop (sIx items.size 0 lo)).take (sIx items.size items.size hi - sIx items.size 0 lo)).toArray.size≤sizeLine
  rw [List.size_toArray,List.length_take,List.length_drop,Array.length_toList]
  omega
 have hj:sIx items.size items.size hi≤items.size:=zlv _ _ (Nat.le_refl _) hi
 obtain ⟨os,hos,hcs,hds⟩:=id hs
 have hTs:s.TypeIs (.ref sl) "slice":=⟨os,hos,hcs⟩
 unfold getItem
 try with_reducible refine wpAny_holding ?_
 first | refine wpAny_bind (wpAny_pure ?_) | skip
 refine wpAny_bind (wpAny_sequenceKey ht.typeIs (by decide) ?_)
 refine wpAny_bind (wpAny_callSpecial?_slot (name:=Str.ofString "__getitem__") ht.typeIs PyProof.Rows.slot_tuple_getitem
  (wpAny_call_entry PyProof.Rows.slot_tuple_getitem ht.typeIs entry_tuple_getitem ?_ (args_tuple_getitem _ _)))
 show wpAny _ _ (Builtin.Tuple.tupleItemsOf (.ref t) >>= _) _ _ s
 refine wpAny_bind (tupleItemsOf_ ht ?_)
 refine wpAny_bind (wpAny_typeOf hTs ?_)
 rw [if_pos (by decide)]
 refine wpAny_bind (sliceApplied_gen hs pl pu ?_)
 have hno:¬ ((((sIx items.size 0 lo:Nat):Int) == 0 && (1:Int) == 1 && (sIx items.size items.size hi - sIx items.size 0 lo) == items.size)=true):=by
  intro q
  rw [Bool.and_eq_true,Bool.and_eq_true] at q
  have q1:((sIx items.size 0 lo:Nat):Int)=0:=eq_of_beq q.1.1
  have q2:sIx items.size items.size hi - sIx items.size 0 lo=items.size:=eq_of_beq q.2
  exact hw ⟨by omega,by omega⟩
 show wpAny _ _ (if (((sIx items.size 0 lo:Nat):Int) == 0 && (1:Int) == 1 && (sIx items.size items.size hi - sIx items.size 0 lo) == items.size)=true then _ else _) _ _ s
 rw [if_neg hno,zhZ]
 first
  | exact wpAny_bind (m:=Builtin.Tuple.tupleExact _) (wpAny_newObj_type (wpAny_pure ⟨_,rfl,wpAny_pure h⟩) htake)
  | exact wpAny_bind (m:=Builtin.Tuple.tupleExact _) (wpAny_newObj_type (wpAny_bind (wpAny_pure (wpAny_pure ⟨_,rfl,wpAny_pure h⟩))) htake)
  | exact wpAny_bind (wpAny_bind (m:=Builtin.Tuple.tupleExact _) (wpAny_newObj_type (wpAny_pure (wpAny_pure ⟨_,rfl,wpAny_pure h⟩)) htake))
  | exact wpAny_bind (wpAny_bind (m:=Builtin.Tuple.tupleExact _) (wpAny_newObj_type (wpAny_pure ⟨_,rfl,wpAny_pure h⟩) htake))
end
end HT
namespace L2
open PySem PySem.Spec PyProof.Rows
noncomputable abbrev TO:=St->Hp->(Option Int->Hp->Prop)->Prop
noncomputable def PO(X:Cx)(e:Option Expr)(t:TO):Prop:=
 ∀ (pins:List (Addr × Obj)) (s:Shared) (σ:St) (H:Hp) (Q:Option Int->Hp->Prop),Inv X pins σ H s->t σ H Q->
  wpAny (model X.prog X.w) X.A (evalPart e X.env) (fun u s'=>∃ o H',Inv X pins σ H' s'/\IsPart u o/\Q o H') X.xe s
noncomputable def zjD:TO:=fun _ H Q=>Q none H
noncomputable def zmN(t:TE):TO:=fun σ H Q=>t σ H fun x H1=>∃ i,x=.int i/\Q (some i) H1
section
variable {X:Cx} {e:Expr} {te:TE} {lo hi:Option Expr} {tl th:TO} {pos p2:Pos}
theorem zjS:PO X none zjD:=by
 intro pins s σ H Q I h
 rw [evalPart_none]
 exact wpAny_pure ⟨none,H,I,.none,h⟩
theorem zjR(h:PE X e te):PO X (some e) (zmN te):=by
 intro pins s σ H Q I hw
 rw [evalPart_some]
 refine thn (h pins s σ H _ I hw) fun u s1 ⟨x,H1,I1,r1,q1⟩=>?_
 obtain ⟨i,rfl,q⟩:=q1
 obtain ⟨t,rfl⟩:=r1
 exact ⟨some i,H1,I1,.int i t,q⟩
noncomputable def SlR(X:Cx)(r:V->Option Int->Option Int->Hp->VK->Prop):Prop:=
 ∀ (pins:List (Addr × Obj)) (s:Shared) (σ:St) (H:Hp) (x:V) (v vl vu:Value) (lo hi:Option Int) (sl:Addr) (Q:VK),Inv X pins σ H s->RelV x v->s.heap.IsSliceOf sl vl vu .none->IsPart vl lo->IsPart vu hi->r x lo hi H Q->
  ∃ T id,typeLookup (.type T) "__getitem__"=pure (some (.builtin id))/\s.TypeIs v T/\wpAny (model X.prog X.w) X.A (getItem v (.ref sl)) (EP X pins σ Q) X.xe s
theorem SlR.or{r r':V->Option Int->Option Int->Hp->VK->Prop}(h:SlR X r)(h':SlR X r'):SlR X (fun x lo hi H Q=>r x lo hi H Q∨r' x lo hi H Q):=by
 intro pins s σ H x v vl vu lo hi sl Q I rx hs pl pu q
 rcases q with q | q
 ·exact h pins s σ H x v vl vu lo hi sl Q I rx hs pl pu q
 ·exact h' pins s σ H x v vl vu lo hi sl Q I rx hs pl pu q
noncomputable def tSl(r:V->Option Int->Option Int->Hp->VK->Prop)(te:TE)(tl th:TO):TE:=fun σ H Q=>te σ H fun x H1=>tl σ H1 fun l H2=>th σ H2 fun u H3=>r x l u H3 Q
theorem zid{r:V->Option Int->Option Int->Hp->VK->Prop}(hr:SlR X r)(he:PE X e te)(hl:PO X lo tl)(hu:PO X hi th):PE X (.Subscript e (.Slice lo hi none p2) pos) (tSl r te tl th):=by
 intro pins s σ H Q I h
 refine Subscript_ (thn (he pins s σ H _ I h) fun v s1 hq_=>?_)
 obtain ⟨x,H1,I1,r1,q1⟩:=hq_
 refine wpAny_Slice (thn (hl pins s1 σ H1 _ I1 q1) fun vl s2 ⟨l,H2,I2,pl,q2⟩=>thn (hu pins s2 σ H2 _ I2 q2) fun vu s3 ⟨u,H3,I3,pu,q3⟩=>?_)
 rw [evalPart_none]
 refine wpAny_pure ?_
 have I4:Inv X pins σ H3 { s3 with heap:=s3.heap.push { cls:=.type "slice",data:=.fields #[vl,vu,.none] } }:=I3.kept (t':=s3.toks) fun b ob q=>Heap.get?_push_of_some _ q
 obtain ⟨T,id,hT,ht,hg⟩:=hr pins { s3 with heap:=s3.heap.push { cls:=.type "slice",data:=.fields #[vl,vu,.none] } } σ H3 x v vl vu l u s3.heap.objs.size Q I4 r1 (Heap.IsSliceOf.new ..) pl pu q3
 show wpAny (model X.prog X.w) X.A (subscriptTail e (.Slice lo hi none p2) v (.ref s3.heap.objs.size)) (EP X pins σ Q) X.xe { s3 with heap:=s3.heap.push { cls:=.type "slice",data:=.fields #[vl,vu,.none] } }
 exact tail_any (ops:=[.ref s3.heap.objs.size,v]) ht hT hg (by with_unfolding_all rfl)
noncomputable def zbx(xs:List V)(lo hi:Option Int):List V:=(xs.drop (HT.sIx xs.length 0 lo)).take (HT.sIx xs.length xs.length hi - HT.sIx xs.length 0 lo)
theorem qx(xs:List V)(lo hi:Option Int):(zbx xs lo hi).length≤xs.length:=by
 unfold zbx
 rw [List.length_take,List.length_drop]
 exact Nat.le_trans (Nat.min_le_right _ _) (Nat.sub_le _ _)
noncomputable def zom(K:PySem.W.Frag):V->Option Int->Option Int->Hp->VK->Prop:=fun x lo hi H Q=>∃ a xs,x=.ref a/\SqT K H a xs/\
 ¬ (HT.sIx xs.length 0 lo=0/\HT.sIx xs.length xs.length hi=xs.length)/\∀ p,H p=none->Q (.ref p) (upd H p (.tup (zbx xs lo hi)))
theorem zls:SlR X (zom X.K):=by
 intro pins s σ H x v vl vu lo hi sl Q I rx hs pl pu h
 obtain ⟨a,xs,rfl,hx,hw,q⟩:=h
 cases rx
 obtain ⟨its,r,ht,hz⟩:=I.tuple hx
 have hlen:its.toArray.size=xs.length:=by rw [List.size_toArray];exact r.length.symm
 refine ⟨"tuple",_,PyProof.Rows.slot_tuple_getitem.lookup,ht.typeIs,?_⟩
 refine HT.getItem_tuple_cut ht hs pl pu (by rw [hlen];exact hw) ?_ (by rw [hlen];exact hz)
 rw [hlen]
 refine ⟨.ref s.heap.objs.size,_,I.laid (t':=s.toks) (o:=.tup (zbx xs lo hi)) (fun b ob q=>Heap.get?_push_of_some _ q) (Nat.le_refl _) ?_,rfl,q _ (I.hok.fresh (Nat.le_refl _))⟩
 exact ⟨Nat.le_trans (qx xs lo hi) hz,_,(r.drop (HT.sIx xs.length 0 lo)).take (HT.sIx xs.length xs.length hi - HT.sIx xs.length 0 lo),IsTup.new _ _⟩
noncomputable def zhS(K:PySem.W.Frag):R2:=fun x y H Q=>∃ a b xs ys,x=.ref a/\y=.ref b/\SqT K H a xs/\SqT K H b ys/\xs≠[]/\xs.length+ys.length≤sizeLine/\
 (ys=[]->Q (.ref a) H)/\(ys≠[]->∀ p,H p=none->Q (.ref p) (upd H p (.tup (xs++ys))))
theorem Vals.nil_iff{xs:List V}{us:List Value}(r:Vals xs us):us=[] ↔ xs=[]:=by
 cases r with
 | nil=>simp
 | cons _ _=>simp
theorem op_catT:OpR X (binaryOp .Add) (zhS X.K):=by
 intro pins s σ H x y v u Q I rx ry h
 obtain ⟨a,b,xs,ys,rfl,rfl,ha,hb,hx,hz,q1,q2⟩:=h
 cases rx
 cases ry
 obtain ⟨its,r1,p1,_⟩:=I.tuple ha
 obtain ⟨its2,r2,p2,_⟩:=I.tuple hb
 refine HT.cat_tup p1 p2 (fun z=>hx (r1.nil_iff.mp z)) (fun z=>⟨.ref a,H,I,rfl,q1 (r2.nil_iff.mp z)⟩) (fun z=>?_) (by rw [← r1.length,← r2.length];exact hz)
 refine ⟨.ref s.heap.objs.size,_,I.laid (t':=s.toks) (o:=.tup (xs++ys)) (fun b ob q=>Heap.get?_push_of_some _ q) (Nat.le_refl _) ?_,rfl,q2 (fun w=>z (r2.nil_iff.mpr w)) _ (I.hok.fresh (Nat.le_refl _))⟩
 exact ⟨by rw [List.length_append];exact hz,_,r1.append r2,IsTup.new _ _⟩
end
noncomputable def ixN(n:Nat)(i:Int):Option Nat:=if 0≤i then (if i<n then some i.toNat else none) else if -(n:Int)≤i then some (i+n).toNat else none
noncomputable def atI{α:Type}(xs:List α)(i:Int):Option α:=(ixN xs.length i).bind fun j=>xs[j]?
theorem zfU{n:Nat}{i:Int}{j:Nat}(h:ixN n i=some j):seqIndex? i n=some j/\j<n/\-(n:Int)≤i/\i<n:=by
 unfold ixN at h
 by_cases h0:0≤i
 ·rw [if_pos h0] at h
  by_cases h1:i<n
  ·rw [if_pos h1] at h
   have e:i.toNat=j:=Option.some.inj h
   exact ⟨by rw [seqIndex_of h0 h1,e],by omega,by omega,h1⟩
  ·rw [if_neg h1] at h;cases h
 ·rw [if_neg h0] at h
  by_cases h1 : -(n:Int)≤i
  ·rw [if_pos h1] at h
   have e:(i+n).toNat=j:=Option.some.inj h
   exact ⟨by rw [seqIndex_neg (by omega) h1,e],by omega,h1,by omega⟩
  ·rw [if_neg h1] at h;cases h
theorem zdr{α:Type}{xs:List α}{i:Int}{v:α}(h:atI xs i=some v):∃ j,seqIndex? i xs.length=some j/\xs[j]?=some v/\j<xs.length/\-(xs.length:Int)≤i/\i<xs.length:=by
 unfold atI at h
 cases e:ixN xs.length i with
 | none=>rw [e] at h;cases h
 | some j=>
  rw [e] at h
  obtain ⟨h1,h2,h3,h4⟩:=zfU e
  exact ⟨j,h1,h,h2,h3,h4⟩
theorem atI_nat{α:Type}{xs:List α}{j:Nat}{v:α}(h:xs[j]?=some v):atI xs (j:Int)=some v:=by
 have hj:j<xs.length:=(List.getElem?_eq_some_iff.mp h).1
 have e:ixN xs.length (j:Int)=some j:=by
  unfold ixN
  rw [if_pos (by omega),if_pos (by omega)];simp
 unfold atI;rw [e];exact h
noncomputable def zgr(b:Expr):Prop:=∀ o i,subscripted b false o i=operate [o,i] (getItem o i)
noncomputable def IxR(X:Cx)(r:R2):Prop:=
 ∀ (value slice:Expr) (pins:List (Addr × Obj)) (s:Shared) (σ:St) (H:Hp) (x y:V) (v u:Value) (Q:VK),Inv X pins σ H s->RelV x v->RelV y u->r x y H Q->
  subscripted slice false v u=operate [v,u] (getItem v u)->wpAny (model X.prog X.w) X.A (subscriptTail value slice v u) (EP X pins σ Q) X.xe s
noncomputable def MtR(X:Cx)(id:String)(r:V->List V->Hp->VK->Prop):Prop:=
 ∀ (pins:List (Addr × Obj)) (s:Shared) (σ:St) (H:Hp) (x:V) (xs:List V) (v:Value) (us:List Value) (Q:VK),Inv X pins σ H s->RelV x v->Vals xs us->r x xs H Q->
  wpAny (model X.prog X.w) X.A (call (.builtin id) (v::us)) (EP X pins σ Q) X.xe s
section
variable {X:Cx} {a b:Expr} {ta tb:TE} {pos:Pos}
theorem IxR.or{r r':R2}(h:IxR X r)(h':IxR X r'):IxR X (fun x y H Q=>r x y H Q∨r' x y H Q):=by
 intro value slice pins s σ H x y v u Q I rx ry q hs
 rcases q with q | q
 ·exact h value slice pins s σ H x y v u Q I rx ry q hs
 ·exact h' value slice pins s σ H x y v u Q I rx ry q hs
theorem zkW{r:R2}(hr:IxR X r)(ha:PE X a ta)(hb:PE X b tb)(hs:zgr b):PE X (.Subscript a b pos) (tOp r ta tb):=by
 intro pins s σ H Q I h
 exact Subscript_ (zmu ha hb I h fun v u s2 x y H2 I2 rx ry q=>hr a b pins s2 σ H2 x y v u Q I2 rx ry q (hs _ _))
noncomputable def zne(K:PySem.W.Frag):R2:=fun x y H Q=>∃ p xs i v,x=.ref p/\y=.int i/\SqL K H p xs/\atI xs i=some v/\Q v H
noncomputable def znc(K:PySem.W.Frag):R2:=fun x y H Q=>∃ p xs i v,x=.ref p/\y=.int i/\SqT K H p xs/\atI xs i=some v/\Q v H
noncomputable def znd:R2:=fun x y H Q=>∃ z i c,x=.str z/\y=.int i/\z.length≤sizeLine/\atI z.cps.toList i=some c/\Q (.str ⟨#[c]⟩) H
theorem ix_list:IxR X (zne X.K):=by
 intro value slice pins s σ H x y v u Q I rx ry h hs
 obtain ⟨p,xs,i,z,rfl,rfl,hq,he,q⟩:=h
 cases rx
 obtain ⟨t,rfl⟩:=ry
 obtain ⟨its,r,pl,hz⟩:=I.list hq
 obtain ⟨j,h1,h2,h3,h4,h5⟩:=zdr he
 obtain ⟨w,ew,rw'⟩:=r.get h2
 have hl:=r.length
 have hn:=kD
 have fin:EP X pins σ Q w s:=⟨z,H,I,rw',q⟩
 by_cases h0:0≤i
 ·have hj:i.toNat=j:=by
   rw [seqIndex_of h0 h5] at h1
   exact Option.some.inj h1
  exact item_listR pl.isList h0 (by omega) (by rw [hj];simpa using ew) fin hs
 ·have hj:(i+(its.toArray.size:Int)).toNat=j:=by
   rw [seqIndex_neg (by omega) h4] at h1
   rw [List.size_toArray,← hl]
   exact Option.some.inj h1
  exact subscriptTail_builtinR (x:=w) pl.isList.typeIs slot_list_getitem.lookup
   (wpAny_getItem_list_neg (Q:=fun r s'=>r=w/\EP X pins σ Q r s') pl.isList (by omega) (by rw [List.size_toArray]<;>omega) (by omega) (by rw [hj];simpa using ew) ⟨rfl,fin⟩) hs
theorem ix_tup:IxR X (znc X.K):=by
 intro value slice pins s σ H x y v u Q I rx ry h hs
 obtain ⟨p,xs,i,z,rfl,rfl,hq,he,q⟩:=h
 cases rx
 obtain ⟨t,rfl⟩:=ry
 obtain ⟨its,r,pl,hz⟩:=I.tuple hq
 obtain ⟨j,h1,h2,h3,h4,h5⟩:=zdr he
 obtain ⟨w,ew,rw'⟩:=r.get h2
 have hl:=r.length
 have hn:=kD
 have fin:EP X pins σ Q w s:=⟨z,H,I,rw',q⟩
 exact subscriptTail_builtinR (x:=w) pl.typeIs slot_tuple_getitem.lookup
  (getItem_tuple (j:=j) (Q:=fun r s'=>r=w/\EP X pins σ Q r s') pl (by omega) (by omega) (by rw [List.size_toArray,← hl];exact h1) (by simpa using ew) ⟨rfl,fin⟩) hs
theorem zmh:IxR X znd:=by
 intro value slice pins s σ H x y v u Q I rx ry h hs
 obtain ⟨z,i,c,rfl,rfl,hz,he,q⟩:=h
 obtain ⟨t,rfl⟩:=rx
 obtain ⟨t',rfl⟩:=ry
 obtain ⟨j,h1,h2,h3,h4,h5⟩:=zdr he
 have hl:z.cps.toList.length=z.length:=by simp [Str.length]
 rw [hl] at h1 h4 h5
 have hn:=kD
 exact tail_any (typeIs_str s z t) slot_str_getitem.lookup (getItem_str (c:=c) (by
  have e1:decide (i < -(2 ^ 63:Int))=false:=decide_eq_false (by omega)
  have e2:decide (i ≥ 2 ^ 63)=false:=decide_eq_false (by omega)
  rw [e1,e2,Bool.or_false]) (by rw [h1];simpa using h2) ⟨.str ⟨#[c]⟩,H,I.tok _,⟨_,rfl⟩,q⟩) hs
noncomputable def rIx(K:PySem.W.Frag):R2:=fun x y H Q=>zne K x y H Q∨znc K x y H Q∨znd x y H Q
theorem ziG:IxR X (rIx X.K):=ix_list.or (ix_tup.or zmh)
theorem zeX(its:List Value)(n j:Nat)(u:Value):Obj.mapSeq (·.setIfInBounds j u) { cls:=.type "list",data:=.seq its.toArray n }={ cls:=.type "list",data:=.seq (its.set j u).toArray n }:=by
 simp [Obj.mapSeq]
theorem Inv.lst{pins:List (Addr × Obj)}{σ:St}{H:Hp}{s:Shared}{p:Addr}{xs:List V}(I:Inv X pins σ H s)(h:H p=some (.lst xs)):
  ∃ (its:List Value) (n:Nat),Vals xs its/\s.heap.get? p=some { cls:=.type "list",data:=.seq its.toArray n }/\xs.length≤sizeLine:=by
 obtain ⟨z,its,n,r,e⟩:=I.hok p _ h
 exact ⟨its,n,r,e,z⟩
theorem Inv.lstUpd{pins:List (Addr × Obj)}{σ:St}{H:Hp}{s:Shared}{p:Addr}{xs ys:List V}{its its':List Value}{n n':Nat}{f:Obj->Obj}(I:Inv X pins σ H s)(h:H p=some (.lst xs))
  (ho:s.heap.get? p=some { cls:=.type "list",data:=.seq its.toArray n })(hf:f { cls:=.type "list",data:=.seq its.toArray n }={ cls:=.type "list",data:=.seq its'.toArray n' })(r:Vals ys its')(hz:ys.length≤sizeLine)(t:Nat):
  Inv X pins σ (upd H p (.lst ys)) { s with heap:=s.heap.update p f,toks:=t }:=by
 have e:(s.heap.update p f).get? p=some { cls:=.type "list",data:=.seq its'.toArray n' }:=by
  rw [Heap.get?_update_self f ho (by rw [hf]<;>rfl),hf]
 refine I.write (x:=p) (e:=p) (by rw [h];trivial) (.inl rfl) (fun b u hb q=>(Heap.get?_update_other _ _ (Ne.symm hb)).trans q) ⟨_,e⟩ ?_
 exact ⟨hz,its',n',r,e⟩
noncomputable def zhQ:V->V->V->Hp->(Hp->Prop)->Prop:=fun o i v H Q=>∃ p xs k j,o=.ref p/\i=.int k/\H p=some (.lst xs)/\ixN xs.length k=some j/\Q (upd H p (.lst (xs.set j v)))
theorem wV:znL X zhQ:=by
 intro pins s σ H o i v ov iv u Q I ro ri rv h
 obtain ⟨p,xs,k,j,rfl,rfl,hp,hj,q⟩:=h
 cases ro
 obtain ⟨t,rfl⟩:=ri
 obtain ⟨its,n,r,ho,hz⟩:=I.lst hp
 obtain ⟨h1,h2,h3,h4⟩:=zfU hj
 have hl:=r.length
 have hn:=kD
 have I':Inv X pins σ (upd H p (.lst (xs.set j v))) { s with heap:=s.heap.update p (Obj.mapSeq (·.setIfInBounds j u)) }:=
  I.lstUpd hp ho (zeX its n j u) (r.set rv j) (by rw [List.length_set];exact hz) s.toks
 by_cases h0:0≤k
 ·have hk:k.toNat=j:=by
   rw [seqIndex_of h0 h4] at h1
   exact Option.some.inj h1
  exact PySem.W.ki_setAt ho h0 (by omega) (by rw [List.size_toArray,← hl];exact h4) (by rw [hk];exact ⟨_,I',q⟩)
 ·have hk:(k+(its.toArray.size:Int)).toNat=j:=by
   rw [seqIndex_neg (by omega) h3] at h1
   rw [List.size_toArray,← hl]
   exact Option.some.inj h1
  exact PySem.W.ki_setBack ho (by omega) (by rw [List.size_toArray,← hl];exact h3) (by omega) (by rw [hk];exact ⟨_,I',q⟩)
theorem zcK(lo hi:Option Int)(n:Nat):(sliceBounds lo hi none n).1=((HT.sIx n 0 lo:Nat):Int)/\(sliceBounds lo hi none n).2.1=((HT.sIx n n hi:Nat):Int)/\(sliceBounds lo hi none n).2.2=1:=by
 refine ⟨?_,?_,rfl⟩
 ·cases lo with
  | none=>simp [sliceBounds,HT.sIx]
  | some i=>
   simp only [sliceBounds,HT.sIx,Option.getD_none,show (1:Int) > 0 by decide,if_true]
   by_cases h:i<0
   ·simp only [h,if_true]<;>omega
   ·simp only [h,if_false]<;>omega
 ·cases hi with
  | none=>simp [sliceBounds,HT.sIx]
  | some i=>
   simp only [sliceBounds,HT.sIx,Option.getD_none,show (1:Int) > 0 by decide,if_true]
   by_cases h:i<0
   ·simp only [h,if_true]<;>omega
   ·simp only [h,if_false]<;>omega
theorem zbK(its:List Value)(lo hi:Option Int):slicePick its.toArray lo hi none=((its.drop (HT.sIx its.length 0 lo)).take (HT.sIx its.length its.length hi - HT.sIx its.length 0 lo)).toArray:=by
 obtain ⟨h1,h2,h3⟩:=zcK lo hi its.toArray.size
 unfold slicePick
 rw [h1,h2,h3]
 simp only [sliceRange_one,pick_run,List.size_toArray]<;>rfl
noncomputable def zon(K:PySem.W.Frag):V->Option Int->Option Int->Hp->VK->Prop:=fun x lo hi H Q=>∃ a xs,x=.ref a/\SqL K H a xs/\∀ p,H p=none->Q (.ref p) (upd H p (.lst (zbx xs lo hi)))
theorem sl_list:SlR X (zon X.K):=by
 intro pins s σ H x v vl vu lo hi sl Q I rx hs pl pu h
 obtain ⟨a,xs,rfl,hx,q⟩:=h
 cases rx
 obtain ⟨its,r,ht,hz⟩:=I.list hx
 have hlen:=r.length
 refine ⟨"list",_,slot_list_getitem.lookup,ht.isList.typeIs,?_⟩
 refine wpAny_getItem_list_slice ht.isList hs pl pu .none (by simp) ?_ (by rw [List.size_toArray]<;>omega)
 rw [zbK,← hlen]
 refine ⟨.ref s.heap.objs.size,_,I.laid (t':=s.toks) (o:=.lst (zbx xs lo hi)) (fun b ob q=>Heap.get?_push_of_some _ q) (Nat.le_refl _) ?_,rfl,q _ (I.hok.fresh (Nat.le_refl _))⟩
 exact ⟨Nat.le_trans (qx xs lo hi) hz,_,0,(r.drop (HT.sIx xs.length 0 lo)).take (HT.sIx xs.length xs.length hi - HT.sIx xs.length 0 lo),Heap.get?_push_size _ rfl⟩
noncomputable def u7:V->Bool
 | .non=>true
 | .bl _=>true
 | .int _=>true
 | .str _=>true
 | _=>false
noncomputable def eqV:V->V->Bool
 | .non,.non=>true
 | .bl a,.bl b=>a == b
 | .bl a,.int b=>(if a then 1 else 0) == b
 | .int a,.bl b=>a == (if b then 1 else 0)
 | .int a,.int b=>a == b
 | .str a,.str b=>a == b
 | _,_=>false
theorem zmr{A:Around}{s:Shared}{y x:V}{u v:Value}(ry:RelV y u)(rx:RelV x v)(fy:u7 y=true)(fx:u7 x=true):SeqAt.EqAt A s u v (eqV y x):=by
 cases y with
 | non=>
  cases ry
  cases x with
  | non=>cases rx;exact SeqAt.EqAt.same _
  | bl b=>cases rx;exact SeqAt.EqAt.none_bool b
  | int b=>obtain ⟨t,rfl⟩:=rx;exact SeqAt.EqAt.none_int b t
  | str b=>obtain ⟨t,rfl⟩:=rx;exact SeqAt.EqAt.none_str b t
  | _=>exact absurd (show false=true from fx) Bool.false_ne_true
 | bl a=>
  cases ry
  cases x with
  | non=>cases rx;exact SeqAt.EqAt.bool_none a
  | bl b=>cases rx;exact SeqAt.EqAt.bool_bool a b
  | int b=>obtain ⟨t,rfl⟩:=rx;exact SeqAt.EqAt.bool_int a b t
  | str b=>obtain ⟨t,rfl⟩:=rx;exact SeqAt.EqAt.bool_str a b t
  | _=>exact absurd (show false=true from fx) Bool.false_ne_true
 | int a=>
  obtain ⟨t',rfl⟩:=ry
  cases x with
  | non=>cases rx;exact SeqAt.EqAt.int_none a t'
  | bl b=>cases rx;exact SeqAt.EqAt.int_bool a t' b
  | int b=>obtain ⟨t,rfl⟩:=rx;exact SeqAt.EqAt.int_int a t' b t
  | str b=>obtain ⟨t,rfl⟩:=rx;exact SeqAt.EqAt.int_str a t' b t
  | _=>exact absurd (show false=true from fx) Bool.false_ne_true
 | str a=>
  obtain ⟨t',rfl⟩:=ry
  cases x with
  | non=>cases rx;exact SeqAt.EqAt.str_none a t'
  | bl b=>cases rx;exact SeqAt.EqAt.str_bool a t' b
  | int b=>obtain ⟨t,rfl⟩:=rx;exact SeqAt.EqAt.str_int a t' b t
  | str b=>obtain ⟨t,rfl⟩:=rx;exact SeqAt.EqAt.str_str a t' b t
  | _=>exact absurd (show false=true from fx) Bool.false_ne_true
 | _=>exact absurd (show false=true from fy) Bool.false_ne_true
noncomputable def eqU(x:V)(u:Value):Bool:=match u with
 | .none=>eqV .non x
 | .bool b=>eqV (.bl b) x
 | .int i _=>eqV (.int i) x
 | .str z _=>eqV (.str z) x
 | _=>false
theorem zjb{x y:V}{u:Value}(r:RelV y u)(f:u7 y=true):eqU x u=eqV y x:=by
 cases y with
 | non=>cases r;rfl
 | bl b=>cases r;rfl
 | int i=>obtain ⟨t,rfl⟩:=r;rfl
 | str z=>obtain ⟨t,rfl⟩:=r;rfl
 | _=>exact absurd (show false=true from f) Bool.false_ne_true
theorem qD{x:V}:∀ {xs:List V} {us:List Value},Vals xs us->xs.all u7=true->us.any (eqU x)=xs.any fun y=>eqV y x
 | _,_,.nil,_=>rfl
 | y::xs,u::us,.cons r t,f=>by
  rw [List.all_cons,Bool.and_eq_true] at f
  rw [List.any_cons,List.any_cons,zjb r f.1,qD t f.2]
theorem jR{A:Around}{s:Shared}{x:V}{v:Value}(rx:RelV x v)(fx:u7 x=true):∀ {xs:List V} {us:List Value},Vals xs us->xs.all u7=true->∀ u ∈ us,SeqAt.EqAt A s u v (eqU x u)
 | _,_,.nil,_=>fun u hu=>by cases hu
 | y::xs,u::us,.cons r t,f=>fun u' hu=>by
  rw [List.all_cons,Bool.and_eq_true] at f
  rcases List.mem_cons.mp hu with rfl | hu
  ·rw [zjb r f.1];exact zmr r rx f.1 fx
  ·exact jR rx fx t f.2 u' hu
noncomputable def inV(x:V)(xs:List V):Bool:=xs.any fun y=>eqV y x
noncomputable def rIn(K:PySem.W.Frag)(neg:Bool):R2:=fun x y H Q=>∃ p xs,y=.ref p/\(SqL K H p xs∨SqT K H p xs)/\u7 x=true/\xs.all u7=true/\Q (.bl (if neg then !inV x xs else inV x xs)) H
theorem zgP:OpR X (compareOp .In) (rIn X.K false):=by
 intro pins s σ H x y v u Q I rx ry h
 obtain ⟨p,xs,rfl,hq,fx,fs,q⟩:=h
 cases ry
 rcases hq with hq | hq
 ·obtain ⟨its,r,pl,hz⟩:=I.list hq
  refine SeqAt.in_listAt (eqU x) pl.isList (fun w hw=>jR rx fx r fs w (by simpa using hw)) ⟨.bl _,H,I,rfl,?_⟩
  rw [show its.toArray.any (eqU x)=its.any (eqU x) by simp,qD r fs]
  exact q
 ·obtain ⟨its,r,pl,hz⟩:=I.tuple hq
  refine SeqAt.in_tupleAt (eqU x) pl (fun w hw=>jR rx fx r fs w (by simpa using hw)) ⟨.bl _,H,I,rfl,?_⟩
  rw [show its.toArray.any (eqU x)=its.any (eqU x) by simp,qD r fs]
  exact q
theorem zcR:OpR X (compareOp .NotIn) (rIn X.K true):=by
 intro pins s σ H x y v u Q I rx ry h
 obtain ⟨p,xs,rfl,hq,fx,fs,q⟩:=h
 cases ry
 rcases hq with hq | hq
 ·obtain ⟨its,r,pl,hz⟩:=I.list hq
  refine SeqAt.notIn_listAt (eqU x) pl.isList (fun w hw=>jR rx fx r fs w (by simpa using hw)) ⟨.bl _,H,I,rfl,?_⟩
  rw [show its.toArray.any (eqU x)=its.any (eqU x) by simp,qD r fs]
  exact q
 ·obtain ⟨its,r,pl,hz⟩:=I.tuple hq
  refine SeqAt.notIn_tupleAt (eqU x) pl (fun w hw=>jR rx fx r fs w (by simpa using hw)) ⟨.bl _,H,I,rfl,?_⟩
  rw [show its.toArray.any (eqU x)=its.any (eqU x) by simp,qD r fs]
  exact q
theorem call_len_seq:CallR X (.builtin "len") (fun xs H Q=>∃ p ys,xs=[.ref p]/\(SqL X.K H p ys∨SqT X.K H p ys)/\Q (.int ys.length) H):=by
 intro pins s σ H xs us Q I r h
 obtain ⟨p,ys,rfl,hq,q⟩:=h
 obtain ⟨u,rfl,rx⟩:=zbX r
 cases rx
 have hn:=kD
 rcases hq with hq | hq
 ·obtain ⟨its,r',pl,hz⟩:=I.list hq
  have hlen:=r'.length
  exact Calls.call_len_list pl.isList (by simp only [List.size_toArray]<;>omega) ⟨.int ys.length,H,I.tok _,⟨s.toks+1,by rw [List.size_toArray,hlen]⟩,q⟩
 ·obtain ⟨its,r',pl,hz⟩:=I.tuple hq
  have hlen:=r'.length
  exact len_tuple pl (by simp only [List.size_toArray]<;>omega) ⟨.int ys.length,H,I.tok _,⟨s.toks+1,by rw [List.size_toArray,hlen]⟩,q⟩
theorem zdo:CallR X (.builtin "len") (fun xs H Q=>∃ z,xs=[.str z]/\z.length≤sizeLine/\Q (.int z.length) H):=by
 intro pins s σ H xs us Q I r h
 obtain ⟨z,rfl,hz,q⟩:=h
 obtain ⟨u,rfl,t,rfl⟩:=zbX r
 have hn:=kD
 exact len_str (by omega) ⟨.int z.length,H,I.tok _,⟨_,rfl⟩,q⟩
theorem CallR.or{f:Value}{r r':List V->Hp->VK->Prop}(h:CallR X f r)(h':CallR X f r'):CallR X f (fun xs H Q=>r xs H Q∨r' xs H Q):=by
 intro pins s σ H xs us Q I rs q
 rcases q with q | q
 ·exact h pins s σ H xs us Q I rs q
 ·exact h' pins s σ H xs us Q I rs q
theorem call_list_of:CallR X (.type "list") (fun xs H Q=>∃ p ys,xs=[.ref p]/\(SqL X.K H p ys∨SqT X.K H p ys)/\∀ l,H l=none->Q (.ref l) (upd H l (.lst ys))):=by
 intro pins s σ H xs us Q I r h
 obtain ⟨p,ys,rfl,hq,q⟩:=h
 obtain ⟨u,rfl,rx⟩:=zbX r
 cases rx
 have fin:∀ (its:List Value),Vals ys its->ys.length≤sizeLine->∀ (h':Heap) (c':Nat),(∀ b o',s.heap.get? b=some o'->h'.get? b=some o')->
   h'.get? s.heap.objs.size=some { cls:=.type "list",dict:=none,data:=.seq its.toArray c',slots:=#[] }->EP X pins σ Q (.ref s.heap.objs.size) { s with heap:=h' }:=fun its r' hz h' c' kp e=>
  ⟨.ref s.heap.objs.size,_,I.laid (t':=s.toks) kp (Nat.le_refl _) (show ObjOk X.prog X.w _ h' _ (.lst ys) from ⟨hz,its,c',r',e⟩),rfl,q _ (I.hok.fresh (Nat.le_refl _))⟩
 rcases hq with hq | hq
 ·obtain ⟨its,r',pl,hz⟩:=I.list hq
  have hlen:=r'.length
  obtain ⟨o,ho,hc,n,hd⟩:=pl.isList
  exact call_list_seq p (.inl rfl) ho hc hd (fun h' c' kp e=>fin its r' hz h' c' kp e) (by simp only [List.size_toArray]<;>omega)
 ·obtain ⟨its,r',pl,hz⟩:=I.tuple hq
  have hlen:=r'.length
  obtain ⟨o,ho,hc,n,hd⟩:=pl
  exact call_list_seq p (.inr rfl) ho hc hd (fun h' c' kp e=>fin its r' hz h' c' kp e) (by simp only [List.size_toArray]<;>omega)
theorem uB:CallR X (.type "tuple") (fun xs H Q=>∃ p ys,xs=[.ref p]/\((SqL X.K H p ys/\∀ l,H l=none->Q (.ref l) (upd H l (.tup ys)))∨(SqT X.K H p ys/\Q (.ref p) H))):=by
 intro pins s σ H xs us Q I r h
 obtain ⟨p,ys,rfl,h⟩:=h
 obtain ⟨u,rfl,rx⟩:=zbX r
 cases rx
 rcases h with ⟨hq,q⟩ | ⟨hq,q⟩
 ·obtain ⟨its,r',pl,hz⟩:=I.list hq
  have hlen:=r'.length
  refine call_tuple_list pl.isList (fun h' kp=>?_) (by simp only [List.size_toArray]<;>omega)
  have I1:Inv X pins σ H { s with heap:=h' }:=I.kept (t':=s.toks) kp
  have I2:Inv X pins σ (upd H h'.objs.size (.tup ys)) { s with heap:=h'.push { cls:=.type "tuple",data:=.seq its.toArray } }:=
   I1.laid (t':=s.toks) (fun b o e=>Heap.get?_push_of_some _ e) (Nat.le_refl _) (show ObjOk X.prog X.w _ _ _ (.tup ys) from ⟨hz,its,r',IsTup.new _ _⟩)
  exact ⟨.ref h'.objs.size,_,I2,rfl,q _ (I1.hok.fresh (Nat.le_refl _))⟩
 ·obtain ⟨its,r',pl,hz⟩:=I.tuple hq
  exact call_tuple_same pl ⟨.ref p,H,I,rfl,q⟩
noncomputable def tyV(K:PySem.W.Frag)(T:String)(x:V)(H:Hp):Prop:=match x with
 | .str _=>T="str"
 | .int _=>T="int"
 | .ref p=>(T="list"/\∃ xs,SqL K H p xs)∨(T="tuple"/\∃ o,K.lookup p=some o/\o.cls=.type "tuple"/\o.dict=none)∨
   (T="dict"/\((∃ kvs,H p=some (.dK kvs))∨∃ kvs,H p=some (.dT kvs)))∨(T="set"/\∃ S n,H p=some (.set S n))
 | _=>False
theorem zhE{pins:List (Addr × Obj)}{σ:St}{H:Hp}{s:Shared}{T:String}{x:V}{v:Value}(I:Inv X pins σ H s)(r:RelV x v)(ty:tyV X.K T x H):
  s.TypeIs v T/\∀ a,v=.ref a->∃ ob,s.heap.get? a=some ob/\ob.dict=none:=by
 cases x with
 | str z=>
  obtain ⟨t,rfl⟩:=r
  cases (show T="str" from ty)
  exact ⟨typeIs_str s z t,fun _ e=>nomatch e⟩
 | int i=>
  obtain ⟨t,rfl⟩:=r
  cases (show T="int" from ty)
  exact ⟨typeIs_int s i t,fun _ e=>nomatch e⟩
 | ref p=>
  cases r
  rcases ty with ⟨rfl,xs,hq⟩ | ⟨rfl,o,hk,hc,hd⟩ | ⟨rfl,hk⟩ | ⟨rfl,S,n,hk⟩
  ·obtain ⟨its,_,pl,_⟩:=I.list hq
   refine ⟨pl.isList.typeIs,fun a e=>?_⟩
   cases e
   obtain ⟨o,n,e,c,hd,_⟩:=pl
   exact ⟨o,e,hd⟩
  ·refine ⟨⟨o,I.kIn p o hk,hc⟩,fun a e=>?_⟩
   cases e
   exact ⟨o,I.kIn _ o hk,hd⟩
  ·have z:∃ o,s.heap.get? p=some o/\o.ExactDict:=by
    rcases hk with ⟨kvs,hk⟩ | ⟨kvs,hk⟩
    ·obtain ⟨_,_,_,_,o,_,_,e,ex,_⟩:=I.hok p _ hk
     exact ⟨o,e,ex⟩
    ·obtain ⟨_,_,_,_,o,_,_,e,ex,_⟩:=I.hok p _ hk
     exact ⟨o,e,ex⟩
   obtain ⟨o,e,ex⟩:=z
   refine ⟨⟨o,e,ex.1⟩,fun a e2=>?_⟩
   cases e2
   exact ⟨o,e,ex.2.1⟩
  ·obtain ⟨o,_,_,_,e,ex,_⟩:=I.hok p _ hk
   refine ⟨⟨o,e,ex.1⟩,fun a e2=>?_⟩
   cases e2
   exact ⟨o,e,ex.2.1⟩
 | _=>exact False.elim ty
noncomputable def zmS(K:PySem.W.Frag)(T:String)(r:V->List V->Hp->VK->Prop)(to:TE):TE:=fun σ H Q=>to σ H fun x H1=>tyV K T x H1/\r x [] H1 Q
noncomputable def tBM(K:PySem.W.Frag)(T:String)(r:V->List V->Hp->VK->Prop)(to:TE)(t:TA):TE:=fun σ H Q=>to σ H fun x H1=>tyV K T x H1/\t σ H1 fun xs H2=>r x xs H2 Q
variable {o e:Expr} {es:List Expr} {to:TE} {t:TA} {name:Str} {apos cpos:Pos} {T id:String} {r:V->List V->Hp->VK->Prop}
theorem zlR(pa:PlainAttrs T)(slot:Slot T name id)(hty:typeOf (.builtin id)=pure (.type "method_descriptor"))(hm:MtR X id r)(ho:PE X o to)
  (hbase:attributeBase o name X.env (eval o X.env)=eval o X.env:=by rfl)(hline:(apos.endLine == cpos.line)=true:=by rfl):PE X (.Call (.Attribute o name apos) [] [] cpos) (zmS X.K T r to):=by
 intro pins s σ H Q I h
 refine wpAny_Call_method0_late hbase hline (thn (ho pins s σ H _ I h) fun v s1 hq_=>?_)
 obtain ⟨x,H1,I1,r1,ty,q1⟩:=hq_
 obtain ⟨h1,h2⟩:=zhE I1 r1 ty
 exact ⟨T,id,pa,slot,hty,h1,h2,Calls.callWith_builtin rfl (PySem.evalArgs_none (hm pins s1 σ H1 x [] v [] Q I1 r1 .nil q1))⟩
theorem xa(pa:PlainAttrs T)(slot:Slot T name id)(hty:typeOf (.builtin id)=pure (.type "method_descriptor"))(hm:MtR X id r)(ho:PE X o to)(ha:PA X (e::es) t)
  (hbase:attributeBase o name X.env (eval o X.env)=eval o X.env:=by rfl)
  (hfew:((backTo cpos (starEach (e::es) X.env)).all (fun x=>!x.1) && (backToKw cpos (keywordEach [] X.env)).all (fun x=>x.1.isSome)
   && decide ((e::es).length+([]:List Keyword).length+(if ([]:List Keyword).isEmpty then 0 else 1)<30))=true:=by rfl)
  (hline:(apos.endLine == cpos.line)=true:=by rfl)(hs:starEach (e::es) X.env=(false,eval e X.env)::starEach es X.env:=by rfl)(hplain:(backTo cpos (starEach es X.env)).any (·.1)=false:=by rfl):
  PE X (.Call (.Attribute o name apos) (e::es) [] cpos) (tBM X.K T r to t):=by
 intro pins s σ H Q I h
 refine wpAny_Call_method_late hbase hfew hline rfl (thn (ho pins s σ H _ I h) fun v s1 hq_=>?_)
 obtain ⟨x,H1,I1,r1,ty,q1⟩:=hq_
 obtain ⟨h1,h2⟩:=zhE I1 r1 ty
 refine ⟨T,id,pa,slot,hty,h1,h2,?_⟩
 have hA:=ha cpos pins s1 σ H1 _ I1 q1
 rw [hs] at hA ⊢
 refine Calls.callWith_builtin (by show (false || (backTo cpos (starEach es X.env)).any (·.1))=false;rw [hplain]<;>rfl) (Calls.evalArgs_plain ?_)
 exact thn hA fun us s2 ⟨vs,H2,I2,r2,q2⟩=>hm pins s2 σ H2 x vs v us Q I2 r1 r2 q2
end
noncomputable def MtM(X:Cx)(id:String)(r:V->List V->Hp->VK->Prop):Prop:=
 ∀ (pins:List (Addr × Obj)) (s:Shared) (σ:St) (H:Hp) (x:V) (xs:List V) (v:Value) (us:List Value) (Q:VK),Inv X pins σ H s->RelV x v->Vals xs us->r x xs H Q->
  wpAny (model X.prog X.w) X.A (call (.builtin id) (v::us)) (EP X pins σ Q) X.xe s
theorem Vals.one{x:V}{us:List Value}(h:Vals [x] us):∃ u,us=[u]/\RelV x u:=by
 cases h with | cons r t=>cases t;exact ⟨_,rfl,r⟩
theorem Vals.zero:∀ {us:List Value},Vals [] us->us=[]
 | _,.nil=>rfl
theorem Vals.dropLast{xs:List V}{us:List Value}(h:Vals xs us):Vals xs.dropLast us.dropLast:=by
 induction h with
 | nil=>exact .nil
 | cons r t ih=>
  cases t with
  | nil=>exact .nil
  | cons q t'=>exact .cons r ih
theorem Vals.eraseIdx:∀ {xs:List V} {us:List Value} (i:Nat),Vals xs us->Vals (xs.eraseIdx i) (us.eraseIdx i)
 | _,_,_,.nil=>.nil
 | _,_,0,.cons _ t=>t
 | _,_,i+1,.cons r t=>.cons r (Vals.eraseIdx i t)
theorem Vals.rep{xs:List V}{us:List Value}(h:Vals xs us):∀ k:Nat,Vals (List.replicate k xs).flatten (List.replicate k us).flatten
 | 0=>.nil
 | k+1=>by
  rw [List.replicate_succ,List.replicate_succ,List.flatten_cons,List.flatten_cons]
  exact Vals.append h (Vals.rep h k)
theorem zfg{α:Type}(l:List α):l.eraseIdx (l.length - 1)=l.dropLast:=List.eraseIdx_length_sub_one
theorem zcq{α:Type}:∀ (l:List α) (i:Nat),(l.eraseIdx i).length≤l.length
 | [],_=>Nat.le_refl _
 | _::_,0=>Nat.le_succ _
 | _::r,i+1=>Nat.succ_le_succ (zcq r i)
theorem zct(its:List Value):∀ (k:Nat) (acc:List Value),
  List.foldl (fun x1 x2=>x1++x2) acc.toArray (List.replicate k its.toArray)=(acc++(List.replicate k its).flatten).toArray
 | 0,acc=>by simp
 | k+1,acc=>by
  have e:acc.toArray++its.toArray=(acc++its).toArray:=by simp
  have e2:(acc++its)++(List.replicate k its).flatten=acc++(List.replicate (k+1) its).flatten:=by
   rw [List.replicate_succ,List.flatten_cons,List.append_assoc]
  rw [← e2,← zct its k (acc++its),← e,List.replicate_succ,List.foldl_cons]
section
variable {X:Cx} {pins:List (Addr × Obj)} {σ:St} {H:Hp} {s:Shared} {l b:Addr} {xs ys zs:List V}
theorem Inv.lset{its its':List Value}{n:Nat}{f:Array Value->Array Value}{t':Nat}(I:Inv X pins σ H s)(hH:H l=some (.lst xs))
  (e:s.heap.get? l=some { cls:=.type "list",data:=.seq its.toArray n })(hf:f its.toArray=its'.toArray)(hv:Vals ys its')(hz:ys.length≤sizeLine):
  Inv X pins σ (upd H l (.lst ys)) { s with heap:=s.heap.update l (Obj.mapSeq f),toks:=t' }:=by
 have q:=PySem.IsL.update e f
 rw [hf] at q
 refine I.write (x:=l) (e:=l) (by rw [hH];exact trivial) (.inl rfl) (fun b' u hb hu=>(Heap.get?_update_other s.heap (Obj.mapSeq f) (Ne.symm hb)).trans hu) ⟨_,q⟩ ?_
 exact ⟨hz,its',_,hv,q⟩
theorem Inv.lnew{its:List Value}{t':Nat}(I:Inv X pins σ H s)(hv:Vals ys its)(hz:ys.length≤sizeLine):
  Inv X pins σ (upd H s.heap.objs.size (.lst ys)) { s with heap:=s.heap.push { cls:=.type "list",data:=.seq its.toArray },toks:=t' }:=
 I.laid (fun _ _ q=>Heap.get?_push_of_some _ q) (Nat.le_refl _) ⟨hz,its,0,hv,Heap.get?_push_size _ rfl⟩
theorem Inv.fresh(I:Inv X pins σ H s):H s.heap.objs.size=none:=I.hok.fresh (Nat.le_refl _)
theorem Inv.lstM(I:Inv X pins σ H s)(hH:H l=some (.lst xs)):xs.length≤sizeLine/\∃ (its:List Value) (n:Nat),Vals xs its/\xs.length=its.length/\s.heap.get? l=some { cls:=.type "list",data:=.seq its.toArray n }:=by
 obtain ⟨z,its,n,r,e⟩:=I.hok l _ hH
 exact ⟨z,its,n,r,r.length,e⟩
theorem zaQ{n:Nat}(h:n≤sizeLine):Builtin.List.listTooLong n=false:=by
 unfold Builtin.List.listTooLong
 exact decide_eq_false (by omega)
end
section
variable {X:Cx}
noncomputable def kd:V->List V->Hp->VK->Prop:=fun x vs H Q=>∃ l xs y,x=.ref l/\vs=[y]/\H l=some (.lst xs)/\xs.length<sizeLine/\Q .non (upd H l (.lst (xs++[y])))
theorem yB:MtM X "list.append" kd:=by
 intro pins s σ H x vs v us Q I rx rv h
 obtain ⟨l,xs,y,rfl,rfl,hH,hz,q⟩:=h
 cases rx
 obtain ⟨u,rfl,ru⟩:=rv.one
 obtain ⟨z,its,n,r,hl,e⟩:=I.lstM hH
 refine call_meets F.slot_list_append ⟨_,e,rfl⟩ F.entry_list_append (F.args_list_append_2 _ _) (PySem.list_append l its.toArray n u (by rw [List.size_toArray];omega)) ⟨e,?_⟩
 refine ⟨.non,_,I.lset (its':=its++[u]) hH e (by simp) (r.append (.cons ru .nil)) ?_,rfl,q⟩
 rw [List.length_append,List.length_singleton]
 omega
noncomputable def zcO:V->List V->Hp->VK->Prop:=fun x vs H Q=>∃ l b xs zs,x=.ref l/\vs=[.ref b]/\H l=some (.lst xs)/\H b=some (.lst zs)/\xs.length+zs.length≤sizeLine/\Q .non (upd H l (.lst (xs++zs)))
theorem mt_extend:MtM X "list.extend" zcO:=by
 intro pins s σ H x vs v us Q I rx rv h
 obtain ⟨l,b,xs,zs,rfl,rfl,hH,hB,hz,q⟩:=h
 cases rx
 obtain ⟨u,rfl,ru⟩:=rv.one
 cases ru
 obtain ⟨z,its,n,r,hl,e⟩:=I.lstM hH
 obtain ⟨z2,its2,n2,r2,hl2,e2⟩:=I.lstM hB
 have hsz:its.toArray.size+its2.toArray.size≤sizeLine:=by rw [List.size_toArray,List.size_toArray];omega
 have hlong:¬ (!its.toArray.isEmpty && Builtin.List.listTooLong (its.toArray.size+its2.toArray.size))=true:=by
  rw [zaQ hsz,Bool.and_false]
  exact Bool.false_ne_true
 refine call_meets F.slot_list_extend ⟨_,e,rfl⟩ F.entry_list_extend (F.args_list_extend_2 _ _)
  (AutoSeq1.list_extend_list_list_0 l its.toArray n b its2.toArray n2 hlong (by rw [List.size_toArray];omega) (by omega)) ⟨e,e2,?_⟩
 refine ⟨.non,_,I.lset (its':=its++its2) hH e (by simp) (r.append r2) ?_,rfl,q⟩
 rw [List.length_append]
 omega
noncomputable def znb:V->List V->Hp->VK->Prop:=fun x vs H Q=>∃ l xs y,x=.ref l/\vs=[]/\H l=some (.lst xs)/\xs[xs.length - 1]?=some y/\Q y (upd H l (.lst xs.dropLast))
theorem zlX:MtM X "list.pop" znb:=by
 intro pins s σ H x vs v us Q I rx rv h
 obtain ⟨l,xs,y,rfl,rfl,hH,hy,q⟩:=h
 cases rx
 have hus:=rv.zero
 subst hus
 obtain ⟨z,its,n,r,hl,e⟩:=I.lstM hH
 obtain ⟨u,hu,ru⟩:=r.get hy
 have hy':its.toArray[its.toArray.size - 1]?=some u:=by
  show its.toArray[its.length - 1]?=some u
  rw [← Array.getElem?_toList,← hl]
  exact hu
 refine call_meets F.slot_list_pop ⟨_,e,rfl⟩ F.entry_list_pop (F.args_list_pop_1 _) (MeetsSeq.list_pop_last l its.toArray n u hy' (by rw [List.size_toArray];omega)) ⟨e,?_⟩
 refine ⟨y,_,I.lset (its':=its.dropLast) hH e ?_ r.dropLast ?_,ru,q⟩
 ·show its.toArray.eraseIdxIfInBounds (its.toArray.size - 1)=its.dropLast.toArray
  rw [List.size_toArray,List.eraseIdxIfInBounds_toArray,zfg]
 ·rw [List.length_dropLast]
  omega
noncomputable def zeI:V->List V->Hp->VK->Prop:=fun x vs H Q=>∃ l xs i k y,x=.ref l/\vs=[.int i]/\H l=some (.lst xs)/\-(2 ^ 63)≤i/\i<2 ^ 63/\seqIndex? i xs.length=some k/\xs[k]?=some y/\Q y (upd H l (.lst (xs.eraseIdx k)))
theorem zdZ:MtM X "list.pop" zeI:=by
 intro pins s σ H x vs v us Q I rx rv h
 obtain ⟨l,xs,i,k,y,rfl,rfl,hH,h1,h2,hk,hy,q⟩:=h
 cases rx
 obtain ⟨u,rfl,ru⟩:=rv.one
 obtain ⟨t,rfl⟩:=ru
 obtain ⟨z,its,n,r,hl,e⟩:=I.lstM hH
 obtain ⟨w,hw,rw'⟩:=r.get hy
 refine call_meets F.slot_list_pop ⟨_,e,rfl⟩ F.entry_list_pop (F.args_list_pop_2 _ _)
  (MeetsSeq.list_pop_at l its.toArray n i t k w (fitsIndex_both h1 h2) (by rw [List.size_toArray,← hl];exact hk) (by rw [← Array.getElem?_toList];exact hw) (by rw [List.size_toArray];omega)) ⟨e,?_⟩
 refine ⟨y,_,I.lset (its':=its.eraseIdx k) hH e ?_ (r.eraseIdx k) ?_,rw',q⟩
 ·show its.toArray.eraseIdxIfInBounds k=(its.eraseIdx k).toArray
  rw [List.eraseIdxIfInBounds_toArray]
 ·have:=zcq xs k
  omega
noncomputable def zlz:R2:=fun x y H Q=>∃ l b xs zs,x=.ref l/\y=.ref b/\H l=some (.lst xs)/\H b=some (.lst zs)/\xs.length+zs.length≤sizeLine/\∀ p,H p=none->Q (.ref p) (upd H p (.lst (xs++zs)))
theorem op_cat:OpR X (binaryOp .Add) zlz:=by
 intro pins s σ H x y v u Q I rx ry h
 obtain ⟨l,b,xs,zs,rfl,rfl,hH,hB,hz,q⟩:=h
 cases rx
 cases ry
 obtain ⟨z,its,n,r,hl,e⟩:=I.lstM hH
 obtain ⟨z2,its2,n2,r2,hl2,e2⟩:=I.lstM hB
 refine PySem.P.add_list e e2 ?_ (by rw [List.size_toArray,List.size_toArray];omega)
 have ea:its.toArray++its2.toArray=(its++its2).toArray:=by simp
 rw [ea]
 exact ⟨.ref _,_,I.lnew (t':=s.toks) (r.append r2) (by rw [List.length_append];omega),rfl,q _ I.fresh⟩
noncomputable def zlx:R2:=fun x y H Q=>∃ l k xs,x=.ref l/\y=.int k/\H l=some (.lst xs)/\-(2 ^ 63)≤k/\k<2 ^ 63/\xs.length * k.toNat≤sizeLine/\
 ∀ p,H p=none->Q (.ref p) (upd H p (.lst (List.replicate k.toNat xs).flatten))
theorem zks{α:Type}(xs:List α)(k:Nat):(List.replicate k xs).flatten.length=k * xs.length:=by
 induction k with
 | zero=>simp
 | succ k ih=>rw [List.replicate_succ,List.flatten_cons,List.length_append,ih,Nat.succ_mul,Nat.add_comm]
theorem zlT:OpR X (binaryOp .Mult) zlx:=by
 intro pins s σ H x y v u Q I rx ry h
 obtain ⟨l,k,xs,rfl,rfl,hH,h1,h2,hz,q⟩:=h
 cases rx
 obtain ⟨t,rfl⟩:=ry
 obtain ⟨z,its,n,r,hl,e⟩:=I.lstM hH
 have hlen:its.toArray.size * k.toNat≤sizeLine:=by rw [List.size_toArray,← hl];exact hz
 have hcap:¬ its.toArray.size * k.toNat > (2 ^ 63 - 1) / 8:=by
  have:(sizeLine:Nat)≤(2 ^ 63 - 1) / 8:=by decide
  omega
 have hfit:¬ (!Builtin.List.listFitsIndex k)=true:=by
  rw [fitsIndex_both h1 h2]
  exact Bool.false_ne_true
 have hlong:¬ Builtin.List.listTooLong (its.toArray.size * k.toNat)=true:=by
  rw [zaQ hlen]
  exact Bool.false_ne_true
 have hnew:List.foldl (fun x1 x2=>x1++x2) #[] (List.replicate (if its.toArray.isEmpty=true then 0 else k.toNat) its.toArray)=(List.replicate k.toNat its).flatten.toArray:=by
  have f0:∀ m:Nat,List.foldl (fun x1 x2=>x1++x2) #[] (List.replicate m its.toArray)=(List.replicate m its).flatten.toArray:=fun m=>by
   have:=zct its m []
   rw [List.nil_append] at this
   exact this
  rw [f0]
  cases its with
  | nil=>simp
  | cons a r'=>rw [if_neg (by simp)]
 refine wpAny_binaryOp_repeat_ref (T:="list") (U:="int") (by decide) ⟨_,e,rfl⟩ (fun s'=>typeIs_int s' k t) noFill_list_mul F.fills_int_mul F.slot_int_rmul repeat_list F.slot_int_index.lookup
  (call_meets F.slot_int_rmul (typeIs_int s k t) F.entry_int_rmul (F.args_int_rmul_2 _ _) (int___rmul___int_list k t l its.toArray n)
   ⟨e,rfl,⟨_,e,rfl⟩,call_meets F.slot_list_mul ⟨_,e,rfl⟩ F.entry_list_mul (F.args_list_mul_2 _ _) (AutoListH.list___mul___list_int_3 l its.toArray n k t hfit hcap hlong) ⟨e,?_⟩⟩)
 rw [hnew]
 exact ⟨.ref _,_,I.lnew (t':=s.toks) (r.rep k.toNat) (by rw [zks,Nat.mul_comm];exact hz),rfl,q _ I.fresh⟩
end
section
variable {κ:Type} [DecidableEq κ]
noncomputable def wU(kvs:List (κ × V))(k:κ):Option V:=(kvs.find? fun kv=>decide (kv.1=k)).map (·.2)
noncomputable def wA(kvs:List (κ × V))(k:κ)(v:V):List (κ × V):=
 if (kvs.any fun kv=>decide (kv.1=k))=true then kvs.map (fun kv=>if kv.1=k then (kv.1,v) else kv) else kvs++[(k,v)]
noncomputable def zoQ(kvs:List (κ × V))(k:κ):List (κ × V):=kvs.filter fun kv=>decide (kv.1≠k)
theorem kT{p:κ × V}{r:List (κ × V)}{k:κ}(e:p.1=k):wU (p::r) k=some p.2:=by simp [wU,List.find?_cons,e]
theorem zar{p:κ × V}{r:List (κ × V)}{k:κ}(e:¬ p.1=k):wU (p::r) k=wU r k:=by simp [wU,List.find?_cons,e]
theorem kU(k:κ):∀ kvs:List (κ × V),(kvs.any fun kv=>decide (kv.1=k))=(wU kvs k).isSome
 | []=>rfl
 | p::r=>by
  rw [List.any_cons]
  by_cases e:p.1=k
  ·simp only [kT e,decide_eq_true e,Bool.true_or,Option.isSome_some]
  ·rw [zar e,decide_eq_false e,Bool.false_or];exact kU k r
theorem vV(kvs:List (κ × V))(k:κ)(v:V):(wA kvs k v).length≤kvs.length+1:=by
 unfold wA
 split
 ·rw [List.length_map];omega
 ·rw [List.length_append,List.length_cons,List.length_nil];omega
theorem RelO.isSome_eq{o:Option V}{u:Option Value}(r:RelO o u):o.isSome=u.isSome:=by
 cases o with
 | none=>cases u with
  | none=>rfl
  | some _=>exact (show False from r).elim
 | some _=>cases u with
  | none=>exact (show False from r).elim
  | some _=>rfl
theorem RelO.getD{o:Option V}{u:Option Value}{d:V}{d':Value}(r:RelO o u)(rd:RelV d d'):RelV (o.getD d) (u.getD d'):=by
 cases o with
 | none=>cases u with
  | none=>exact rd
  | some _=>exact (show False from r).elim
 | some _=>cases u with
  | none=>exact (show False from r).elim
  | some _=>exact r
theorem KV.val{kvs:List (κ × V)}{vs:List (κ × Value)}(r:KV kvs vs)(k:κ):RelO (wU kvs k) (valueAt vs k):=by
 unfold KV at r
 induction r with
 | nil=>exact True.intro
 | @cons p q ps qs h t ih=>
  obtain ⟨h1,h2⟩:=h
  by_cases e:p.1=k
  ·have e':q.1=k:=h1.symm.trans e
   have b:valueAt (q::qs) k=some q.2:=by simp [valueAt,List.find?_cons,e']
   rw [kT e,b];exact h2
  ·have e':¬ q.1=k:=fun z=>e (h1.trans z)
   have b:valueAt (q::qs) k=valueAt qs k:=by simp [valueAt,List.find?_cons,e']
   rw [zar e,b];exact ih
theorem KV.any{kvs:List (κ × V)}{vs:List (κ × Value)}(r:KV kvs vs)(k:κ):(kvs.any fun kv=>decide (kv.1=k))=vs.any fun kv=>decide (kv.1=k):=by
 unfold KV at r
 induction r with
 | nil=>rfl
 | cons h t ih=>rw [List.any_cons,List.any_cons,ih,h.1]
theorem KV.repl{kvs:List (κ × V)}{vs:List (κ × Value)}(r:KV kvs vs)(k:κ){y:V}{u:Value}(ry:RelV y u):
  KV (kvs.map fun kv=>if kv.1=k then (kv.1,y) else kv) (vs.map fun kv=>if kv.1=k then (kv.1,u) else kv):=by
 unfold KV at r ⊢
 induction r with
 | nil=>exact .nil
 | @cons p q ps qs h t ih=>
  rw [List.map_cons,List.map_cons]
  refine .cons ?_ ih
  obtain ⟨h1,h2⟩:=h
  by_cases e:p.1=k
  ·rw [if_pos e,if_pos (h1.symm.trans e)];exact ⟨h1,ry⟩
  ·rw [if_neg e,if_neg (fun z=>e (h1.trans z))];exact ⟨h1,h2⟩
theorem KV.put{kvs:List (κ × V)}{vs:List (κ × Value)}(r:KV kvs vs)(k:κ){y:V}{u:Value}(ry:RelV y u):KV (wA kvs k y) (stored vs k u):=by
 unfold wA stored
 rw [r.any k]
 by_cases e:(vs.any fun kv=>decide (kv.1=k))=true
 ·rw [if_pos e,if_pos e];exact r.repl k ry
 ·rw [if_neg e,if_neg e];exact Paired.snoc r ⟨rfl,ry⟩
theorem KV.length{kvs:List (κ × V)}{vs:List (κ × Value)}(r:KV kvs vs):kvs.length=vs.length:=Paired.length r
end
theorem kt{P:Program}{w:World}{k:Key}{u:Value}(r:RelV (kV k) u):(zk P w).is k u=true:=by
 cases k with
 | inl i=>obtain ⟨t,e⟩:=(show ∃ t,u=Value.int i t from r);subst e;exact zeb P w i t
 | inr x=>obtain ⟨t,e⟩:=(show ∃ t,u=Value.str x t from r);subst e;exact zea P w x t
theorem zcs{P:Program}{w:World}:∀ {ks:List Key} {us:List Value},Vals (ks.map kV) us->ItemsAre (zk P w) ks us
 | [],_,r=>by rw [List.map_nil] at r;cases r;exact .nil
 | k::ks,_,r=>by
  rw [List.map_cons] at r
  cases r with
  | cons h t=>exact .cons (kt h) (zcs t)
noncomputable abbrev KT(H:Hp):List (List Key × V)->List (List Key × Addr × Value)->Prop:=Paired fun p q=>p.1=q.1/\H q.2.1=some (.tup (p.1.map kV))/\RelV p.2 q.2.2
theorem KT.val{H:Hp}{kvs:List (List Key × V)}{xs:List (List Key × Addr × Value)}(r:KT H kvs xs)(k:List Key):RelO (wU kvs k) ((atKey xs k).map (·.2)):=by
 induction r with
 | nil=>exact True.intro
 | @cons p q ps qs h t ih=>
  obtain ⟨h1,_,h2⟩:=h
  by_cases e:p.1=k
  ·have e':q.1=k:=h1.symm.trans e
   have b:atKey (q::qs) k=some q.2:=by simp [atKey,List.find?_cons,e']
   rw [kT e,b];exact h2
  ·have e':¬ q.1=k:=fun z=>e (h1.trans z)
   have b:atKey (q::qs) k=atKey qs k:=by simp [atKey,List.find?_cons,e']
   rw [zar e,b];exact ih
theorem KT.repl{H:Hp}{kvs:List (List Key × V)}{xs:List (List Key × Addr × Value)}(r:KT H kvs xs)(k:List Key){y:V}{u:Value}(ry:RelV y u):
  KT H (kvs.map fun kv=>if kv.1=k then (kv.1,y) else kv) (xs.map (putAt k u)):=by
 induction r with
 | nil=>exact .nil
 | @cons p q ps qs h t ih=>
  rw [List.map_cons,List.map_cons]
  refine .cons ?_ ih
  obtain ⟨h1,h2,h3⟩:=h
  unfold putAt
  by_cases e:p.1=k
  ·rw [if_pos e,if_pos (h1.symm.trans e)];exact ⟨h1,h2,ry⟩
  ·rw [if_neg e,if_neg (fun z=>e (h1.trans z))];exact ⟨h1,h2,h3⟩
theorem KT.put{H:Hp}{kvs:List (List Key × V)}{xs:List (List Key × Addr × Value)}(r:KT H kvs xs)(k:List Key){b:Addr}{y:V}{u:Value}(hb:H b=some (.tup (k.map kV)))(ry:RelV y u):
  KT H (wA kvs k y) (storedH xs k b u):=by
 have e:(kvs.any fun kv=>decide (kv.1=k))=(atKey xs k).isSome:=by
  rw [kU,(r.val k).isSome_eq,Option.isSome_map]
 unfold wA storedH
 rw [e]
 by_cases q:(atKey xs k).isSome=true
 ·rw [if_pos q,if_pos q];exact r.repl k ry
 ·rw [if_neg q,if_neg q];exact Paired.snoc r ⟨rfl,hb,ry⟩
theorem KT.keeps{H H':Hp}{kvs:List (List Key × V)}{xs:List (List Key × Addr × Value)}(r:KT H kvs xs)(ht:∀ b ys,H b=some (.tup ys)->H' b=some (.tup ys)):KT H' kvs xs:=
 Paired.mapP r fun _ _ z=>⟨z.1,ht _ _ z.2.1,z.2.2⟩
section
variable {P:Program} {w:World} {H:Hp} {h:Heap} {a:Addr}
theorem zkT{u:HO}(ok:HOk P w H h)(e:Rd H a u):ObjOk P w H h a u:=e.ok ok
theorem qw{kvs:List (Key × V)}(ok:HOk P w H h)(e:Rd H a (.dK kvs)):kvs.length≤sizeLine/\(a == sysModules)=false/\∃ vs,KV kvs vs/\h.DictOf (zk P w) a vs:=
 show ObjOk P w H h a (.dK kvs) from zkT ok e
theorem k9{kvs:List (Key × V)}(ok:HOk P w H h)(e:H a=some (.dK kvs)):kvs.length≤sizeLine/\(a == sysModules)=false/\∃ vs,KV kvs vs/\h.DictOf (zk P w) a vs:=qw ok (.inl e)
theorem qU{ks:List Key}(ok:HOk P w H h)(e:H a=some (.tup (ks.map kV))):(tupleKind (zk P w)).is h ks a:=by
 obtain ⟨_,its,r,o,h1,h2,n,h3⟩:=(show ObjOk P w H h a (.tup (ks.map kV)) from ok a _ e)
 exact ⟨o,its.toArray,n,h1,h2,h3,by simpa using zcs r⟩
theorem zbs{kvs:List (List Key × V)}(ok:HOk P w H h)(e:Rd H a (.dT kvs)):kvs.length≤sizeLine/\(a == sysModules)=false/\
  ∃ xs,KT H kvs xs/\h.DictOfH (tupleKind (zk P w)) a xs:=by
 obtain ⟨z,y,xs,r,o,es,ep,h1,h2,h3,h4,h5⟩:=(show ObjOk P w H h a (.dT kvs) from zkT ok e)
 refine ⟨z,y,xs,r,o,es,ep,h1,h2,h3,h4,fun x hx=>?_,h5⟩
 have all:∀ {l:List (List Key × V)} {m:List (List Key × Addr × Value)},KT H l m->∀ x ∈ m,(tupleKind (zk P w)).is h x.1 x.2.1:=by
  intro l m q
  induction q with
  | nil=>intro x hx;exact nomatch hx
  | @cons p q ps qs hq t ih=>
   intro x hx
   rcases List.mem_cons.mp hx with e | hx
   ·subst e
    exact qU ok (by rw [← hq.1];exact hq.2.1)
   ·exact ih x hx
 exact all r x hx
theorem znC{kvs:List (List Key × V)}(ok:HOk P w H h)(e:H a=some (.dT kvs)):kvs.length≤sizeLine/\(a == sysModules)=false/\
  ∃ xs,KT H kvs xs/\h.DictOfH (tupleKind (zk P w)) a xs:=zbs ok (.inl e)
end
noncomputable def DGet(H:Hp)(a:Addr)(y:V)(r:Option V):Prop:=
 (∃ kvs k,Rd H a (.dK kvs)/\y=kV k/\r=wU kvs k)∨∃ kvs k b,Rd H a (.dT kvs)/\y=.ref b/\H b=some (.tup (k.map kV))/\r=wU kvs k
noncomputable def DPut(H:Hp)(a:Addr)(y v:V)(H':Hp):Prop:=
 (∃ kvs k,H a=some (.dK kvs)/\y=kV k/\kvs.length<sizeLine/\H'=upd H a (.dK (wA kvs k v)))∨
 ∃ kvs k b,H a=some (.dT kvs)/\y=.ref b/\H b=some (.tup (k.map kV))/\kvs.length<sizeLine/\H'=upd H a (.dT (wA kvs k v))
theorem DGet.k{H:Hp}{a:Addr}{kvs:List (Key × V)}{k:Key}(e:H a=some (.dK kvs)):DGet H a (kV k) (wU kvs k):=.inl ⟨kvs,k,.inl e,rfl,rfl⟩
theorem DPut.k{H:Hp}{a:Addr}{kvs:List (Key × V)}{k:Key}{v:V}(e:H a=some (.dK kvs))(hl:kvs.length<sizeLine):DPut H a (kV k) v (upd H a (.dK (wA kvs k v))):=.inl ⟨kvs,k,e,rfl,hl,rfl⟩
section
variable {X:Cx} {pins:List (Addr × Obj)} {σ:St} {H:Hp} {s:Shared} {a:Addr} {y v:V} {u r:Value} {o:Option V} {A:Around} {E:Value->Shared->Prop}
theorem Inv.big(I:Inv X pins σ H s):sysModules<s.heap.objs.size:=by
 have h:mainGlobals<s.heap.objs.size:=(I.mod.glob.keeps I.bk).lt
 exact Nat.lt_trans (by decide) h
theorem zhj{Q:Value->Shared->Prop}(hu:A.units+1<cLine)(I:Inv X pins σ H s)(g:DGet H a y (some v))(ry:RelV y u)(h:∀ w' s',Inv X pins σ H s'->RelV v w'->Q w' s'):
  wpAny (model X.prog X.w) A (getItem (.ref a) u) Q E s:=by
 rcases g with ⟨kvs,k,e,ey,l⟩ | ⟨kvs,k,b,e,ey,eb,l⟩
 ·subst ey
  obtain ⟨z,hd,vs,rel,dd⟩:=qw I.hok e
  obtain ⟨w',hw,rw'⟩:=RelO.some_of (v:=v) (o:=valueAt vs k) (by rw [l];exact rel.val k)
  exact wpAny_getItem_of (kt ry) dd.mapOf hw (h w' _ (I.tok _) rw')
 ·subst ey
  cases (show u=Value.ref b from ry)
  obtain ⟨z,hd,xs,rel,dd⟩:=zbs I.hok e
  obtain ⟨w',hw,rw'⟩:=RelO.some_of (v:=v) (o:=(atKey xs k).map (·.2)) (by rw [l];exact rel.val k)
  obtain ⟨p,hp,hp2⟩:=Option.map_eq_some_iff.mp hw
  refine wpAny_getItem_heap (tupleKind_room_in1 hu) (qU I.hok eb) dd hp ?_
  rw [hp2]
  exact h w' _ (I.tok _) rw'
theorem zoA{Q:Value->Shared->Prop}(hu:A.units+1<cLine)(I:Inv X pins σ H s)(g:DGet H a y o)(ry:RelV y u)(h:∀ s',Inv X pins σ H s'->Q (.bool o.isSome) s'):
  wpAny (model X.prog X.w) A (compareOp .In u (.ref a)) Q E s:=by
 rcases g with ⟨kvs,k,e,ey,l⟩ | ⟨kvs,k,b,e,ey,eb,l⟩
 ·subst ey
  obtain ⟨z,hd,vs,rel,dd⟩:=qw I.hok e
  refine wpAny_in_of (kt ry) hd dd.mapOf ?_
  rw [← (rel.val k).isSome_eq,← l]
  exact h _ (I.tok _)
 ·subst ey
  cases (show u=Value.ref b from ry)
  obtain ⟨z,hd,xs,rel,dd⟩:=zbs I.hok e
  refine wpAny_in_heap (tupleKind_room_in1 hu) (qU I.hok eb) hd dd ?_
  have q:=(rel.val k).isSome_eq
  rw [Option.isSome_map] at q
  rw [← q,← l]
  exact h _ (I.tok _)
theorem zkI{Q:Value->Shared->Prop}(hu:A.units+1<cLine)(I:Inv X pins σ H s)(g:DGet H a y o)(ry:RelV y u)(h:∀ s',Inv X pins σ H s'->Q (.bool (!o.isSome)) s'):
  wpAny (model X.prog X.w) A (compareOp .NotIn u (.ref a)) Q E s:=by
 rcases g with ⟨kvs,k,e,ey,l⟩ | ⟨kvs,k,b,e,ey,eb,l⟩
 ·subst ey
  obtain ⟨z,hd,vs,rel,dd⟩:=qw I.hok e
  refine wpAny_notIn_of (kt ry) hd dd.mapOf ?_
  rw [← (rel.val k).isSome_eq,← l]
  exact h _ (I.tok _)
 ·subst ey
  cases (show u=Value.ref b from ry)
  obtain ⟨z,hd,xs,rel,dd⟩:=zbs I.hok e
  refine wpAny_notIn_heap (tupleKind_room_in1 hu) (qU I.hok eb) hd dd ?_
  have q:=(rel.val k).isSome_eq
  rw [Option.isSome_map] at q
  rw [← q,← l]
  exact h _ (I.tok _)
theorem qA{h':Heap}{t':Nat}{ob:HO}(I:Inv X pins σ H s)(mu:Mut (H a))(hs:Heap.SameBut a s.heap h')(he:∃ q,h'.get? a=some q)(new:ObjOk X.prog X.w (upd H a ob) h' a ob):
  Inv X pins σ (upd H a ob) { s with heap:=h',toks:=t' }:=
 I.write (x:=a) (e:=a) mu (.inl rfl) (fun b q hb z=>(hs.2 b hb).trans z) he new
theorem zbt{P:Program}{w:World}{H':Hp}{h':Heap}{kvs:List (Key × V)}{vs:List (Key × Value)}(z:kvs.length≤sizeLine)(hd:(a == sysModules)=false)(rel:KV kvs vs)(dd:h'.DictOf (zk P w) a vs):
  ObjOk P w H' h' a (.dK kvs):=⟨z,hd,vs,rel,dd⟩
theorem zhi{H':Hp}{Q:Unit->Shared->Prop}(hu:A.units+1<cLine)(I:Inv X pins σ H s)(g:DPut H a y v H')(ry:RelV y u)(rv:RelV v r)(h:∀ s',Inv X pins σ H' s'->Q () s'):
  wpAny (model X.prog X.w) A (setItem (.ref a) u r) Q E s:=by
 rcases g with ⟨kvs,k,e,ey,l,eH⟩ | ⟨kvs,k,b,e,ey,eb,l,eH⟩
 ·subst ey eH
  obtain ⟨z,hd,vs,rel,dd⟩:=k9 I.hok e
  have hz:vs.length≤sizeLine:=by rw [← rel.length];exact z
  have hl:(wA kvs k v).length≤sizeLine:=by have:=vV kvs k v;omega
  refine wpAny_setItem_pairs (hsz:=hz) (kt ry) dd fun h' dd' hs=>h _ ?_
  have he:∃ q,h'.get? a=some q:=let ⟨q,_,_,hq,_⟩:=dd';⟨q,hq⟩
  exact qA I (by rw [e];exact True.intro) hs he (zbt hl hd (rel.put k rv) dd')
 ·subst ey eH
  cases (show u=Value.ref b from ry)
  obtain ⟨z,hd,xs,rel,dd⟩:=znC I.hok e
  have hz:xs.length≤sizeLine:=by rw [← Paired.length rel];exact z
  have hl:(wA kvs k v).length≤sizeLine:=by have:=vV kvs k v;omega
  refine wpAny_setItem_heap (hsz:=hz) (tupleKind_room_in1 hu) (qU I.hok eb) dd fun h' dd' hs=>h _ ?_
  obtain ⟨q,es,ep,hq,h2,h3,h4,_,h5⟩:=dd'
  refine qA I (by rw [e];exact True.intro) hs ⟨q,hq⟩ ⟨hl,hd,_,(rel.put k eb rv).keeps fun c ys ec=>?_,q,es,ep,hq,h2,h3,h4,h5⟩
  rw [zd (znq ec e (fun z=>nomatch z))]
  exact ec
end
section
variable {X:Cx} {pins:List (Addr × Obj)} {σ:St} {H:Hp} {s:Shared} {a:Addr} {kvs:List (Key × V)} {k:Key} {u:Value} {A:Around} {E:Value->Shared->Prop}
theorem znF{Q:Value->Shared->Prop}(I:Inv X pins σ H s)(e:Rd H a (.dK kvs))(h:∀ t s',Inv X pins σ H s'->Q (.int kvs.length t) s'):wpAny (model X.prog X.w) A (call (.builtin "len") [.ref a]) Q E s:=by
 obtain ⟨z,hd,vs,rel,dd⟩:=qw I.hok e
 refine call_len_dict hd dd (by rw [← rel.length];rw [sizeLine_eq] at z;omega) ?_
 rw [← rel.length]
 exact h _ _ (I.tok _)
end
noncomputable def znM(i:Expr):Prop:=∀ ov iv,subscripted i false ov iv=operate [ov,iv] (getItem ov iv)
theorem zjE{prog:Program}{w:World}{A:Around}{E:Value->Shared->Prop}{s:Shared}{env:Env}{value slice:Expr}{pos:Pos}{T id:String}{Q:Value->Shared->Prop}
  (hl:typeLookup (.type T) "__getitem__"=pure (some (.builtin id)))(hs:znM slice)
  (h:wpAny (model prog w) A (eval value env) (fun o s₁=>wpAny (model prog w) A (eval slice env) (fun i s₂=>s₂.TypeIs o T/\wpAny (model prog w) A (getItem o i) Q E s₂) E s₁) E s):
  wpAny (model prog w) A (eval (.Subscript value slice pos) env) Q E s:=by
 refine Subscript_ (wpAny_mono h (fun o s₁ h₁=>wpAny_mono h₁ (fun i s₂ h₂=>?_) fun _ _ x=>x) fun _ _ x=>x)
 obtain ⟨hT,h₂⟩:=h₂
 unfold subscriptTail
 refine wpAny_bind ?_
 rw [getitemInPython_of_ne hT.not_modules]
 refine wpAny_bind (wpAny_specialOf hT hl ?_)
 have fin:wpAny (model prog w) A (subscripted slice false o i) (fun r s₃=>wpAny (model prog w) A (letTemporaryGo value o r >>= fun _=>pure r) Q E s₃) E s₂:=by
  rw [hs o i]
  exact wpAny_operating (wpAny_mono h₂ (fun r s₃ h₃=>wpAny_bind (wpAny_letTemporaryGo (wpAny_pure h₃))) fun _ _ x=>x)
 first
  | exact wpAny_pure (wpAny_bind fin)
  | exact wpAny_bind (wpAny_pure (wpAny_bind fin))
  | exact wpAny_bind fin
theorem zel{X:Cx}{pins:List (Addr × Obj)}{σ:St}{H:Hp}{s:Shared}{a:Addr}{y:V}{o:Option V}(I:Inv X pins σ H s)(g:DGet H a y o):s.TypeIs (.ref a) "dict":=by
 rcases g with ⟨kvs,k,e,_,_⟩ | ⟨kvs,k,b,e,_,_,_⟩
 ·obtain ⟨_,_,vs,_,dd⟩:=qw I.hok e
  exact dd.typeIs
 ·obtain ⟨_,_,xs,_,dd⟩:=zbs I.hok e
  exact dd.typeIs
noncomputable def zmR(td ty:TE):TE:=fun σ H Q=>td σ H fun x H1=>ty σ H1 fun y H2=>∃ a v,x=.ref a/\DGet H2 a y (some v)/\Q v H2
noncomputable def zfG(td ty tv:TE):TS:=fun D σ H=>tv σ H fun v H1=>td σ H1 fun x H2=>ty σ H2 fun y H3=>∃ a H4,x=.ref a/\DPut H3 a y v H4/\D.nx σ H4
section
variable {X:Cx} {o i e value:Expr} {pos pos' tpos:Pos} {td ty tv:TE}
theorem zkb(hu:X.A.units+1<cLine)(ho:PE X o td)(hi:PE X i ty)(hs:znM i):PE X (.Subscript o i pos) (zmR td ty):=by
 intro pins s σ H Q I h
 refine zjE PySem.F.slot_dict_getitem.lookup hs (thn (ho pins s σ H _ I h) fun u s1 ⟨x,H1,I1,rx,q1⟩=>thn (hi pins s1 σ H1 _ I1 q1) fun iv s2 ⟨y,H2,I2,ry,a,v,ex,g,q2⟩=>?_)
 subst ex
 obtain rfl:u=Value.ref a:=rx
 exact ⟨zel I2 g,zhj hu I2 g ry fun w' s3 I3 rw'=>⟨v,H2,I3,rw',q2⟩⟩
theorem uc(hu:X.A.units+1<cLine)(ho:PE X o td)(hi:PE X i ty)(hv:PE X value tv)(hs:swapsWith value (some (.Subscript o i pos')) pos.line X.env=pure false):
  PS X (.Assign [.Subscript o i pos'] value pos) (zfG td ty tv):=by
 intro pins s σ H D I h
 refine wpAny_Assign_Subscript (thn (hv pins s σ H _ I h) fun r s1 ⟨v,H1,I1,rv,q1⟩=>thn (ho pins s1 σ H1 _ I1 q1) fun u s2 ⟨x,H2,I2,rx,q2⟩=>thn (hi pins s2 σ H2 _ I2 q2) fun iv s3 ⟨y,H3,I3,ry,a,H4,ex,g,q3⟩=>?_) hs
 subst ex
 obtain rfl:u=Value.ref a:=rx
 exact zhi hu I3 g ry rv fun s4 I4=>⟨σ,H4,I4,q3⟩
end
theorem zek{P:Program}{w:World}{H:Hp}(h:Heap)(hb:sysModules<h.objs.size):ObjOk P w H (h.push { cls:=.type "dict",data:=.dict #[] }) h.objs.size (.dK []):=
 ⟨Nat.zero_le _,beq_eq_false_iff_ne.mpr (Ne.symm (Nat.ne_of_lt hb)),[],.nil,Heap.DictOf.new h⟩
noncomputable def zhH:TE:=fun _ H Q=>∀ p,H p=none->Q (.ref p) (upd H p (.dK []))
section
variable {X:Cx} {pos:Pos}
theorem uJ:PE X (.Dict [] [] pos) zhH:=fun pins s σ H Q I h=>
 wpAny_Dict_empty ⟨.ref s.heap.objs.size,_,I.laid (a:=s.heap.objs.size) (o:=.dK []) (t':=s.toks) (fun _ _ q=>Heap.get?_push_of_some _ q) (Nat.le_refl _) (zek s.heap I.big),rfl,h _ (I.hok.fresh (Nat.le_refl _))⟩
end
noncomputable def zeB:List (TE × TE)->St->Hp->(List (V × V)->Hp->Prop)->Prop
 | [],_,H,Q=>Q [] H
 | (tk,tv)::r,σ,H,Q=>tk σ H fun x H1=>tv σ H1 fun y H2=>zeB r σ H2 fun ps H3=>Q ((x,y)::ps) H3
noncomputable abbrev VV:List (V × V)->List (Value × Value)->Prop:=Paired fun p q=>RelV p.1 q.1/\RelV p.2 q.2
noncomputable def PPs(X:Cx)(pos:Pos)(keys:List (Option Expr))(values:List Expr)(trs:List (TE × TE)):Prop:=
 ∀ (pins:List (Addr × Obj)) (s:Shared) (σ:St) (H:Hp) (Q:List (V × V)->Hp->Prop),Inv X pins σ H s->zeB trs σ H Q->
  wpAny (model X.prog X.w) X.A (evalPairs (pairTrees keys values X.env pos)) (fun vs s'=>∃ ps H',Inv X pins σ H' s'/\VV ps vs/\Q ps H') X.xe s
theorem zjQ{X:Cx}{pos:Pos}:PPs X pos [] [] []:=fun pins s σ H Q I h=>pairTrees_nil_walk ⟨[],H,I,.nil,h⟩
theorem zhX{X:Cx}{pos:Pos}{k v:Expr}{ks:List (Option Expr)}{vs:List Expr}{tk tv:TE}{trs:List (TE × TE)}(hk:PE X k tk)(hv:PE X v tv)(hr:PPs X pos ks vs trs):
  PPs X pos (some k::ks) (v::vs) ((tk,tv)::trs):=fun pins s σ H Q I h=>
 pairTrees_cons_walk (thn (hk pins s σ H _ I h) fun u s1 ⟨x,H1,I1,rx,q1⟩=>thn (hv pins s1 σ H1 _ I1 q1) fun w2 s2 ⟨y,H2,I2,ry,q2⟩=>
  thn (hr pins s2 σ H2 _ I2 q2) fun ws s3 ⟨ps,H3,I3,rel,q3⟩=>⟨(x,y)::ps,H3,I3,.cons ⟨rx,ry⟩ rel,q3⟩)
noncomputable def wx(kvs more:List (Key × V)):List (Key × V):=more.foldl (fun acc kv=>wA acc kv.1 kv.2) kvs
theorem KV.merge:∀ {more:List (Key × V)} {rs:List (Key × Value)} {kvs:List (Key × V)} {vs:List (Key × Value)},KV more rs->KV kvs vs->KV (wx kvs more) (merged vs rs):=by
 intro more rs kvs vs r
 unfold KV at r
 induction r generalizing kvs vs with
 | nil=>intro q;exact q
 | @cons p q ps qs h t ih=>
  intro r0
  have e:KV (wA kvs p.1 p.2) (stored vs q.1 q.2):=by
   have:=r0.put p.1 h.2
   rw [← h.1];exact this
  exact ih e
theorem vv:∀ (more kvs:List (Key × V)),(wx kvs more).length≤kvs.length+more.length
 | [],kvs=>by show kvs.length≤kvs.length+0;omega
 | p::r,kvs=>by
  have h1:=vv r (wA kvs p.1 p.2)
  have h2:=vV kvs p.1 p.2
  show (wx (wA kvs p.1 p.2) r).length≤_
  rw [List.length_cons];omega
theorem zbD{P:Program}{w:World}:∀ {kvs:List (Key × V)} {ws:List (Value × Value)},VV (kvs.map fun kv=>(kV kv.1,kv.2)) ws->∃ rs,Carries (zk P w) ws rs/\KV kvs rs
 | [],_,r=>by rw [List.map_nil] at r;cases r;exact ⟨[],True.intro,.nil⟩
 | p::kvs,_,r=>by
  rw [List.map_cons] at r
  cases r with
  | @cons a b as bs h t=>
   obtain ⟨rs,c,q⟩:=zbD (P:=P) (w:=w) t
   obtain ⟨b1,b2⟩:=b
   exact ⟨(p.1,b2)::rs,⟨kt h.1,rfl,c⟩,.cons ⟨rfl,h.2⟩ q⟩
noncomputable def zmQ(trs:List (TE × TE)):TE:=fun σ H Q=>∀ p,H p=none->zeB trs σ (upd H p (.dK [])) fun ps H2=>H2 p=some (.dK [])/\∃ kvs:List (Key × V),ps=kvs.map (fun kv=>(kV kv.1,kv.2))/\kvs.length≤15/\Q (.ref p) (upd H2 p (.dK (wx [] kvs)))
theorem zka{X:Cx}{pos:Pos}{keys:List (Option Expr)}{values:List Expr}{trs:List (TE × TE)}(h:PPs X pos keys values trs)(hall:keys.all (·.isSome)=true)(hl:keys.length=values.length)(h0:keys≠[])
  (h15:keys.length≤15):PE X (.Dict keys values pos) (zmQ trs):=by
 intro pins s σ H Q I q
 have hn:=I.hok.fresh (Nat.le_refl s.heap.objs.size)
 have I1:=I.laid (a:=s.heap.objs.size) (o:=.dK []) (h':=s.heap.push { cls:=.type "dict",data:=.dict #[] }) (t':=s.toks) (fun _ _ q=>Heap.get?_push_of_some _ q) (Nat.le_refl _) (zek s.heap I.big)
 refine wpAny_Dict_walk (knd:=zk X.prog X.w) hall hl h0 h15 (thn (h pins _ σ _ _ I1 (q _ hn)) fun ws s2 hq_=>?_)
 obtain ⟨ps,H2,I2,rel,e,kvs,ep,lk,q2⟩:=hq_
 subst ep
 obtain ⟨rs,c,rk⟩:=zbD (P:=X.prog) (w:=X.w) rel
 obtain ⟨z,hd,vs0,r0,dd⟩:=k9 I2.hok e
 cases r0
 refine ⟨rs,c,dd,fun h' dd' hs=>⟨.ref s.heap.objs.size,_,?_,rfl,q2⟩⟩
 have hz:(wx [] kvs).length≤sizeLine:=by
  have h1:=vv kvs []
  rw [List.length_nil] at h1
  rw [sizeLine_eq];omega
 have he:∃ q,h'.get? s.heap.objs.size=some q:=let ⟨q,_,_,hq,_⟩:=dd';⟨q,hq⟩
 exact qA I2 (by rw [e];exact True.intro) hs he (zbt hz hd (rk.merge .nil) dd')
structure M1 (X:Cx) (o:Expr) (m:Str) (apos:Pos) (e:Expr) (cpos:Pos):Prop where
 base:attributeBase o m X.env (eval o X.env)=eval o X.env
 few:((backTo cpos (starEach [e] X.env)).all (fun x=>!x.1) && (backToKw cpos (keywordEach [] X.env)).all (fun x=>x.1.isSome)
  && decide (([e]:List Expr).length+([]:List Keyword).length+(if ([]:List Keyword).isEmpty then 0 else 1)<30))=true
 line:(apos.endLine == cpos.line)=true
 trees:backTo cpos (starEach [e] X.env)=[(false,eval e X.env)]
structure M2 (X:Cx) (o:Expr) (m:Str) (apos:Pos) (e f:Expr) (cpos:Pos):Prop where
 base:attributeBase o m X.env (eval o X.env)=eval o X.env
 few:((backTo cpos (starEach [e,f] X.env)).all (fun x=>!x.1) && (backToKw cpos (keywordEach [] X.env)).all (fun x=>x.1.isSome)
  && decide (([e,f]:List Expr).length+([]:List Keyword).length+(if ([]:List Keyword).isEmpty then 0 else 1)<30))=true
 line:(apos.endLine == cpos.line)=true
 trees:backTo cpos (starEach [e,f] X.env)=[(false,eval e X.env),(false,eval f X.env)]
noncomputable def IsD(H:Hp)(a:Addr):Prop:=(∃ kvs,Rd H a (.dK kvs))∨∃ kvs,Rd H a (.dT kvs)
theorem ziI{X:Cx}{pins:List (Addr × Obj)}{σ:St}{H:Hp}{s:Shared}{a:Addr}(I:Inv X pins σ H s)(d:IsD H a):
  s.TypeIs (.ref a) "dict"/\(∀ b,Value.ref a=.ref b->∃ ob,s.heap.get? b=some ob/\ob.dict=none)/\(a == sysModules)=false:=by
 rcases d with ⟨kvs,e⟩ | ⟨kvs,e⟩
 ·obtain ⟨_,hd,vs,_,dd⟩:=qw I.hok e
  refine ⟨dd.typeIs,fun b q=>?_,hd⟩
  cases q
  obtain ⟨ob,_,_,h1,h2,_⟩:=dd
  exact ⟨ob,h1,h2.2.1⟩
 ·obtain ⟨_,hd,xs,_,dd⟩:=zbs I.hok e
  refine ⟨dd.typeIs,fun b q=>?_,hd⟩
  cases q
  obtain ⟨ob,_,_,h1,h2,_⟩:=dd
  exact ⟨ob,h1,h2.2.1⟩
section
variable {X:Cx} {pins:List (Addr × Obj)} {σ:St} {H:Hp} {s:Shared} {a:Addr} {y d:V} {u r:Value} {o:Option V} {A:Around} {E:Value->Shared->Prop}
theorem zmt{Q:Value->Shared->Prop}(hu:A.units+1<cLine)(I:Inv X pins σ H s)(g:DGet H a y o)(ry:RelV y u)(rd:RelV d r)(h:∀ w' s',Inv X pins σ H s'->RelV (o.getD d) w'->Q w' s'):
  wpAny (model X.prog X.w) A (call (.builtin "dict.get") [.ref a,u,r]) Q E s:=by
 rcases g with ⟨kvs,k,e,ey,l⟩ | ⟨kvs,k,b,e,ey,eb,l⟩
 ·subst ey
  obtain ⟨z,hd,vs,rel,dd⟩:=qw I.hok e
  refine call_meetsIn PySem.F.slot_dict_get dd.typeIs PySem.F.entry_dict_get (PySem.F.args_dict_get_3 _ _ _) (meets_dict_get_default (zk X.prog X.w) a (kt ry) hd r) ⟨_,dd.mapOf,h _ _ (I.tok _) ?_⟩
  rw [l]
  exact (rel.val k).getD rd
 ·subst ey
  cases (show u=Value.ref b from ry)
  obtain ⟨z,hd,xs,rel,dd⟩:=zbs I.hok e
  refine call_meetsIn PySem.F.slot_dict_get dd.typeIs PySem.F.entry_dict_get (PySem.F.args_dict_get_3 _ _ _) (meetsH_dict_get_default (tupleKind (zk X.prog X.w)) a b hd r) ⟨tupleKind_room_in1 hu,k,xs,qU I.hok eb,dd,h _ _ (I.tok _) ?_⟩
  rw [l]
  exact (rel.val k).getD rd
end
noncomputable def zlr(td ty tx:TE):TE:=fun σ H Q=>td σ H fun x H1=>∃ a,x=.ref a/\IsD H1 a/\ty σ H1 fun y H2=>tx σ H2 fun z H3=>∃ o,DGet H3 a y o/\Q (o.getD z) H3
section
variable {X:Cx} {o e f:Expr} {apos cpos:Pos} {td ty tx:TE}
theorem zdK(hu:X.A.units+1<cLine)(ho:PE X o td)(he:PE X e ty)(hf:PE X f tx)(m:M2 X o "get" apos e f cpos):PE X (.Call (.Attribute o "get" apos) [e,f] [] cpos) (zlr td ty tx):=by
 intro pins s σ H Q I h
 refine wpAny_Call_method m.base m.few m.line PySem.F.plainAttrs_dict PySem.F.slot_dict_get PySem.F.type_dict_get (thn (ho pins s σ H _ I h) fun u s1 hq_=>?_)
 obtain ⟨x,H1,I1,rx,a,ex,d,q1⟩:=hq_
 subst ex
 obtain rfl:u=Value.ref a:=rx
 obtain ⟨t1,t2,_⟩:=ziI I1 d
 refine ⟨t1,t2,?_⟩
 rw [m.trees]
 refine Calls.callWith_builtin rfl (Calls.evalArgs_plain (Calls.spliced_cons (thn (he pins s1 σ H1 _ I1 q1) fun iv s2 ⟨y,H2,I2,ry,q2⟩=>
  Calls.spliced_cons (thn (hf pins s2 σ H2 _ I2 q2) fun fv s3 ⟨z,H3,I3,rz,ov,g,q3⟩=>Calls.spliced_nil ?_))))
 exact zmt hu I3 g ry rz fun w' s4 I4 rw'=>⟨_,H3,I4,rw',q3⟩
end
end L2
namespace Att
open PySem PySem.W PySem.Calls PyProof.Rows
theorem zab{P:Params}{h:Heap}:∀ (ns:List Int) (vs:List Value),WellAll P h vs (ns.map WData.int)->IntsAre vs ns:=by
 intro ns
 induction ns with
 | nil=>
  intro vs w
  rw [List.map_nil] at w
  cases w
  exact .nil
 | cons n ns ih=>
  intro vs w
  rw [List.map_cons] at w
  cases w with
  | cons a b=>
   cases a
   exact .cons _ _ (ih _ b)
theorem zgH{l:OpenLaw}{n:Nat}(hn:l.most=some n){P:Params}{h:Heap}{args:List WData}{vals:List Value}
  (hpre:l.row.toRowW.claim.pre args=true)(hwl:WellAll P h vals args):
  ∃ a vs ns,vals=[Value.ref a]/\args=[WData.list (ns.map WData.int)]/\h.get? a=some { cls:=.type "list",data:=.seq vs.toArray }/\IntsAre vs ns/\ns.length≤n:=by
 have hsh:WShape.hasAll [] args [.list .int]=true:=(pre_splitW hpre).1
 have hc:l.pre.holds [] { args:=args }=true:=(pre_splitW hpre).2
 obtain ⟨d,r,rfl,h1,h2⟩:=hasAllW_cons hsh
 obtain rfl:=hasAllW_nil h2
 obtain ⟨xs,rfl,h3⟩:=hasW_list h1
 obtain ⟨ns,rfl⟩:=items_int h3
 have hlen:ns.length≤n:=by
  unfold OpenLaw.pre at hc
  have h4:(WTm.not (.lt (.lit (.int (n:Int))) (.len (.arg 0)))).holds [] { args:=[.list (ns.map .int)] }=true:=by
   have h4:=(holds_andW hc).1
   rw [hn] at h4
   exact h4
  have h5:=condW_of h4 (w_not (w_lt w_lit (w_len_list (w_arg rfl))))
  rw [List.length_map] at h5
  refine Nat.le_of_not_lt fun q=>?_
  have q':(n:Int)<((ns.length:Nat):Int):=by omega
  first
   | (rw [decide_eq_true q'] at h5;exact absurd h5 (by decide))
   | (simp at h5;omega)
 cases hwl with
 | cons w1 w2=>
  cases w2
  cases w1 with
  | list ho hall=>exact ⟨_,_,ns,rfl,rfl,ho,zab ns _ hall,hlen⟩
theorem zgK(l:OpenLaw)(args:List WData):l.row.toRowW.claim.post args (.bool true) args=true:=
 postW_of (r:=l.row.toRowW) (X:=(true == true))
  (show WShape.has [] (.bool true) .bool=true by first | rfl | decide | simp [WShape.has,WShape.arms,WShape.armsAll])
  (show (WTm.eq .res (.lit (.bool true))).value [] { args:=args,res:=some (.bool true),after:=args }=some (.bool (true == true)) from w_eq_bool (w_res rfl) w_lit) rfl
end Att
namespace L2
open PySem PySem.Spec PyProof.Rows
theorem zbW:∀ {vs:List Value} {ns:List Int},IntsAre vs ns->Vals (ns.map V.int) vs
 | _,_,.nil=>.nil
 | _,_,.cons n t h=>.cons ⟨t,rfl⟩ (zbW h)
noncomputable def zkN(H:Hp):Prop:=∀ b,H b=none∨∃ o xs,H b=some (.frz o (.lst xs))
theorem ziB{P:Program}{w:World}{K:PySem.W.Frag}{mg mb:Str->Option Value}{CX:CXT}{k:Nat}{fa a:Addr}{fd:FuncData}{x:Str}{sp:Sp}{s₁:Shared}{vs:List Value}{ns:List Int}
  (KX:K.In s₁.heap)(hns:s₁.heap.Ns mainGlobals mg)(hb:s₁.heap.Ns builtinsNs mb)(hbb:∀ x:Str,x≠"__name__"->mb x=bootBuiltins x)(hlim:s₁.heap.NoLimit)(hg:s₁.gens=#[])
  (ha:s₁.heap.get? a=some { cls:=.type "list",data:=.seq vs.toArray })(hi:IntsAre vs ns)(hl:ns.length≤sizeLine)(hr:Room k callerA)
  (F:∀ base:Heap,K.In base->base.Ns mainGlobals mg->FnOk P w K mg base CX k fa fd [x] sp)(hbind:∀ (s:Shared) (u:Value),BindsTo s fd ⟨[u],[]⟩ [(x,u)])
  (hsp:∀ H:Hp,zkN H->SqL K H a (ns.map V.int)->sp [.ref a] H (fun v _=>v=.bl true) fun _ _ _=>False)
  (hCX:∀ H e s',CX [] H s₁ (fun _ _ _=>False) e s'->False):
  codeAny (model P w) callerA (.call (.ref fa) ⟨[.ref a],[]⟩) (fun r s'=>r=.ok (.ret (.bool true))/\OldK s₁.heap s'.heap/\s'.os=s₁.os/\AllBare s'.gens) s₁:=by
 have rv:=zbW hi
 have lenV:=hi.length
 -- from an abstract heap in which nothing but the script may be tracked
 have core:∀ H:Hp,zkN H->SqL K H a (ns.map V.int)->HOk P w H s₁.heap->(∀ b,H b≠none->b=a)->(H a≠none->K.lookup a=none)->
   codeAny (model P w) callerA (.call (.ref fa) ⟨[.ref a],[]⟩) (fun r s'=>r=.ok (.ret (.bool true))/\OldK s₁.heap s'.heap/\s'.os=s₁.os/\AllBare s'.gens) s₁:=by
  intro H hO hS hok hA hK
  have base_of:∀ {b:Addr} {o:Obj},s₁.heap.get? b=some o->H b=none->(zdg s₁.heap H).get? b=some o:=fun e n=>ziM e n
  have noA:∀ {b:Addr} {o:Obj} {es:Array DictEntry} {ep:Nat},s₁.heap.get? b=some o->o.data=.dict es ep->H b=none:=fun {b o es ep} e d=>by
   cases q:H b with
   | none=>rfl
   | some u=>
    have e':b=a:=hA b (by rw [q];simp)
    subst e'
    rw [ha] at e;cases e
    have d':Data.seq vs.toArray _=Data.dict es ep:=d
    cases d'
  have nsK:∀ {b:Addr} {m:Str->Option Value},s₁.heap.Ns b m->(zdg s₁.heap H).Ns b m:=fun {b m} ⟨o,es,ep,e,d,r⟩=>⟨o,es,ep,base_of e (noA e d),d,r⟩
  have hKb:K.In (zdg s₁.heap H):=fun b o e=>base_of (KX b o e) (by
   cases q:H b with
   | none=>rfl
   | some u=>
    have e':b=a:=hA b (by rw [q];simp)
    subst e'
    rw [hK (by rw [q];simp)] at e;cases e)
  have hM:Mod K mg (zdg s₁.heap H):=⟨hKb,nsK hns,⟨mb,nsK hb,hbb⟩,let ⟨mc,h1,h2⟩:=hlim;⟨mc,nsK h1,h2⟩⟩
  have e0:Env0 P w K mg (zdg s₁.heap H) callerA [] s₁ H:=⟨rfl,hM,fun b o e=>zkk e,Nat.le_of_eq (zhc _ _),trivial,fun b hb=>absurd (show b ∈ ([]:List Addr) from hb) (by simp),hok,.of_eq hg⟩
  refine codeAny_mono ((F _ hKb (nsK hns)).run callerA [] s₁ H ⟨[.ref a],[]⟩ [.ref a] [.ref a] _ _ hr e0 (hbind s₁ (.ref a)) (.cons rfl .nil) (hsp H hO hS)) fun r s' h=>?_
  cases r with
  | error e=>exact (hCX H e s' h).elim
  | ok fl=>
   cases fl with
   | next=>exact False.elim h
   | brk=>exact False.elim h
   | cont=>exact False.elim h
   | ret u=>
    obtain ⟨v,H',os,bare,un,hok',r',q⟩:=h
    have q':v=.bl true:=q
    subst q'
    obtain rfl:u=Value.bool true:=r'
    refine ⟨rfl,OldK.of_keep fun b o e=>?_,os,bare⟩
    cases q:H b with
    | none=>exact un.keep b o e q (by intro z;exact absurd (show b ∈ ([]:List Addr) from z) (by simp)) (by simp)
    | some u=>
     rcases hO b with z | ⟨ob,xs,z⟩
     ·rw [q] at z;cases z
     ·have z2:=un.frzs b ob _ z
      obtain ⟨e1,_⟩:=hok b _ z
      obtain ⟨e2,_⟩:=hok' b _ z2
      rw [e] at e1;cases e1
      exact e2
 cases hk:K.lookup a with
 | some o=>
  -- the script is one of the module's own objects
  have e:=KX a o hk
  rw [ha] at e
  cases e
  refine core (fun _=>none) (fun _=>.inl rfl) (.inr ⟨_,vs.toArray,_,hk,rfl,rfl,rfl,by rw [List.size_toArray,lenV];exact hl,by simpa using rv⟩) (fun b u z=>by have z':(none:Option HO)=some u:=z;cases z') (fun b z=>absurd rfl z) fun z=>absurd rfl z
 | none=>
  refine core (fun b=>if b=a then some (.frz { cls:=.type "list",data:=.seq vs.toArray } (.lst (ns.map V.int))) else none) (fun b=>?_) (.inl (.inr ⟨{ cls:=.type "list",data:=.seq vs.toArray },if_pos rfl⟩)) (fun b u z=>?_) (fun b z=>?_) fun _=>hk
  ·by_cases hb:b=a
   ·exact .inr ⟨_,_,if_pos hb⟩
   ·exact .inl (if_neg hb)
  ·by_cases hb:b=a
   ·have z':=(if_pos hb).symm.trans z
    cases z'
    subst hb
    exact ⟨ha,by rw [List.length_map];exact hl,vs,_,rv,ha⟩
   ·have z':=(if_neg hb).symm.trans z
    cases z'
  ·by_cases hb:b=a
   ·exact hb
   ·exact absurd (if_neg hb) z
noncomputable def uz(s:Stmt):Arguments:=match s with
 | .FunctionDef _ a _ _ _ _ _ _ _ _=>a
 | _=>{ posonlyargs:=[],args:=[],vararg:=none,kwonlyargs:=[],kw_defaults:=[],kwarg:=none,defaults:=[] }
noncomputable def wQ(s:Stmt):List Stmt:=match s with
 | .FunctionDef _ _ b _ _ _ _ _ _ _=>b
 | _=>[]
noncomputable def zN(s:Stmt):Scope:=match s with
 | .FunctionDef _ _ _ _ _ _ sc _ _ _=>sc
 | _=>{ kind:=.function,names:=[],isGenerator:=false,isCoroutine:=false }
noncomputable abbrev CX0:CXT:=fun _ _ _ _ _ _=>False
noncomputable abbrev E0:XK:=fun _ _ _=>False
theorem znl{X:Cx}:zfu CX0 X E0:=fun _ _ _ _ _ _ _ h=>h.elim
structure Fun (K:PySem.W.Frag) (x qual:Str) (st:Stmt) (f:Addr) (fd:FuncData):Prop where
 ex:∃ (oc:Value) (od:Option Addr) (kV doc pm:Value) (an:Option Addr) (cdv ct:Value) (osl:Array (Option Value)),
  fd=PySem.W.fnOf x qual (uz st) (wQ st) (zN st) .none kV doc pm an cdv ct/\K.lookup f=some ⟨oc,od,.func fd,osl⟩/\PySem.W.codeIn K cdv qual=true
 kp:PySem.W.keepIn K (.ref f)=true
section
variable {P:Program} {w:World} {K:PySem.W.Frag} {mg:Str->Option Value} {base:Heap}
theorem Fun.ok{x qual:Str}{st:Stmt}{f:Addr}{fd:FuncData}{N ps:List Str}{k:Nat}{sp:Sp}(F:Fun K x qual st f fd)(S:FnScope N ps (zN st))(len:∀ vs H Q E,sp vs H Q E->vs.length=ps.length)
  (hbody:∀ (cdv:Value) (A:Around) (outer:List Env) (s:Shared) (H:Hp) (vs:List V) (Q:VK) (E:XK),Room k (A.deeper (envOfC qual (zN st) s.heap.objs.size f cdv))->sp vs H Q E->
   ∃ t,PSs (zep CX0 P w K mg base N qual (zN st) f cdv A outer s H E).nox (wQ st) t/\t { nx:=fun _ H'=>Q .non H',rt:=Q } (start N vs) H):FnOk P w K mg base CX0 (k+1) f fd ps sp:=by
 obtain ⟨oc,od,kV,doc,pm,an,cdv,ct,osl,rfl,lk,hcd⟩:=F.ex
 refine znx lk hcd S len fun A outer s H vs Q E hr hsp=>?_
 obtain ⟨t,h,q⟩:=hbody cdv A outer s H vs Q E hr hsp
 exact ⟨t,h.nox,q⟩
theorem Fun.binds{x qual:Str}{st:Stmt}{f:Addr}{fd:FuncData}{ps:List Str}(F:Fun K x qual st f fd)
  (h:∀ (kV doc pm:Value) (an:Option Addr) (cdv ct:Value) (us:List Value),us.length=ps.length->bindArgs (PySem.W.fnOf x qual (uz st) (wQ st) (zN st) .none kV doc pm an cdv ct) ⟨us,[]⟩=pure (ps.zip us)):Binds K fd ps []:=by
 obtain ⟨oc,od,kV,doc,pm,an,cdv,ct,osl,rfl,lk,hcd⟩:=F.ex
 exact .all (h kV doc pm an cdv ct)
theorem ziS{x qual:Str}{st:Stmt}{f:Addr}{oc:Value}{od an:Option Addr}{osl:Array (Option Value)}{kV doc pm cdv ct:Value}(l:K.lookup f=some ⟨oc,od,.func (PySem.W.fnOf x qual (uz st) (wQ st) (zN st) .none kV doc pm an cdv ct),osl⟩)
  (c:PySem.W.codeIn K cdv qual=true)(k:PySem.W.keepIn K (.ref f)=true):Fun K x qual st f (PySem.W.fnOf x qual (uz st) (wQ st) (zN st) .none kV doc pm an cdv ct):=⟨⟨oc,od,kV,doc,pm,an,cdv,ct,osl,rfl,l,c⟩,k⟩
end
theorem yH{A:Around}{k:Nat}(hr:Room k A):A.units+1<cLine:=Nat.lt_of_le_of_lt (Nat.add_le_add_left (by decide:1≤64) _) hr.units
section
variable {X:Cx}
theorem pv(i:Nat){x:Str}{pos:Pos}(hN:X.N[i]?=some x:=by rfl)(hv:Vis X.env.scope x:=by first | exact Or.inl rfl | exact Or.inr (Or.inl rfl) | exact Or.inr (Or.inr rfl))(hd:(x == ("__debug__":Str))=false:=by decide)
  (hcd:(x == ("__classdict__":Str))=false:=by decide):PE X (.Name x pos) (vg i):=zlK hN hv hd hcd
theorem call_lenD:CallR X (.builtin "len") (fun xs H Q=>∃ a kvs,xs=[V.ref a]/\H a=some (.dK kvs)/\Q (.int kvs.length) H):=by
 intro pins s σ H xs us Q I r h
 obtain ⟨a,kvs,rfl,ha,q⟩:=h
 obtain ⟨u,rfl,ru⟩:=zbX r
 cases ru
 exact znF I (.inl ha) fun t s' I'=>⟨.int kvs.length,H,I',⟨t,rfl⟩,q⟩
end
noncomputable def Same(H H':Hp):Prop:=∀ b o,H b=some o->H' b=some o
theorem Same.refl(H:Hp):Same H H:=fun _ _ h=>h
theorem Same.trans{H H1 H2:Hp}(a:Same H H1)(b:Same H1 H2):Same H H2:=fun c o h=>b c o (a c o h)
theorem Same.free{H H':Hp}(e:Same H H'){l:Addr}(h:H' l=Option.none):H l=Option.none:=by
 cases q:H l with
 | none=>rfl
 | some o=>
  rw [e l o q] at h
  cases h
theorem Same.seq{K:PySem.W.Frag}{H H':Hp}{a:Addr}{xs:List V}(e:Same H H')(h:SqL K H a xs):SqL K H' a xs:=by
 rcases h with (h | ⟨o,h⟩) | h
 ·exact .inl (.inl (e _ _ h))
 ·exact .inl (.inr ⟨o,e _ _ h⟩)
 ·exact .inr h
theorem zbk{α β:Type}{f:α->β->Sem (ForInStep β)}(g:β->α->β):∀ (l:List α) (c:β),(∀ x ∈ l,∀ c,f x c=pure (.yield (g c x)))->forIn l c f=pure (l.foldl g c)
 | [],_,_=>rfl
 | x::l,c,h=>by
  rw [List.forIn_cons,h x List.mem_cons_self,pure_bind]
  exact zbk g l _ fun y hy=>h y (List.mem_cons_of_mem _ hy)
noncomputable def wI(cells:List (Str × Addr))(cs:List (Str × Addr))(y:Str × NameKind):List (Str × Addr):=
 if (y.2 == NameKind.free)=true then (match cells.lookup y.1 with | some c=>(y.1,c)::cs | none=>cs) else cs
noncomputable def zfk(scope:Scope)(cells:List (Str × Addr)):List (Str × Addr):=scope.names.foldl (wI cells) []
theorem zbC{scope:Scope}{env:Env}(h:∀ y ∈ scope.names,(y.2 == NameKind.free)=true->∃ c,env.cells.lookup y.1=some c):closureFor scope env=pure (zfk scope env.cells):=by
 simp only [closureFor]
 rw [zbk (wI env.cells) _ _ (fun y hy c=>?_)]
 ·rfl
 ·obtain ⟨n,k⟩:=y
  by_cases e:(k == NameKind.free)=true
  ·obtain ⟨a,ha⟩:=h _ hy e
   have ha':List.lookup n env.cells=some a:=ha
   simp [wI,cellOf,ha',e]
  ·simp [wI,e]
theorem zy{x n:Str}{α:Type}{c:α}{r:List (Str × α)}:List.lookup x ((n,c)::r)=if x=n then some c else r.lookup x:=by
 rw [List.lookup_cons]
 by_cases e:x=n
 ·subst e;simp
 ·rw [if_neg e]
  have:(x == n)=false:=by simpa using e
  rw [this]
theorem zfj{cells:List (Str × Addr)}:∀ (names:List (Str × NameKind)) (acc:List (Str × Addr)),(∀ x c,acc.lookup x=some c->cells.lookup x=some c)->∀ x c,(names.foldl (wI cells) acc).lookup x=some c->cells.lookup x=some c
 | [],_,h=>h
 | y::r,acc,h=>by
  refine zfj r (wI cells acc y) fun x c e=>?_
  unfold wI at e
  split at e
  ·split at e
   ·rename_i c' hc'
    rw [zy] at e
    split at e
    ·rename_i hx;cases e;rw [hx];exact hc'
    ·exact h x c e
   ·exact h x c e
  ·exact h x c e
theorem zgl{cells:List (Str × Addr)}{x:Str}:∀ (names:List (Str × NameKind)) (acc:List (Str × Addr)),(acc.lookup x).isSome=true->((names.foldl (wI cells) acc).lookup x).isSome=true
 | [],_,h=>h
 | y::r,acc,h=>by
  refine zgl r (wI cells acc y) ?_
  unfold wI
  split
  ·split
   ·rw [zy];split
    ·rfl
    ·exact h
   ·exact h
  ·exact h
theorem zjj{cells:List (Str × Addr)}{x:Str}(hc:(cells.lookup x).isSome=true):∀ (names:List (Str × NameKind)) (acc:List (Str × Addr)) (k:NameKind),(k == NameKind.free)=true->(x,k) ∈ names->((names.foldl (wI cells) acc).lookup x).isSome=true
 | [],_,_,_,h=>nomatch h
 | y::r,acc,k,hk,h=>by
  rcases List.mem_cons.mp h with e | h
  ·refine zgl r (wI cells acc y) ?_
   subst e
   obtain ⟨c,hc⟩:=Option.isSome_iff_exists.mp hc
   unfold wI
   rw [if_pos hk]
   simp [hc]
  ·exact zjj hc r _ k hk h
theorem ka{env:Env}{x:Str}{k:NameKind}:∀ {names:List (Str × NameKind)},
  (names.map fun (n,k)=>if (k == NameKind.free && env.scope.kind == .function && env.kindOf n == some .cell) then (n,NameKind.cell) else (n,k)).lookup x=some k->∃ k0,(x,k0) ∈ names/\(k=k0∨(k0 == NameKind.free)=true)
 | [],h=>by simp at h
 | (n,j)::r,h=>by
  rw [List.map_cons] at h
  by_cases hx:x=n
  ·subst hx
   by_cases hc:(j == NameKind.free && env.scope.kind == .function && env.kindOf x == some .cell)=true
   ·refine ⟨j,List.mem_cons_self,.inr ?_⟩
    simp only [Bool.and_eq_true] at hc
    exact hc.1.1
   ·dsimp only at h
    rw [if_neg hc,zy,if_pos rfl] at h
    cases h
    exact ⟨k,List.mem_cons_self,.inl rfl⟩
  ·have h':(r.map fun (n,k)=>if (k == NameKind.free && env.scope.kind == .function && env.kindOf n == some .cell) then (n,NameKind.cell) else (n,k)).lookup x=some k:=by
    dsimp only at h
    by_cases hc:(j == NameKind.free && env.scope.kind == .function && env.kindOf n == some .cell)=true
    ·rw [if_pos hc,zy,if_neg hx] at h;exact h
    ·rw [if_neg hc,zy,if_neg hx] at h;exact h
   obtain ⟨k0,h1,h2⟩:=ka h'
   exact ⟨k0,List.mem_cons_of_mem _ h1,h2⟩
theorem kc{env:Env}{x:Str}:∀ {names:List (Str × NameKind)},names.lookup x=some .free->
  (names.map fun (n,k)=>if (k == NameKind.free && env.scope.kind == .function && env.kindOf n == some .cell) then (n,NameKind.cell) else (n,k)).lookup x=some .cell∨
  (names.map fun (n,k)=>if (k == NameKind.free && env.scope.kind == .function && env.kindOf n == some .cell) then (n,NameKind.cell) else (n,k)).lookup x=some .free
 | [],h=>by simp at h
 | (n,j)::r,h=>by
  rw [List.map_cons]
  dsimp only
  by_cases hx:x=n
  ·subst hx
   rw [zy,if_pos rfl] at h
   cases h
   by_cases hc:(NameKind.free == NameKind.free && env.scope.kind == .function && env.kindOf x == some .cell)=true
   ·rw [if_pos hc,zy,if_pos rfl];exact .inl rfl
   ·rw [if_neg hc,zy,if_pos rfl];exact .inr rfl
  ·rw [zy,if_neg hx] at h
   have ih:=kc (env:=env) h
   by_cases hc:(j == NameKind.free && env.scope.kind == .function && env.kindOf n == some .cell)=true
   ·rw [if_pos hc,zy,if_neg hx];exact ih
   ·rw [if_neg hc,zy,if_neg hx];exact ih
noncomputable def cN(own:List Str)(js:List Nat)(N:List Str):List Str:=own++js.map fun j=>N.getD j ""
noncomputable def cS(own:List Str)(js:List Nat)(σ:St):St:=own.map (fun _=>none)++js.map fun j=>(σ[j]?).join
noncomputable def yg (X : Cx) (own : List Str) (js : List Nat) (scope : Scope) (C : Addr) (s₀ : Shared) (H₀ : Hp) (fp : List Addr) : Cx :=
  { prog := X.prog, w := X.w, K := X.K, mg := X.mg, base := X.base, A := X.A, N := cN own js X.N, s₀ := s₀, H₀ := H₀, env := compEnvC scope (zfk scope X.env.cells) C X.env, outer := X.stack, stack := X.stack,
    ex := fp, fn := fun _ => false, calm := X.calm, pn := [], xe := fun _ _ => False }
noncomputable def zbA(js:List Nat)(scope:Scope)(kindOf:Str->Option NameKind)(N:List Str):Bool:=
 (scope.kind == .function) && scope.names.all (fun y=>!(y.2 == .cell) && (!(y.2 == .free) || kindOf y.1 == some .cell || kindOf y.1 == some .free) && (!(y.2 == .local) || scope.names.lookup y.1 == some .local)) &&
  js.all fun j=>scope.names.lookup (N.getD j "") == some .free
structure CompOk (js:List Nat) (scope:Scope) (kindOf:Str->Option NameKind) (N:List Str):Prop where
 kind:scope.kind=.function
 nocell:∀ y ∈ scope.names,y.2≠.cell
 free:∀ y ∈ scope.names,(y.2 == NameKind.free)=true->kindOf y.1=some .cell∨kindOf y.1=some .free
 loc:∀ y ∈ scope.names,y.2=.local->scope.names.lookup y.1=some .local
 used:∀ j ∈ js,scope.names.lookup (N.getD j "")=some .free
theorem zcz{js:List Nat}{scope:Scope}{kindOf:Str->Option NameKind}{N:List Str}(h:zbA js scope kindOf N=true):CompOk js scope kindOf N:=by
 unfold zbA at h
 simp only [Bool.and_eq_true,List.all_eq_true] at h
 obtain ⟨⟨h1,h2⟩,h3⟩:=h
 refine ⟨by simpa using h1,fun y hy e=>?_,fun y hy e=>?_,fun y hy e=>?_,fun j hj=>by simpa using h3 j hj⟩
 ·have:=(h2 y hy).1.1
  rw [e] at this
  exact absurd this (by decide)
 ·have:=(h2 y hy).1.2
  rw [e] at this
  simpa using this
 ·have:=(h2 y hy).2
  rw [e] at this
  simpa using this
theorem zaY{α:Type}{x:Str}{a:α}:∀ {l:List (Str × α)},l.lookup x=some a->(x,a) ∈ l
 | [],h=>by simp at h
 | (n,c)::r,h=>by
  rw [zy] at h
  split at h
  ·rename_i e;cases h;subst e;exact List.mem_cons_self
  ·exact List.mem_cons_of_mem _ (zaY h)
section
variable {X:Cx} {pins:List (Addr × Obj)} {σ:St} {H:Hp} {s:Shared} {own:List Str} {js:List Nat} {scope:Scope}
theorem zfi {C : Addr} {h₁ : Heap} {t : Nat} {fp : List Addr} {m0 : Str → Option Value} (ok : CompOk js scope X.env.kindOf X.N) (I : Inv X pins σ H s) (hC : C = s.heap.objs.size) (hns : h₁.Ns C m0)
    (keep : ∀ b o, s.heap.get? b = some o → h₁.get? b = some o) (hf : ∀ b ∈ fp, ju X pins H b) (hlt : ∀ b ∈ fp, b < s.heap.objs.size) :
    Inv (yg X own js scope C s H fp) [] (cS own js σ) H { s with heap := h₁, toks := t } := by
  have sub := zfj (cells := X.env.cells) scope.names [] (by simp)
  have has : ∀ x k0, (x, k0) ∈ scope.names → (k0 == NameKind.free) = true → ∃ c, (zfk scope X.env.cells).lookup x = some c := fun x k0 m hk => by
    obtain ⟨c, hc⟩ := I.ok.has x (ok.free _ m hk)
    exact Option.isSome_iff_exists.mp (zjj (by rw [hc]; rfl) scope.names [] k0 hk m)
  refine ⟨⟨I.ok.mod, ok.kind, I.ok.glob, I.ok.blt, Nat.le_of_eq hC.symm, fun x y c hx hy => I.ok.inj x y c (sub x c hx) (sub y c hy), fun x hx => ?_, fun x c h => absurd (show false = true from h) (by decide), I.ok.hd, I.ok.frames, .inl rfl, fun b hb => ⟨?_, fun x c hc => (hf b hb).2.2.2.2.1 x c (sub x c hc)⟩, I.bs, Nat.le_trans I.ok.bsz I.sz, fun b o e hb => ?_, fun b hb hb2 => ?_, I.stack, I.stkFree⟩,
    rfl, I.bare, Un.kept keep, ⟨m0, hns, fun i x v e1 e2 e3 => ?_⟩, fun x c e => ?_, ?_, fun x c e => I.freeC x c (sub x c e), (fun p hp => nomatch hp), I.hok.kept keep, ?_⟩
  · have hx' : ∃ k, (k = NameKind.cell ∨ k = NameKind.free) ∧ (relabel scope X.env).names.lookup x = some k := by
      rcases hx with hx | hx
      · exact ⟨_, .inl rfl, hx⟩
      · exact ⟨_, .inr rfl, hx⟩
    obtain ⟨k, hk, hl⟩ := hx'
    obtain ⟨k0, m, e⟩ := ka hl
    have hfree : (k0 == NameKind.free) = true := by
      rcases e with e | e
      · subst e
        rcases hk with hk | hk
        · exact absurd hk (ok.nocell _ m)
        · rw [hk]; rfl
      · exact e
    exact has x k0 m hfree
  · rw [hC]; exact Nat.ne_of_lt (hlt b hb)
  · rcases (hf b hb).2.2.2.1 with z | z
    · exact I.ok.noex b o e z
    · exact absurd (Nat.lt_of_lt_of_le (Heap.lt_size e) (Nat.le_trans I.ok.bsz z)) (Nat.lt_irrefl _)
  · rcases List.mem_cons.mp (I.stkSub b hb2) with e | e
    · exact (hf b hb).2.1 e
    · exact (hf b hb).2.2.1 e
  · have key : ∃ j, j ∈ js ∧ x = X.N.getD j "" ∧ σ[j]? = some (some v) := by
      have e1 : (own ++ js.map fun j => X.N.getD j "")[i]? = some x := e1
      have e2 : (own.map (fun _ => none) ++ js.map fun j => (σ[j]?).join)[i]? = some (some v) := e2
      by_cases hi : i < own.length
      · rw [List.getElem?_append_left (by simpa using hi), List.getElem?_map] at e2
        cases q : own[i]? with
        | none => rw [q] at e2; simp at e2
        | some y => rw [q] at e2; simp at e2
      · have hi' : own.length ≤ i := Nat.le_of_not_lt hi
        rw [List.getElem?_append_right hi', List.getElem?_map] at e1
        rw [List.getElem?_append_right (by simpa using hi'), List.getElem?_map, List.length_map] at e2
        cases q : js[i - own.length]? with
        | none => rw [q] at e1; simp at e1
        | some j =>
          rw [q] at e1 e2
          refine ⟨j, List.mem_of_getElem? q, ?_, ?_⟩
          · have := Option.some.inj e1; exact this.symm
          · have e2' : (σ[j]?).join = some v := Option.some.inj e2
            cases z : σ[j]? with
            | none => rw [z] at e2'; simp at e2'
            | some w => rw [z] at e2'; have : w = some v := by simpa using e2'
                        rw [this]
    obtain ⟨j, hj, hx, hσ⟩ := key
    have hu := ok.used j hj
    rw [← hx] at hu
    have hm := zaY hu
    obtain ⟨m, hn, hl⟩ := I.loc
    have hjl : j < X.N.length := by rw [← I.len]; exact (List.getElem?_eq_some_iff.mp hσ).1
    have hN : X.N[j]? = some x := by
      rw [hx, List.getElem?_eq_getElem hjl]
      simp [List.getD, List.getElem?_eq_getElem hjl]
    have kx := ok.free _ hm rfl
    obtain ⟨u, r, l⟩ := hl j x v hN hσ (.inr kx)
    refine ⟨u, r, .inr ⟨kc hu, ?_⟩⟩
    rcases l with ⟨hk, _⟩ | ⟨hk, c, hc, cell⟩
    · have kx' : X.env.kindOf x = some .cell ∨ X.env.kindOf x = some .free := kx
      rw [hk] at kx'
      rcases kx' with z | z <;> cases z
    · obtain ⟨c', hc'⟩ := has x _ hm rfl
      have := sub x c' hc'
      rw [hc] at this; cases this
      obtain ⟨o, ho, hd⟩ := cell
      exact ⟨c, hc', o, keep _ _ ho, hd⟩
  · obtain ⟨v, o, ho, hd⟩ := I.cell x c (sub x c e)
    exact ⟨v, o, keep _ _ ho, hd⟩
  · show H C = none
    rw [hC]; exact I.hok.fresh (Nat.le_refl _)
  · show (own.map (fun _ => none) ++ js.map fun j => (σ[j]?).join).length = (own ++ js.map fun j => X.N.getD j "").length
    simp
theorem zho{C:Addr}{s':Shared}{p2:List (Addr × Obj)}{σ2:St}{H2:Hp}{fp:List Addr}(I:Inv X pins σ H s)(hf:∀ b ∈ fp,ju X pins H b)(J:Inv (yg X own js scope C s H fp) p2 σ2 H2 s'):Inv X pins σ H2 s':=
 I.call' J.os J.base J.hok J.bare fun b hb=>⟨(hf b hb).2.2.2.1,(hf b hb).2.1,(hf b hb).2.2.2.2.1,(hf b hb).2.2.2.2.2⟩
end
noncomputable def PTs(X:Cx)(ifs:List Expr)(t:TT):Prop:=
 ∀ (pins:List (Addr × Obj)) (s:Shared) (σ:St) (H:Hp) (Q:Bool->Hp->Prop),Inv X pins σ H s->t σ H Q->
  wpAny (model X.prog X.w) X.A (forIn ifs true fun c r=>if r=true then do let ok ← isTrue c X.env (eval c X.env);pure (ForInStep.yield ok) else pure (ForInStep.yield r)) (TP X pins σ Q) X.xe s
noncomputable def znZ:TT:=fun _ H Q=>Q true H
theorem zjO{X:Cx}:PTs X [] znZ:=fun _ _ _ H _ I h=>wpAny_tests_nil ⟨H,I,h⟩
theorem zfK{X:Cx}{c:Expr}{t:TT}(h:PT X c t):PTs X [c] t:=fun pins s σ H Q I hw=>wpAny_tests_one (h pins s σ H Q I hw)
theorem zhn{prog:Program}{w:World}{A:Around}{R:Result->Shared->Prop}{s:Shared}{elt target iter:Expr}{ifs:List Expr}{scope:Scope}{pos:Pos}{it acc:Value}{env:Env}(I:Nat->Shared->Prop)
  (turn:∀ n s,I n s->wpAny (model prog w) A (pyNext it) (fun r s₁=>match r with
   | none=>R (.ok .next) s₁
   | some v=>wpAny (model prog w) A (letOwnedTupleGo target it v) (fun _ s₁'=>wpAny (model prog w) A (assign target env v) (fun _ s₂=>
     wpAny (model prog w) A (forIn ifs true fun c r=>if r=true then do let ok ← isTrue c env (eval c env);pure (ForInStep.yield ok) else pure (ForInStep.yield r)) (fun ok s₃=>
      if ok=true then wpAny (model prog w) A (eval elt env) (fun x s₄=>
       wpAny (model prog w) A (call (.builtin "list.append") [acc,x]) (fun _ s₅=>∃ m,m<n/\I m s₅) (fun _ _=>False) s₄) (fun _ _=>False) s₃
      else ∃ m,m<n/\I m s₃) (fun _ _=>False) s₂) (fun _ _=>False) s₁') (fun _ _=>False) s₁) (fun _ _=>False) s)
  (n:Nat)(h:I n s):codeAny (model prog w) A (.compLoop (.ListComp elt [⟨target,iter,ifs,0⟩] scope pos) 0 it acc env) R s:=by
 refine codeAny_loop rfl I (fun n s hI=>?_) n h
 show wpAny _ A ((compTurn (.ListComp elt [⟨target,iter,ifs,0⟩] scope pos) 0 it acc env).onRaise (fun x=>do noteFrame x env;theTreesLotGoes x)) _ _ s
 refine wpAny_noted ?_
 rw [compTurn_list]
 refine wpAny_bind (wpAny_standAt (wpAny_bind (wpAny_mono (turn n s hI) (fun r s₁ h₁=>?_) fun _ _ h'=>h'.elim)))
 cases r with
 | none=>exact wpAny_pure h₁
 | some v=>
  refine wpAny_bind (wpAny_mono h₁ (fun _ s₁' h₁'=>?_) fun _ _ h'=>h'.elim)
  refine wpAny_bind (wpAny_mono h₁' (fun _ s₂ h₂=>wpAny_bind (wpAny_mono h₂ (fun ok s₃ h₃=>?_) fun _ _ h'=>h'.elim)) fun _ _ h'=>h'.elim)
  cases ok with
  | false=>exact wpAny_pure ⟨rfl,h₃⟩
  | true=>
   exact wpAny_bind (wpAny_bind (wpAny_mono h₃ (fun x s₄ h₄=>wpAny_bind (wpAny_mono h₄ (fun _ s₅ h₅=>wpAny_pure (wpAny_pure ⟨rfl,h₅⟩)) fun _ _ h'=>h'.elim)) fun _ _ h'=>h'.elim))
noncomputable def zmW(t:TT)(σ:St)(H:Hp)(Q:Bool->Hp->Prop):Prop:=t σ H Q
noncomputable def zmY(t:TE)(σ:St)(H:Hp)(Q:VK):Prop:=t σ H Q
noncomputable def zmX(g:TG)(v:V)(σ:St)(H:Hp)(Q:St->Hp->Prop):Prop:=g v σ H Q
noncomputable def znG(Q:VK)(D:Addr)(H:Hp):Prop:=Q (.ref D) H
noncomputable def zfD(wi:TI)(own:List Str)(js:List Nat)(g:Addr->Shared->Hp->List Addr->TG)(tt:Addr->Shared->Hp->List Addr->TT)(te:Addr->Shared->Hp->List Addr->TE):TE:=fun σ H Q=>wi σ H fun J H1=>∀ C s₀ H₀ fp D,H1 D=none->
 ∃ W:Nat->Nat->St->Hp->Prop,(∃ m,W 0 m (cS own js σ) (upd H1 D (.lst [])))/\∀ i m σ1 H2,W i m σ1 H2->
  (J.stop i H2/\znG Q D H2)∨(J.go i H2/\∀ x H3,J.yld i H2 x H3->zmX (g C s₀ H₀ fp) x σ1 H3 fun σ2 H4=>zmW (tt C s₀ H₀ fp) σ2 H4 fun b H5=>
   if b=true then zmY (te C s₀ H₀ fp) σ2 H5 fun y H6=>∃ ys,H6 D=some (.lst ys)/\ys.length<sizeLine/\∃ m',m'<m/\W (i+1) m' σ2 (upd H6 D (.lst (ys++[y]))) else ∃ m',m'<m/\W (i+1) m' σ2 H5)
section
variable {X:Cx} {own:List Str} {js:List Nat} {scope:Scope} {tg elt iter:Expr} {ifs:List Expr} {pos:Pos} {g:Addr->Shared->Hp->List Addr->TG} {tt:Addr->Shared->Hp->List Addr->TT} {te:Addr->Shared->Hp->List Addr->TE}
theorem zbz{pins:List (Addr × Obj)}{σ:St}{H1:Hp}{s2:Shared}{it:Addr}{fp:List Addr}{tn:Nat->Heap->Prop}{J:It}{E:Value->Shared->Prop}{RR:Value->Addr->Result->Shared->Prop}{Qv:V->Hp->Prop}
  (hc:X.calm=true)(ok:CompOk js scope X.env.kindOf X.N)(hg:∀ C s₀ H₀ fp,PG (yg X own js scope C s₀ H₀ fp) tg (g C s₀ H₀ fp))(ht:∀ C s₀ H₀ fp,PTs (yg X own js scope C s₀ H₀ fp) ifs (tt C s₀ H₀ fp))(he:∀ C s₀ H₀ fp,PE (yg X own js scope C s₀ H₀ fp) elt (te C s₀ H₀ fp))
  (I:Inv X pins σ H1 s2)(T:Turn X.prog X.w X.K tg J fp it tn)(st:tn 0 s2.heap)(hf:∀ b ∈ fp,ju X pins H1 b)
  (h:∀ C s₀ H₀ fp D,H1 D=none->∃ W:Nat->Nat->St->Hp->Prop,(∃ m,W 0 m (cS own js σ) (upd H1 D (.lst [])))/\∀ i m σ1 H2,W i m σ1 H2->
   (J.stop i H2/\znG Qv D H2)∨(J.go i H2/\∀ x H3,J.yld i H2 x H3->zmX (g C s₀ H₀ fp) x σ1 H3 fun σ2 H4=>zmW (tt C s₀ H₀ fp) σ2 H4 fun b H5=>
    if b=true then zmY (te C s₀ H₀ fp) σ2 H5 fun y H6=>∃ ys,H6 D=some (.lst ys)/\ys.length<sizeLine/\∃ m',m'<m/\W (i+1) m' σ2 (upd H6 D (.lst (ys++[y]))) else ∃ m',m'<m/\W (i+1) m' σ2 H5))
  (hRR:∀ D C H2 s' oC m,s'.heap.get? C=some oC->s'.heap.Ns C m->(∀ v,oC.data≠.cell v)->ju X pins H2 C->Inv X pins σ H2 s'->Qv (.ref D) H2->RR (.ref D) C (.ok .next) s'):
  wpAny (model X.prog X.w) X.A (newList []) (fun acc s₃=>wpAny (model X.prog X.w) X.A (newFunctionEnv scope X.env.globals (zfk scope X.env.cells) [] X.env.qual none .none (some X.env)) (fun cenv s₄=>
   codeAny (model X.prog X.w) X.A (.compStart (.ListComp elt [⟨tg,iter,ifs,0⟩] scope pos) 0 (.ref it) acc { cenv with scope:=relabel scope X.env }) (RR acc cenv.locals) s₄) E s₃) E s2:=by
 refine wpAny_newObj_type (wpAny_newFunctionEnv ok.nocell (by intro y hy;simp at hy) (fun h₁ hns₁ hsb₁=>?_) ok.kind)
 dsimp only at hns₁ hsb₁ ⊢
 have hD:H1 s2.heap.objs.size=none:=I.hok.fresh (Nat.le_refl _)
 have I3:Inv X pins σ (upd H1 s2.heap.objs.size (.lst [])) { s2 with heap:=s2.heap.push { cls:=.type "list",dict:=none,data:=.seq ([]:List Value).toArray } }:=
  I.laid (t':=s2.toks) (fun b u e=>Heap.get?_push_of_some _ e) (Nat.le_refl _) ⟨Nat.zero_le _,[],0,.nil,Heap.get?_push_size _ rfl⟩
 have hlt2:∀ b ∈ fp,b<s2.heap.objs.size:=fun b hb=>let ⟨o,e,_⟩:=T.obj 0 _ st b hb;Heap.lt_size e
 generalize hH2:s2.heap.push { cls:=.type "list",dict:=none,data:=.seq ([]:List Value).toArray }=heap2 at hns₁ hsb₁ I3 ⊢
 have sz2:heap2.objs.size=s2.heap.objs.size+1:=by rw [← hH2,Heap.size_push]
 have keep12:∀ b o,s2.heap.get? b=some o->heap2.get? b=some o:=fun b o e=>hH2 ▸ Heap.get?_push_of_some _ e
 have keep:∀ b o,heap2.get? b=some o->h₁.get? b=some o:=fun b o e=>hsb₁.extBut b o (Nat.ne_of_lt (Heap.lt_size e)) (Heap.get?_push_of_some _ e)
 have hf3:∀ b ∈ fp,ju X pins (upd H1 s2.heap.objs.size (.lst [])) b:=fun b hb=>⟨by rw [zd (Nat.ne_of_lt (hlt2 b hb))];exact (hf b hb).1,(hf b hb).2⟩
 have hlt3:∀ b ∈ fp,b<heap2.objs.size:=fun b hb=>by rw [sz2];exact Nat.lt_succ_of_lt (hlt2 b hb)
 generalize hDd:s2.heap.objs.size=D at *
 have I4:=zfi (own:=own) (js:=js) (t:=s2.toks+([]:List (Str × Value)).length) ok I3 rfl hns₁ keep hf3 hlt3
 have st4:tn 0 h₁:=T.keep 0 _ _ st fun b _ o e=>keep b o (keep12 b o e)
 obtain ⟨W,⟨m0,w0⟩,turn⟩:=h heap2.objs.size { s2 with heap:=heap2 } (upd H1 D (.lst [])) fp D hD
 -- facts about the block's frame
 have hXl:X.env.locals<heap2.objs.size:=I3.lt
 have loop:∀ s₃:Shared,s₃={ s2 with heap:=h₁,toks:=s2.toks+([]:List (Str × Value)).length }->
   codeAny (model X.prog X.w) X.A (.compLoop (.ListComp elt [⟨tg,iter,ifs,0⟩] scope pos) 0 (.ref it) (.ref D) (compEnvC scope (zfk scope X.env.cells) heap2.objs.size X.env)) (RR (.ref D) heap2.objs.size) s₃:=by
  rintro s₃ rfl
  generalize hXX:yg X own js scope heap2.objs.size { s2 with heap:=heap2 } (upd H1 D (.lst [])) fp=X' at I4
  have eP:X'.prog=X.prog:=by rw [← hXX];rfl
  have eW:X'.w=X.w:=by rw [← hXX];rfl
  have eK:X'.K=X.K:=by rw [← hXX];rfl
  have eA:X'.A=X.A:=by rw [← hXX];rfl
  have eC:X'.calm=true:=by rw [← hXX];exact hc
  have eE:X'.env=compEnvC scope (zfk scope X.env.cells) heap2.objs.size X.env:=by rw [← hXX];rfl
  have eL:X'.env.locals=heap2.objs.size:=by rw [← hXX];rfl
  have eX:X'.xe=fun _ _=>False:=by rw [← hXX];rfl
  have eex:X'.ex=fp:=by rw [← hXX];rfl
  have epn:X'.pn=[]:=by rw [← hXX];rfl
  have efs:X'.fs=frs X.stack:=by rw [← hXX];rfl
  have ecl:X'.env.cells=zfk scope X.env.cells:=by rw [← hXX];rfl
  have sub:=zfj (cells:=X.env.cells) scope.names [] (by simp)
  have stat:∀ {H':Hp},(∀ b ∈ fp,H' b=none)->∀ b ∈ fp,ju X' [] H' b:=fun {H'} hn b hb=>by
   refine ⟨hn b hb,by rw [eL];exact Nat.ne_of_lt (hlt3 b hb),?_,.inl (by rw [eex];exact hb),fun x c hc=>?_,fun p hp=>?_⟩
   ·rw [efs]
    intro hb2
    rcases List.mem_cons.mp (I3.stkSub b hb2) with e | e
    ·exact (hf3 b hb).2.1 e
    ·exact (hf3 b hb).2.2.1 e
   ·rw [ecl] at hc
    exact (hf3 b hb).2.2.2.2.1 x c (sub x c hc)
   ·rw [epn] at hp;exact nomatch hp
  have hg':=hg heap2.objs.size { s2 with heap:=heap2 } (upd H1 D (.lst [])) fp
  have ht':=ht heap2.objs.size { s2 with heap:=heap2 } (upd H1 D (.lst [])) fp
  have he':=he heap2.objs.size { s2 with heap:=heap2 } (upd H1 D (.lst [])) fp
  rw [hXX] at hg' ht' he'
  rw [← eE]
  refine zhn (fun n s'=>∃ i σ' H',Inv X' [] σ' H' s'/\tn i s'.heap/\(∀ b ∈ fp,H' b=none)/\W i n σ' H') ?_ m0 ⟨0,_,_,I4,st4,fun b hb=>(hf3 b hb).1,w0⟩
  rintro n s3 ⟨i,σ3,H3,I3',st3,fr3,w3⟩
  rcases turn i n σ3 H3 w3 with ⟨stop,qn⟩ | ⟨go,step⟩
  ·have:=T.done X' eP eW eK eC i [] s3 σ3 H3 (fun _ _=>False) I3' (stat fr3) st3 stop
   rw [eA] at this
   refine thn this fun r s4 ⟨hr,I5⟩=>?_
   subst hr
   obtain ⟨m,hn,_⟩:=I5.loc
   obtain ⟨oC,es,ep,hoC,hd,_⟩:=id hn
   rw [eL] at hoC hn
   have hback:Inv X pins σ H3 s4:=zho I3 hf3 (hXX ▸ I5)
   refine hRR _ _ H3 s4 oC m hoC hn (fun v z=>by rw [hd] at z;cases z) ?_ hback qn
   have hfree:H3 heap2.objs.size=none:=by have:=I5.free;rw [eL] at this;exact this
   refine ⟨hfree,Nat.ne_of_gt hXl,I3.nofs (Nat.le_refl _),.inr I3.sz,fun x c e z=>?_,fun p hp z=>?_⟩
   ·obtain ⟨v,q⟩:=I3.cell x c e
    exact absurd q.lt (by rw [z];exact Nat.lt_irrefl _)
   ·exact absurd (Heap.lt_size (I3.pin p hp).1) (by rw [z];exact Nat.lt_irrefl _)
  ·have:=T.item X' eP eW eK eC i [] s3 σ3 H3 (fun _ _=>False) I3' (stat fr3) st3 go
   rw [eA] at this
   refine thn this fun r s4 ⟨u,hr,h4⟩=>?_
   subst hr
   refine thn h4 fun _ s5 ⟨x,H5,I5,r5,y5,st5,fr5⟩=>?_
   have I5':=I5.pinned (stat fr5) (T.obj _ _ st5)
   have h6:=hg' _ s5 σ3 H5 x u _ I5' r5 (step x H5 y5)
   rw [eP,eW,eA,eX] at h6
   refine thn h6 fun _ s6 ⟨σ6,H6,I6,q6⟩=>?_
   have h7:=ht' _ s6 σ6 H6 _ I6 q6
   rw [eP,eW,eA,eX] at h7
   refine thn h7 fun b s7 ⟨H7,I7,q7⟩=>?_
   have again:∀ {s8:Shared} {H8:Hp},Inv X' ([]++zaI fp s5.heap) σ6 H8 s8->(∃ m',m'<n/\W (i+1) m' σ6 H8)->∃ m,m<n/\∃ i σ' H',Inv X' [] σ' H' s8/\tn i s8.heap/\(∀ b ∈ fp,H' b=none)/\W i m σ' H':=fun {s8 H8} I8 ⟨m',hm,w8⟩=>by
    refine ⟨m',hm,i+1,σ6,H8,I8.unpinned,T.keep _ _ _ st5 fun b hb o e=>(I8.pin (b,o) (List.mem_append_right _ (List.mem_append_right _ (uh hb e)))).1,fun b hb=>?_,w8⟩
    obtain ⟨o,e,d⟩:=T.obj _ _ st5 b hb
    exact (I8.pin (b,o) (List.mem_append_right _ (List.mem_append_right _ (uh hb e)))).2.1
   cases b with
   | false=>exact again I7 q7
   | true=>
    have h8:=he' _ s7 σ6 H7 _ I7 q7
    rw [eP,eW,eA,eX] at h8
    refine thn h8 fun v s8 ⟨y,H8,I8,r8,ys,hys,hz,q8⟩=>?_
    have h9:=yB (X:=X') _ s8 σ6 H8 (.ref D) [y] (.ref D) [v] (fun _ H9=>H9=upd H8 D (.lst (ys++[y]))) I8 rfl (.cons r8 .nil) ⟨D,ys,y,rfl,rfl,hys,hz,rfl⟩
    rw [eP,eW,eA,eX] at h9
    refine thn h9 fun _ s9 ⟨v9,H9,I9,r9,e9⟩=>?_
    subst e9
    exact again I9 q8
 exact codeAny_compStart_list (loop _ rfl) (T.self _ 0 _ _ _ st4 (loop _ rfl))
theorem znj{wi:TI}(hc:X.calm=true)(hi:PI X tg iter wi)(hg:∀ C s₀ H₀ fp,PG (yg X own js scope C s₀ H₀ fp) tg (g C s₀ H₀ fp))(ht:∀ C s₀ H₀ fp,PTs (yg X own js scope C s₀ H₀ fp) ifs (tt C s₀ H₀ fp))(he:∀ C s₀ H₀ fp,PE (yg X own js scope C s₀ H₀ fp) elt (te C s₀ H₀ fp))
  (ok:zbA js scope X.env.kindOf X.N=true:=by first | rfl | decide +kernel)(hs:∀ x,foldedSetIterable iter X.env x=pure x:=by intro _;rfl):
  PE X (.ListComp elt [⟨tg,iter,ifs,0⟩] scope pos) (zfD wi own js g tt te):=by
 intro pins s σ H Q I h
 have ok:=zcz ok
 rw [eval_ListComp]
 refine wpAny_comprehension_free (use:=none) rfl hs (zbC fun y hy e=>I.ok.has _ (ok.free y hy e)) ok.kind ok.loc (thn (hi pins s σ H _ I h) fun v s1 h1=>thn h1 fun itv s2 h2=>?_)
 obtain ⟨it,fp,tn,J,H2,e,I2,T,st2,f2,q⟩:=h2
 subst e
 refine zbz (RR:=fun acc C=>compPost (model X.prog X.w) X.A X.xe none (EP X pins σ Q) acc C) hc ok hg ht he I2 T st2 f2 q ?_
 intro D C H3 s' oC m hoC hn hd hfp I' q'
 refine ⟨m,hn,fun h' hs'=>⟨.ref D,H3,?_,rfl,q'⟩⟩
 exact I'.turned (t':=s'.toks) (fun b o hb e=>(hs'.2 b hb).trans e) hfp.1 hfp.2.1 hfp.2.2.2.1 hfp.2.2.2.2.1 hfp.2.2.2.2.2
theorem zfM{wi:TI}{i:Nat}{y:Str}{py spos:Pos}(hN:X.N.Nodup)(hi':X.N[i]?=some y)(hx:Loc X.env.scope y)(hc:X.calm=true)(hi:PI X tg iter wi)(hg:∀ C s₀ H₀ fp,PG (yg X own js scope C s₀ H₀ fp) tg (g C s₀ H₀ fp))
  (ht:∀ C s₀ H₀ fp,PTs (yg X own js scope C s₀ H₀ fp) ifs (tt C s₀ H₀ fp))(he:∀ C s₀ H₀ fp,PE (yg X own js scope C s₀ H₀ fp) elt (te C s₀ H₀ fp))
  (ok:zbA js scope X.env.kindOf X.N=true:=by first | rfl | decide +kernel)(hs:∀ x,foldedSetIterable iter X.env x=pure x:=by intro _;rfl)
  (hsw:swapsWith (.ListComp elt [⟨tg,iter,ifs,0⟩] scope pos) (some (.Name y py)) spos.line X.env=pure true:=by rfl)(hf:X.fn y=true∨X.env.scope.names.lookup y=some .local:=by first | exact .inl rfl | exact .inr rfl | assumption):
  PS X (.Assign [.Name y py] (.ListComp elt [⟨tg,iter,ifs,0⟩] scope pos) spos) (jF (zfD wi own js g tt te) (uM i)):=by
 intro pins s σ H D I h
 have ok:=zcz ok
 rw [exec_Assign_Name_used _ _ _ _ hsw]
 refine wpAny_bind (wpAny_standAt (wpAny_bind ?_))
 show wpAny _ X.A (do let _ ← comprehension (.ListComp elt [⟨tg,iter,ifs,0⟩] scope pos) scope X.env _ (newList []) false (eval iter X.env) (some (assign (.Name y py) X.env))) _ _ s
 refine wpAny_bind (wpAny_mono (wpAny_comprehension_free (use:=some (assign (.Name y py) X.env)) (Q:=fun _ s'=>SP X pins D .next s') rfl hs (zbC fun y hy e=>I.ok.has _ (ok.free y hy e)) ok.kind ok.loc (thn (hi pins s σ H _ I h) fun v s1 h1=>thn h1 fun itv s2 h2=>?_))
  (fun _ s' hq=>wpAny_pure (wpAny_pure hq)) fun _ _ e=>e)
 obtain ⟨it,fp,tn,J,H2,e,I2,T,st2,f2,q⟩:=h2
 subst e
 refine zbz (Qv:=fun x H1=>uM i x σ H1 D.nx) (RR:=fun acc C=>compPost (model X.prog X.w) X.A X.xe (some (assign (.Name y py) X.env)) (fun _ s'=>SP X pins D .next s') acc C) hc ok hg ht he I2 T st2 f2 q ?_
 intro Da C H3 s' oC m hoC hn hd hfp I' q'
 have I'':Inv X (pins++[(C,oC)]) σ H3 s':=I'.pins_of fun p hp=>(List.mem_append.mp hp).elim (fun z=>I'.pin p (List.mem_append_right _ z)) fun z=>by
  rw [List.mem_singleton.mp z]
  exact ⟨hoC,hfp.1,hfp.2.1,hfp.2.2.1,hd⟩
 refine thn (zQ (pos:=py) hN hi' hx hf _ s' σ H3 (.ref Da) (.ref Da) _ I'' rfl q') fun _ s'' ⟨σ4,H4,I4,q4⟩=>?_
 have hC4:=I4.pin (C,oC) (List.mem_append_right _ (List.mem_append_right _ List.mem_cons_self))
 refine ⟨m,hn.at' fun o e=>?_,fun h' hs'=>⟨σ4,H4,?_,q4⟩⟩
 ·rw [hoC] at e;cases e;exact hC4.1
 ·have I5:Inv X pins σ4 H4 s'':=I4.unpinned
  exact I5.turned (t':=s''.toks) (fun b o hb e=>(hs'.2 b hb).trans e) hC4.2.1 hfp.2.1 hfp.2.2.2.1 hfp.2.2.2.2.1 hfp.2.2.2.2.2
end
structure Fn (P:Program) (w:World) (K:PySem.W.Frag) (mg:Str->Option Value) (base:Heap) (x:Str) (k:Nat) (ps:List Str) (sp:Sp):Prop where
 ex:∃ f fd,FnOk P w K mg base CX0 k f fd ps sp/\mg x=some (.ref f)/\PySem.W.keepIn K (.ref f)=true/\Binds K fd ps []
theorem zig{X:Cx}{x:Str}{k:Nat}{ps:List Str}{sp:Sp}{e:Expr}{es:List Expr}{t:TA}{p pos:Pos}(F:Fn X.prog X.w X.K X.mg X.base x k ps sp)(hr:Room k X.A)(hg:Gl X x)(ha:PA X (e::es) t)
  (hdb:(x == ("__debug__":Str))=false:=by decide)(he:starEach (e::es) X.env=(false,eval e X.env)::starEach es X.env:=by rfl)(hpl:(backTo pos (starEach es X.env)).any (·.1)=false:=by rfl):
  PE X (.Call (.Name x p) (e::es) [] pos) (zkS sp [] E0 t):=by
 obtain ⟨f,fd,F,hm,hk,hb⟩:=F.ex
 exact zkd F hr hg hm hk hb .nil znl ha hdb he hpl
section
variable {prog:Program} {w:World} {A:Around} {E:Value->Shared->Prop} {s:Shared}
theorem zcx{it t:Addr}{items:Array Value}(hne:t≠it):∀ (n i:Nat) (s:Shared) (Q:List Value->Shared->Prop),s.heap.IsListIter it t i->s.heap.IsList t items->i+n≤items.size->
  (∀ h',h'.IsListIter it t (i+n)->Heap.SameBut it s.heap h'->Q ((items.toList.drop i).take n) { s with heap:=h' })->wpAny (model prog w) A (draw (.ref it) n) Q E s
 | 0,i,s,Q,hit,_,_,hQ=>by
  show wpAny _ _ (pure []) Q E s
  exact wpAny_pure (by simpa using hQ s.heap hit (Heap.SameBut.refl ..))
 | n+1,i,s,Q,hit,ht,hle,hQ=>by
  have hlt:i<items.size:=by omega
  show wpAny _ _ (pyNext (.ref it) >>= _) Q E s
  refine wpAny_bind (wpAny_pyNext_list_item hit ht (x:=items[i]) (by simp [hlt]) fun h₁ hit₁ hs₁=>?_)
  refine wpAny_bind (wpAny_holding (zcx hne n (i+1) _ _ hit₁ (ht.extBut hs₁.extBut hne) (by omega) fun h₂ hit₂ hs₂=>wpAny_pure ?_))
  have hd:items.toList.drop i=items[i]::items.toList.drop (i+1):=by simp [List.drop_eq_getElem_cons,hlt]
  have:=hQ h₂ (by rw [show i+(n+1)=i+1+n by omega];exact hit₂) (hs₁.trans hs₂)
  rw [hd,List.take_succ_cons] at this
  exact this
theorem qI{t:Addr}{items:Array Value}{Q:List Value->Shared->Prop}(hh:A.handled=none)(ht:s.heap.IsList t items)
  (hQ:∀ h',Heap.ExtBut s.heap.objs.size s.heap h'->Q items.toList { s with heap:=h' }):wpAny (model prog w) A (unpackItems (.ref t) items.size none) Q E s:=by
 have hlt:t≠s.heap.objs.size:=by obtain ⟨o,ho,_⟩:=ht;exact Nat.ne_of_lt (Heap.lt_size ho)
 unfold unpackItems
 refine wpAny_bind ?_
 ·unfold notIterableAtAll
  refine wpAny_bind (wpAny_specialOf ht.typeIs slot_list_iter.lookup ?_)
  refine wpAny_pure ?_
  simp only [Bool.false_eq_true,if_false]
  refine wpAny_bind (wpAny_holding (wpAny_pyIter_list ht ?_))
  have hpush:(s.heap.push { cls:=.type "list_iterator",data:=.fields #[.ref t,.int 0 0] }).IsList t items:=by
   obtain ⟨o,ho,r⟩:=ht
   exact ⟨o,Heap.get?_push_of_some _ ho,r⟩
  refine wpAny_bind (wpAny_holding (zcx hlt items.size 0 _ _ ⟨_,Heap.get?_push_size _ rfl,rfl,rfl⟩ hpush (by omega) fun h₁ hit₁ hs₁=>?_))
  have hall:List.take items.size (List.drop 0 items.toList)=items.toList:=by
   rw [List.drop_zero];exact List.take_of_length_le (by simp)
  rw [hall]
  rw [if_neg (by simp)]
  have ht₁:h₁.IsList t items:=hpush.extBut hs₁.extBut hlt
  refine wpAny_bind (wpAny_holding (wpAny_pyNext_list_end hh hit₁ ht₁ (by simp) fun h₂ he₂=>?_))
  simp only [Option.isSome_none,Bool.false_eq_true,if_false]
  refine wpAny_pure (hQ h₂ fun b o hb e=>he₂ b o hb (hs₁.extBut b o hb (Heap.get?_push_of_some _ e)))
theorem qC{env:Env}{elts:List Expr}{x1}{pos:Pos}{t:Addr}{items:Array Value}{Q:Unit->Shared->Prop}(hh:A.handled=none)(ht:s.heap.IsList t items)
  (hn:(assignEach elts env).length=items.size)(hstar:(assignEach elts env).findIdx? (·.1)=none)
  (h:∀ h',Heap.ExtBut s.heap.objs.size s.heap h'->wpAny (model prog w) A (assignInOrder ((assignEach elts env).map (·.2)) items.toList) Q E { s with heap:=h' }):
  wpAny (model prog w) A (assign (.Tuple elts x1 pos) env (.ref t)) Q E s:=by
 rw [assign_Tuple]
 refine wpAny_bind (wpAny_standAt ?_)
 unfold unpack
 rw [hn,hstar]
 exact wpAny_bind (wpAny_holding (qI hh ht h))
end
section
variable {X:Cx} {pos:Pos}
noncomputable def zox(K:PySem.W.Frag)(n:Nat)(t:TGs):TG:=fun v σ H Q=>∃ a xs,v=.ref a/\SqL K H a xs/\xs.length=n/\t xs σ H Q
theorem zlJ{es:List Expr}{k:Nat}{t:TGs}{n:Nat}(hc:X.calm=true)(h:PGs X es t)
  (hn:(assignEach es X.env).length=n:=by rfl)(hst:(assignEach es X.env).findIdx? (·.1)=none:=by rfl):PG X (.Tuple es k pos) (zox X.K n t):=by
 intro pins s σ H v u Q I r hw
 obtain ⟨a,xs,e1,hq,hl,hw⟩:=hw
 subst e1
 cases r
 obtain ⟨its,rv,ht,hz⟩:=I.list hq
 refine qC (I.ok.hd hc) ht.isList (by simp [hn,← hl,rv.length]) hst fun h' hx=>?_
 have I1:Inv X pins σ H { s with heap:=h' }:=I.kept (t':=s.toks) fun b o e=>hx b o (Nat.ne_of_lt (Heap.lt_size e)) e
 exact h pins _ σ H xs _ Q I1 (by simpa using rv) hw
end
section
variable {prog:Program} {w:World} {A:Around} {E:Value->Shared->Prop} {s:Shared}
theorem jt{t sl:Addr}{items:Array Value}{vl vu:Value}{lo hi:Option Int}{Q:Value->Shared->Prop}(ht:IsTup s.heap t items)(hs:s.heap.IsSliceOf sl vl vu .none)(pl:IsPart vl lo)(pu:IsPart vu hi)
  (hw:HT.sIx items.size 0 lo=0/\HT.sIx items.size items.size hi=items.size)(h:Q (.ref t) s):wpAny (model prog w) A (getItem (.ref t) (.ref sl)) Q E s:=by
 obtain ⟨os,hos,hcs,hds⟩:=id hs
 have hTs:s.TypeIs (.ref sl) "slice":=⟨os,hos,hcs⟩
 unfold getItem
 try with_reducible refine wpAny_holding ?_
 first | refine wpAny_bind (wpAny_pure ?_) | skip
 refine wpAny_bind (wpAny_sequenceKey ht.typeIs (by decide) ?_)
 refine wpAny_bind (wpAny_callSpecial?_slot (name:=Str.ofString "__getitem__") ht.typeIs PyProof.Rows.slot_tuple_getitem
  (wpAny_call_entry PyProof.Rows.slot_tuple_getitem ht.typeIs entry_tuple_getitem ?_ (args_tuple_getitem _ _)))
 show wpAny _ _ (Builtin.Tuple.tupleItemsOf (.ref t) >>= _) _ _ s
 refine wpAny_bind (tupleItemsOf_ ht ?_)
 refine wpAny_bind (wpAny_typeOf hTs ?_)
 rw [if_pos (by decide)]
 refine wpAny_bind (HT.sliceApplied_gen hs pl pu ?_)
 have hyes:(((HT.sIx items.size 0 lo:Nat):Int) == 0 && (1:Int) == 1 && (HT.sIx items.size items.size hi - HT.sIx items.size 0 lo) == items.size)=true:=by
  rw [hw.1,hw.2];simp
 show wpAny _ _ (if (((HT.sIx items.size 0 lo:Nat):Int) == 0 && (1:Int) == 1 && (HT.sIx items.size items.size hi - HT.sIx items.size 0 lo) == items.size)=true then _ else _) _ _ s
 rw [if_pos hyes]
 refine wpAny_bind ?_
 unfold Builtin.Tuple.tupleIsExact
 refine wpAny_bind (wpAny_typeOf ht.typeIs (wpAny_pure ?_))
 rw [if_pos (by decide)]
 first
  | exact wpAny_bind (wpAny_rule (wpAny_pure ⟨_,rfl,wpAny_pure h⟩))
  | exact wpAny_bind (wpAny_rule (wpAny_bind (wpAny_pure (wpAny_pure ⟨_,rfl,wpAny_pure h⟩))))
  | exact wpAny_bind (wpAny_rule (wpAny_bind (wpAny_pure ⟨_,rfl,wpAny_pure h⟩)))
end
section
variable {X:Cx}
noncomputable def zna(K:PySem.W.Frag):V->Option Int->Option Int->Hp->VK->Prop:=fun x lo hi H Q=>∃ a xs,x=.ref a/\SqT K H a xs/\(zbx xs lo hi=xs->Q (.ref a) H)/\∀ p,H p=none->Q (.ref p) (upd H p (.tup (zbx xs lo hi)))
theorem zjG:SlR X (zna X.K):=by
 intro pins s σ H x v vl vu lo hi sl Q I rx hs pl pu h
 obtain ⟨a,xs,rfl,hx,q1,q2⟩:=h
 by_cases hw:HT.sIx xs.length 0 lo=0/\HT.sIx xs.length xs.length hi=xs.length
 ·cases rx
  obtain ⟨its,r,ht,hz⟩:=I.tuple hx
  have hlen:its.toArray.size=xs.length:=by rw [List.size_toArray];exact r.length.symm
  refine ⟨"tuple",_,PyProof.Rows.slot_tuple_getitem.lookup,ht.typeIs,?_⟩
  refine jt ht hs pl pu (by rw [hlen];exact hw) ⟨.ref a,H,I,rfl,q1 ?_⟩
  unfold zbx
  rw [hw.1,hw.2]
  simp
 ·exact zls pins s σ H _ v vl vu lo hi sl Q I rx hs pl pu ⟨a,xs,rfl,hx,hw,q2⟩
theorem zfA:∀ {ns:List String} {us:List Value},Vals (ns.map V.ty) us->us=ns.map Value.type
 | [],_,h=>by cases h;rfl
 | n::ns,_,h=>by
  cases h with
  | cons r t=>cases r;rw [zfA t];rfl
theorem op_mulB:OpR X (binaryOp .Mult) (rI IntMulOk fun i j=>.int (i * j)):=opI fun _ _ _ _ _ _ _ hc q=>mul_int q hc
theorem zaJ(hu:X.A.units+1<cLine):OpR X (compareOp .In) (fun x y H Q=>∃ a o,y=.ref a/\DGet H a x o/\Q (.bl o.isSome) H):=by
 intro pins s σ H x y v u Q I rx ry h
 obtain ⟨a,o,rfl,g,q⟩:=h
 cases ry
 exact zoA hu I g rx fun s' I'=>⟨.bl _,H,I',rfl,q⟩
theorem zbM(hu:X.A.units+1<cLine):OpR X (compareOp .NotIn) (fun x y H Q=>∃ a o,y=.ref a/\DGet H a x o/\Q (.bl (!o.isSome)) H):=by
 intro pins s σ H x y v u Q I rx ry h
 obtain ⟨a,o,rfl,g,q⟩:=h
 cases ry
 exact zkI hu I g rx fun s' I'=>⟨.bl _,H,I',rfl,q⟩
noncomputable def zkO(K:PySem.W.Frag)(H:Hp)(y x:V)(b:Bool):Prop:=
 (∃ p xs,y=.ref p/\(SqL K H p xs∨SqT K H p xs)/\u7 x=true/\xs.all u7=true/\b=inV x xs)∨∃ a o,y=.ref a/\DGet H a x o/\b=o.isSome
theorem zgQ(hu:X.A.units+1<cLine):OpR X (compareOp .In) (fun x y H Q=>∃ b,zkO X.K H y x b/\Q (.bl b) H):=by
 intro pins s σ H x y v u Q I rx ry h
 obtain ⟨b,h | h,q⟩:=h
 ·obtain ⟨p,xs,rfl,h1,h2,h3,rfl⟩:=h
  exact zgP pins s σ H x _ v u Q I rx ry ⟨p,xs,rfl,h1,h2,h3,q⟩
 ·obtain ⟨a,o,rfl,h1,rfl⟩:=h
  exact zaJ hu pins s σ H x _ v u Q I rx ry ⟨a,o,rfl,h1,q⟩
theorem zcS(hu:X.A.units+1<cLine):OpR X (compareOp .NotIn) (fun x y H Q=>∃ b,zkO X.K H y x b/\Q (.bl (!b)) H):=by
 intro pins s σ H x y v u Q I rx ry h
 obtain ⟨b,h | h,q⟩:=h
 ·obtain ⟨p,xs,rfl,h1,h2,h3,rfl⟩:=h
  exact zcR pins s σ H x _ v u Q I rx ry ⟨p,xs,rfl,h1,h2,h3,q⟩
 ·obtain ⟨a,o,rfl,h1,rfl⟩:=h
  exact zbM hu pins s σ H x _ v u Q I rx ry ⟨a,o,rfl,h1,q⟩
theorem zbE(hc:X.calm=true):CallR X (.type "list") (fun xs H Q=>∃ p kvs,xs=[.ref p]/\H p=some (.dK kvs)/\∀ l,H l=none->Q (.ref l) (upd H l (.lst (kvs.map fun kv=>kV kv.1)))):=by
 intro pins s σ H xs us Q I r h
 obtain ⟨p,kvs,rfl,hp,q⟩:=h
 obtain ⟨u,rfl,rx⟩:=zbX r
 cases rx
 obtain ⟨hz,hS,vs,rel,o,es,ep,h1,h2,h3,h4⟩:=k9 I.hok hp
 have hlen:kvs.length=vs.length:=rel.length
 have hn:H s.heap.objs.size=none:=I.hok.fresh (Nat.le_refl _)
 refine PySem.W.kdl_call (PySem.W.kdl_dict (kvs:=vs) (ep:=ep) hS) (I.ok.hd hc) ⟨o,es,h1,h2,h3,h4⟩ (by omega) fun h' tk acc' c' hk hl hi=>?_
 have rv:Vals (kvs.map fun kv=>kV kv.1) acc'.toList:=by
  have key:∀ (l:List (Key × V)) (m:List (Key × Value)) (us:List Value),KV l m->us.length=m.length->(∀ (j:Nat) (v:Value),us[j]?=some v->∃ k x,m[j]?=some (k,x)/\(zk X.prog X.w).is k v=true)->Vals (l.map fun kv=>kV kv.1) us:=by
   intro l m us hr
   unfold KV at hr
   induction hr generalizing us with
   | nil=>intro hl _;cases us with
    | nil=>exact .nil
    | cons _ _=>simp at hl
   | @cons a b l m hab t ih=>
    intro hl hv
    cases us with
    | nil=>simp at hl
    | cons u us=>
     refine .cons ?_ (ih us (by simpa using hl) fun j v hj=>by simpa using hv (j+1) v (by simpa using hj))
     obtain ⟨k,x,e,hk⟩:=hv 0 u rfl
     simp only [List.getElem?_cons_zero,Option.some.injEq] at e
     have e1:b.1=k:=by rw [e]
     show RelV (kV a.1) u
     rw [hab.1,e1]
     rw [zaV] at hk
     rcases zo hk with ⟨i,t,rfl,rfl⟩ | ⟨x,t,rfl,rfl⟩
     ·exact ⟨t,rfl⟩
     ·exact ⟨t,rfl⟩
  refine key kvs vs _ rel (by rw [Array.length_toList];exact hi.1) fun j v hj=>hi.2 j v (by rw [← Array.getElem?_toList];exact hj)
 refine ⟨.ref s.heap.objs.size,_,I.laid hk (Nat.le_refl _) (show ObjOk X.prog X.w _ h' _ (.lst (kvs.map fun kv=>kV kv.1)) from ⟨by rw [List.length_map];exact hz,acc'.toList,c',rv,by rw [Array.toArray_toList];exact hl⟩),rfl,q _ hn⟩
end
mutual
inductive Rep (K:PySem.W.Frag) (H:Hp):V->PyData->Prop
 | non:Rep K H .non .none
 | bl (b:Bool):Rep K H (.bl b) (.bool b)
 | int (i:Int):Rep K H (.int i) (.int i)
 | str (x:Str):Rep K H (.str x) (.str x)
 | list {a:Addr} {xs:List V} {ds:List PyData}:SqL K H a xs->Reps K H xs ds->Rep K H (.ref a) (.list ds)
 | tuple {a:Addr} {xs:List V} {ds:List PyData}:SqT K H a xs->Reps K H xs ds->Rep K H (.ref a) (.tuple ds)
inductive Reps (K:PySem.W.Frag) (H:Hp):List V->List PyData->Prop
 | nil:Reps K H [] []
 | cons {x:V} {d:PyData} {xs:List V} {ds:List PyData}:Rep K H x d->Reps K H xs ds->Reps K H (x::xs) (d::ds)
end
theorem Same.tup{K:PySem.W.Frag}{H H':Hp}{a:Addr}{xs:List V}(e:Same H H')(h:SqT K H a xs):SqT K H' a xs:=by
 rcases h with (h | ⟨o,h⟩) | h
 ·exact .inl (.inl (e _ _ h))
 ·exact .inl (.inr ⟨o,e _ _ h⟩)
 ·exact .inr h
mutual
theorem Rep.same{K:PySem.W.Frag}{H H':Hp}(e:Same H H'):∀ {x:V} {d:PyData},Rep K H x d->Rep K H' x d
 | _,_,.non=>.non
 | _,_,.bl b=>.bl b
 | _,_,.int i=>.int i
 | _,_,.str x=>.str x
 | _,_,.list h r=>.list (e.seq h) (Reps.same e r)
 | _,_,.tuple h r=>.tuple (e.tup h) (Reps.same e r)
theorem Reps.same{K:PySem.W.Frag}{H H':Hp}(e:Same H H'):∀ {xs:List V} {ds:List PyData},Reps K H xs ds->Reps K H' xs ds
 | _,_,.nil=>.nil
 | _,_,.cons h t=>.cons (Rep.same e h) (Reps.same e t)
end
mutual
theorem Rep.reads{X:Cx}{pins:List (Addr × Obj)}{σ:St}{H:Hp}{s:Shared}(I:Inv X pins σ H s):∀ {x:V} {d:PyData} {u:Value},Rep X.K H x d->RelV x u->∃ as,Reads s.heap u d as
 | _,_,_,.non,r=>by cases r;exact ⟨_,.none⟩
 | _,_,_,.bl b,r=>by cases r;exact ⟨_,.bool b⟩
 | _,_,_,.int i,r=>by obtain ⟨t,rfl⟩:=r;exact ⟨_,.int i t⟩
 | _,_,_,.str x,r=>by obtain ⟨t,rfl⟩:=r;exact ⟨_,.str x t⟩
 | _,_,_,.list h q,r=>by
  cases r
  obtain ⟨its,rv,⟨o,n,e,c,d,hd⟩,hz⟩:=I.list h
  obtain ⟨as,ra⟩:=Reps.reads I q rv
  exact ⟨_,.list e c hd (by simpa using ra)⟩
 | _,_,_,.tuple h q,r=>by
  cases r
  obtain ⟨its,rv,⟨o,e,c,n,hd⟩,hz⟩:=I.tuple h
  obtain ⟨as,ra⟩:=Reps.reads I q rv
  exact ⟨_,.tuple e c hd (by simpa using ra)⟩
theorem Reps.reads{X:Cx}{pins:List (Addr × Obj)}{σ:St}{H:Hp}{s:Shared}(I:Inv X pins σ H s):∀ {xs:List V} {ds:List PyData} {us:List Value},Reps X.K H xs ds->Vals xs us->∃ as,ReadsAll s.heap us ds as
 | _,_,_,.nil,r=>by cases r;exact ⟨_,.nil⟩
 | _,_,_,.cons h t,r=>by
  cases r with
  | cons r1 r2=>
   obtain ⟨as,ra⟩:=Rep.reads I h r1
   obtain ⟨bs,rb⟩:=Reps.reads I t r2
   exact ⟨_,.cons ra rb⟩
end
section
variable {X:Cx}
open PySem.SeqAt in
theorem jP(hu:X.A.units+64<cLine):OpR X (compareOp .Eq) (fun x y H Q=>∃ d e,Rep X.K H x d/\Rep X.K H y e/\d.canLay0=true/\e.canLay0=true/\d.depth≤64/\Q (.bl (PyData.eqv d e)) H):=by
 intro pins s σ H x y v u Q I rx ry h
 obtain ⟨d,e,hd,he,h1,h2,h3,q⟩:=h
 obtain ⟨as,ra⟩:=hd.reads I rx
 obtain ⟨bs,rb⟩:=he.reads I ry
 exact compareEq_reads ra rb h1 h2 (by have:=Nat.min_le_left d.depth e.depth;omega) ⟨.bl _,H,I,rfl,q⟩
open PySem.SeqAt in
theorem vq(hu:X.A.units+64<cLine):OpR X (compareOp .NotEq) (fun x y H Q=>∃ d e,Rep X.K H x d/\Rep X.K H y e/\d.canLay0=true/\e.canLay0=true/\d.depth≤64/\Q (.bl (!PyData.eqv d e)) H):=by
 intro pins s σ H x y v u Q I rx ry h
 obtain ⟨d,e,hd,he,h1,h2,h3,q⟩:=h
 obtain ⟨as,ra⟩:=hd.reads I rx
 obtain ⟨bs,rb⟩:=he.reads I ry
 exact compareNe_reads ra rb h1 h2 (by have:=Nat.min_le_left d.depth e.depth;omega) ⟨.bl _,H,I,rfl,q⟩
end
section
variable {X:Cx} {pos:Pos}
theorem jO{x:Str}{T:String}(hg:Gl X x)(hm:X.mg x=none)(hv:bootBuiltins x=some (.type T))(hn:x≠"__name__":=by decide)(hd:(x == ("__debug__":Str))=false:=by decide):PE X (.Name x pos) (tC (.ty T)):=
 zke hg hm hv (show RelV (.ty T) (.type T) from rfl) hn hd
theorem zjY{x:Str}{i:Int}{t:Tok}(hg:Gl X x)(hm:X.mg x=some (.int i t))(hd:(x == ("__debug__":Str))=false:=by decide):PE X (.Name x pos) (tC (.int i)):=
 zjX hg hm (show RelV (.int i) (.int i t) from ⟨t,rfl⟩) hd
end
noncomputable def cW(D:Addr)(xs:List V)(τ:St)(Pv:Nat->List V->Hp->Prop)(i m:Nat)(σ:St)(H:Hp):Prop:=
 ∃ o ys,σ=o::τ/\H D=some (.lst ys)/\ys.length≤i/\i≤xs.length/\m=xs.length - i/\Pv i ys H
noncomputable def zoZ(D:Addr)(xs:List V)(τ:St)(Pv:Nat->List V->Hp->Prop)(i:Nat)(x:V)(y:V)(H6:Hp):Prop:=
 ∃ ys,H6 D=some (.lst ys)/\ys.length<sizeLine/\∃ m',m'<xs.length - i/\cW D xs τ Pv (i+1) m' (some x::τ) (upd H6 D (.lst (ys++[y])))
noncomputable def zoR(D:Addr)(xs:List V)(τ:St)(Pv:Nat->List V->Hp->Prop)(i:Nat)(x:V)(H5:Hp):Prop:=
 ∃ m',m'<xs.length - i/\cW D xs τ Pv (i+1) m' (some x::τ) H5
section
variable {J:It} {v:Str} {js:List Nat} {tt:TT} {te:TE} {σ:St} {H1:Hp} {Q:VK}
noncomputable def zdH(lo:Int)(n:Nat):List V:=(List.range n).map fun (i:Nat)=>V.int (lo+i)
theorem zhN{lo:Int}{n i:Nat}{x:V}(h:(zdH lo n)[i]?=some x):i<n/\x=V.int (lo+i):=by
 unfold zdH at h
 rw [List.getElem?_map] at h
 by_cases hi:i<n
 ·rw [List.getElem?_range hi] at h
  exact ⟨hi,(Option.some.inj h).symm⟩
 ·rw [List.getElem?_eq_none (by simpa using hi)] at h
  cases h
theorem zdG(lo:Int)(n:Nat):(zdH lo n).length=n:=by simp [zdH]
end
theorem z0{H H':Hp}{D:Addr}{o:HO}(s:Same H H')(hD:H D=none):Same H (upd H' D o):=fun b u e=>by
 rw [zd (yY e hD)]
 exact s b u e
theorem bits_of_weight:∀ (ns:List Int),PySem.W.WData.weightAll (ns.map PySem.W.WData.int)≤2 ^ 20->∀ n ∈ ns,Builtin.Int.intBits n≤1048576
 | [],_,_,h=>nomatch h
 | m::ns,hw,n,h=>by
  rw [List.map_cons] at hw
  unfold PySem.W.WData.weightAll at hw
  rcases List.mem_cons.mp h with rfl | h
  ·have:PySem.W.WData.weight (PySem.W.WData.int n)=Builtin.Int.intBits n:=by unfold PySem.W.WData.weight Builtin.Int.intBits;rfl
   omega
  ·exact bits_of_weight ns (by omega) n h
end L2
namespace Att
open PySem PySem.W PySem.Calls PyProof.Rows
theorem attach_callB{l:OpenLaw}{n:Nat}{q:Program}{loose:List Str}{XP:(Str->Option Value)->Heap->Prop}{YP:World->Heap->Prop}{d:DefRec}
  (hn:l.most=some n)(hdf:d.params.defaults=[])
  (call:∀ (w:World) (s₀ s₁:Shared) (mg mb:Str->Option Value) (fa:Addr) (o:Obj) (pm cd doc:Value) (a:Addr) (vs:List Value) (ns:List Int),
   Ground q loose [] XP w s₀ mg mb s₁.heap->YP w s₁.heap->
   s₁.heap.get? fa=some o->o.data=.func (docDef d.name d.params d.body d.scope pm cd doc)->s₁.heap.CodeRec cd d.name->mg d.name=some (.ref fa)->
   s₁.heap.get? a=some { cls:=.type "list",data:=.seq vs.toArray }->IntsAre vs ns->ns.length≤n->(∀ m ∈ ns,Builtin.Int.intBits m≤1048576)->s₁.gens=#[]->
   codeAny (model l.prog w) callerA (.call (.ref fa) ⟨[.ref a],[]⟩) (fun r s'=>r=.ok (.ret (.bool true))/\OldK s₁.heap s'.heap/\s'.os=s₁.os/\AllBare s'.gens) s₁):
  WalkO q loose XP YP l.row.toRowW d [] (fun f vs=>PySem.call f vs):=by
 intro w s₀ s₁ mg mb G Y fa o pm cd doc dV kV ho hd hcd hD hmg hg args vals as hpre hlay hrd hwl hlo
 obtain rfl:dV=.none:=Dflts.none hD hdf
 obtain rfl:kV=.none:=Dflts.noKw hD
 obtain ⟨a,vs,ns,rfl,rfl,hobj,hints,hlen⟩:=zgH hn hpre hwl
 have hb:∀ m ∈ ns,Builtin.Int.intBits m≤1048576:=by
  refine L2.bits_of_weight ns ?_
  have h1:WData.layable (WData.list (ns.map WData.int))=true:=by simpa [WData.layableAll] using hlay
  unfold WData.layable at h1
  have h2:=of_decide_eq_true (Bool.and_eq_true_iff.mp h1).2
  unfold WData.weight at h2
  exact h2
 refine enter_call (codeAny_mono (call w s₀ s₁ mg mb fa o pm cd doc a vs ns G Y ho (fd_plain hd) hcd hmg hobj hints hlen hb hg) fun r s' hq=>?_)
 obtain ⟨rfl,h2,h3,h4⟩:=hq
 exact ⟨.inl ⟨.bool true,.bool true,[],rfl,fun _=>rfl,.bool true,zgK l _,fun _=>⟨List.Pairwise.nil,fun _ hm=>(nomatch hm)⟩⟩,h2,h3,h4⟩
end Att
namespace L2
open PySem PySem.Spec PyProof.Rows
theorem walk_ofB{l:PySem.W.OpenLaw}{n k:Nat}{q:Program}{loose:List Str}{XP:(Str->Option Value)->Heap->Prop}{YP:World->Heap->Prop}{d:DefRec}{K:Params->PySem.W.Frag}{CX:World->CXT}{sp:World->Sp}{x:Str}
  (hn:l.most=some n)(hn2:n≤sizeLine)(hdf:d.params.defaults=[])(hr:Room k callerA)
  (hY:∀ (w:World) (h:Heap),YP w h->(K w.params).In h)
  (F:∀ (w:World) (mg:Str->Option Value) (fa:Addr) (h:Heap),(K w.params).In h->h.Ns mainGlobals mg->mg d.name=some (.ref fa)->
   ∃ fd:FuncData,(∀ (s:Shared) (u:Value),BindsTo s fd ⟨[u],[]⟩ [(x,u)])/\
    ∀ base:Heap,(K w.params).In base->base.Ns mainGlobals mg->FnOk l.prog w (K w.params) mg base (CX w) k fa fd [x] (sp w))
  (hsp:∀ (w:World) (H:Hp) (a:Addr) (ns:List Int),ns.length≤n->(∀ m ∈ ns,Builtin.Int.intBits m≤1048576)->zkN H->SqL (K w.params) H a (ns.map V.int)->sp w [.ref a] H (fun v _=>v=.bl true) fun _ _ _=>False)
  (hCX:∀ (w:World) (H:Hp) (s:Shared) (e:Value) (s':Shared),CX w [] H s (fun _ _ _=>False) e s'->False):
  PySem.W.WalkO q loose XP YP l.row.toRowW d [] (fun f vs=>PySem.call f vs):=by
 refine Att.attach_callB hn hdf fun w s₀ s₁ mg mb fa o pm cd doc a vs ns G Y ho hd hcd hmg hobj hints hlen hb hg=>?_
 have KX:=hY w _ Y
 obtain ⟨fd,hbd,hF⟩:=F w mg fa _ KX G.T.g hmg
 exact ziB KX G.T.g G.T.b G.T.builtins G.T.nolimit hg hobj hints (Nat.le_trans hlen hn2) hr hF hbd (fun H hO hS=>hsp w H a ns hlen hb hO hS) fun H e s'=>hCX w H s₁ e s'
section
variable {prog:Program} {w:World} {A:Around} {E:Value->Shared->Prop} {s:Shared}
theorem vO(s:Shared):s.TypeIs .none "NoneType":=by first | exact rfl | trivial | (unfold Shared.TypeIs;trivial)
theorem kR{Q:Int->Shared->Prop}(h:Q 0xFCA86420 { s with toks:=s.toks+1 }):wpAny (model prog w) A (pyHash .none) Q E s:=by
 unfold pyHash
 unfold pyHashByItsType
 have hv:[Value.none].any Value.onHeap=false:=rfl
 refine wpAny_bind ?_
 rw [cRoomFor,if_neg (by rw [hv];exact Bool.false_ne_true)];refine wpAny_pure ?_
 refine wpAny_bind (wpAny_specialOf (vO s) PySem.F.slot_NoneType_hash.lookup ?_)
 show wpAny _ _ (if (some (Value.builtin "NoneType.__hash__") == some Value.none)=true then _ else _) Q E s
 rw [if_neg (by rw [beq_builtin_none];exact Bool.false_ne_true)]
 refine wpAny_bind (wpAny_specialOf (vO s) PySem.F.slot_NoneType_hash.lookup ?_)
 show wpAny _ _ (callSpecialIfBoundUnlessNone? .none "__hash__" _ >>= _) Q E s
 refine wpAny_bind (wpAny_callSpecialIfBoundUnlessNone?_slot (vO s) PySem.F.slot_NoneType_hash
  (wpAny_call_entry PySem.F.slot_NoneType_hash (vO s) PySem.F.entry_NoneType_hash
   (show wpAny _ _ (do ret (← mkInt 0xFCA86420)) _ _ s from wpAny_ret_mkInt ?_) (PySem.F.args_NoneType_hash_1 _)))
 show wpAny _ _ (if (decide (-(2:Int) ^ 63≤0xFCA86420) && decide ((0xFCA86420:Int)<2 ^ 63))=true then _ else _) Q E _
 rw [if_pos (by decide)]
 exact wpAny_pure h
end
noncomputable def zcQ(prog:Program)(w:World):PySem.KeyKind prog w (Option Key) where
 is:=fun o v=>match o with | some k=>qq k v | none=>(v == Value.none)
 hash:=fun o=>match o with | some k=>znt w k | none=>0xFCA86420
 inj:=fun v a b ha hb=>by
  cases a with
  | none=>
   have ha:v=Value.none:=eq_of_beq ha
   subst ha
   cases b with
   | none=>rfl
   | some k=>rcases zo hb with ⟨_,_,_,e⟩ | ⟨_,_,_,e⟩<;>cases e
  | some k=>
   cases b with
   | none=>
    have hb:v=Value.none:=eq_of_beq hb
    subst hb
    rcases zo ha with ⟨_,_,_,e⟩ | ⟨_,_,_,e⟩<;>cases e
   | some k'=>rw [(zk prog w).inj v k k' ha hb]
 byValue:=fun k v h=>by
  cases k with
  | none=>have h:v=Value.none:=eq_of_beq h;subst h;rfl
  | some k=>exact (zk prog w).byValue k v h
 pyHash:=fun {A E s k v Q} hv h=>by
  cases k with
  | none=>have hv:v=Value.none:=eq_of_beq hv;subst hv;exact kR h
  | some k=>exact (zk prog w).pyHash (k:=k) hv h
 eqBool:=fun {A E s a b u v Q} hu hv h=>by
  cases a with
  | none=>
   have hu:u=Value.none:=eq_of_beq hu
   subst hu
   cases b with
   | none=>
    have hv:v=Value.none:=eq_of_beq hv
    subst hv
    exact SeqAt.EqAt.same .none _ _ _ _ (by simpa using h)
   | some k=>
    have h:Q false s:=by simpa using h
    rcases zo hv with ⟨i,t,rfl,rfl⟩ | ⟨x,t,rfl,rfl⟩
    ·exact SeqAt.EqAt.none_int i t _ _ _ _ h
    ·exact SeqAt.EqAt.none_str x t _ _ _ _ h
  | some k=>
   cases b with
   | none=>
    have hv:v=Value.none:=eq_of_beq hv
    subst hv
    have h:Q false s:=by simpa using h
    rcases zo hu with ⟨i,t,rfl,rfl⟩ | ⟨x,t,rfl,rfl⟩
    ·exact SeqAt.EqAt.int_none i t _ _ _ _ h
    ·exact SeqAt.EqAt.str_none x t _ _ _ _ h
   | some k'=>
    refine (zk prog w).eqBool (a:=k) (b:=k') hu hv ?_
    have e:decide (some k=some k')=decide (k=k'):=by by_cases z:k=k'<;>simp [z]
    rw [e] at h
    exact h
 «strs»:=fun k x t v h=>by
  cases k with
  | none=>
   have z:Value.str x t=Value.none:=eq_of_beq h
   cases z
  | some k=>exact (zk prog w).strs k x t v h
theorem zec{P:Program}{w:World}{h:Heap}{a:Addr}{f:Key->Option Value}(m:h.MapOf (zk P w) a f):h.MapOf (zcQ P w) a (fun o=>match o with | some k=>f k | none=>none):=by
 obtain ⟨o,es,ep,h1,h2,h3,h4,h5⟩:=m
 refine ⟨o,es,ep,h1,h2,h3,fun e he=>?_,fun k=>?_⟩
 ·obtain ⟨k,a1,a2⟩:=h4 e he
  exact ⟨some k,a1,a2⟩
 ·cases k with
  | some k=>exact h5 k
  | none=>
   unfold findBy
   rw [Option.map_eq_none_iff,Array.find?_eq_none]
   intro e he z
   obtain ⟨k,a1,a2⟩:=h4 e he
   have z:e.key=Value.none:=eq_of_beq z
   rw [z] at a1
   rcases zo a1 with ⟨_,_,_,e⟩ | ⟨_,_,_,e⟩<;>cases e
section
variable {X:Cx}
theorem zdR(hu:X.A.units+1<cLine):OpR X (compareOp .In) (fun x y H Q=>∃ a,y=.ref a/\((∃ o,DGet H a x o/\Q (.bl o.isSome) H)∨(∃ kvs,x=.non/\H a=some (.dK kvs)/\Q (.bl false) H))):=by
 intro pins s σ H x y v u Q I rx ry h
 obtain ⟨a,rfl,h | h⟩:=h
 ·obtain ⟨o,g,q⟩:=h
  exact zaJ hu pins s σ H x _ v u Q I rx ry ⟨a,o,rfl,g,q⟩
 ·obtain ⟨kvs,rfl,ha,q⟩:=h
  cases ry
  cases rx
  obtain ⟨z,hd,vs,rel,dd⟩:=k9 I.hok ha
  exact wpAny_in_of (knd:=zcQ X.prog X.w) (k:=none) rfl hd (zec dd.mapOf) ⟨.bl false,H,I.tok _,rfl,q⟩
end
end L2
namespace CB
inductive Reach (R:Int->Int->Prop) (S A:Int->Prop):Int->Prop where
 | start {p:Int}:A p->S p->Reach R S A p
 | step {p q:Int}:Reach R S A p->R p q->S q->Reach R S A q
theorem Reach.inS{R S A}{p:Int}(h:Reach R S A p):S p:=by
 cases h with
 | start _ h=>exact h
 | step _ _ h=>exact h
theorem Reach.mono{R:Int->Int->Prop}{S S' A A':Int->Prop}(hA:∀ p,A p->S p->Reach R S' A' p)(hS:∀ p,Reach R S A p->S' p){p:Int}(h:Reach R S A p):Reach R S' A' p:=by
 induction h with
 | start a s=>exact hA _ a s
 | step h r s ih=>exact .step ih r (hS _ (.step h r s))
theorem zL:∀ (xs ys:List Int),xs.Nodup->(∀ x ∈ xs,x ∈ ys)->xs.length≤ys.length
 | [],ys,_,_=>Nat.zero_le _
 | x::xs,ys,nd,h=>by
  have hx:x ∈ ys:=h x List.mem_cons_self
  have nd':=List.nodup_cons.mp nd
  have ih:=zL xs (ys.erase x) nd'.2 fun z hz=>by
   have hzx:z≠x:=fun e=>nd'.1 (e ▸ hz)
   exact (List.mem_erase_of_ne hzx).mpr (h z (List.mem_cons_of_mem _ hz))
  rw [List.length_erase_of_mem hx] at ih
  have:0<ys.length:=List.length_pos_of_mem hx
  simp only [List.length_cons]
  omega
theorem wl{xs ys:List Int}(nd:xs.Nodup)(nd':ys.Nodup)(h:∀ x ∈ xs,x ∈ ys):xs.length=ys.length ↔ ∀ y ∈ ys,y ∈ xs:=by
 constructor
 ·intro e y hy
  refine Classical.byContradiction fun hn=>?_
  have:xs.length≤(ys.erase y).length:=zL xs (ys.erase y) nd fun z hz=>by
   have hzy:z≠y:=fun e=>hn (e ▸ hz)
   exact (List.mem_erase_of_ne hzy).mpr (h z hz)
  rw [List.length_erase_of_mem hy] at this
  have:0<ys.length:=List.length_pos_of_mem hy
  omega
 ·intro h'
  exact Nat.le_antisymm (zL _ _ nd h) (zL _ _ nd' h')
structure Dfs (R:Int->Int->Prop) (S A:Int->Prop) (found waiting:List Int):Prop where
 nd:found.Nodup
 sound:∀ p ∈ found,Reach R S A p
 soundW:∀ p ∈ waiting,Reach R S A p
 starts:∀ p,A p->S p->p ∈ found∨p ∈ waiting
 closed:∀ p ∈ found,∀ q,R p q->S q->q ∈ found∨q ∈ waiting
section
variable {R:Int->Int->Prop} {S A:Int->Prop} {found ws nbs:List Int} {p:Int}
theorem Dfs.init{starts:List Int}(h:∀ q,q ∈ starts ↔ A q/\S q):Dfs R S A [] starts:=
 ⟨List.nodup_nil,(fun _ h=>nomatch h),fun p hp=>.start ((h p).mp hp).1 ((h p).mp hp).2,fun p a s=>.inr ((h p).mpr ⟨a,s⟩),(fun _ h=>nomatch h)⟩
theorem Dfs.old(d:Dfs R S A found (ws++[p]))(hp:p ∈ found):Dfs R S A found ws:=by
 refine ⟨d.nd,d.sound,fun q hq=>d.soundW q (List.mem_append_left _ hq),fun q a s=>?_,fun q hq r hr s=>?_⟩
 ·rcases d.starts q a s with h | h
  ·exact .inl h
  ·rcases List.mem_append.mp h with h | h
   ·exact .inr h
   ·rw [List.mem_singleton.mp h];exact .inl hp
 ·rcases d.closed q hq r hr s with h | h
  ·exact .inl h
  ·rcases List.mem_append.mp h with h | h
   ·exact .inr h
   ·rw [List.mem_singleton.mp h];exact .inl hp
theorem Dfs.new(d:Dfs R S A found (ws++[p]))(hp:p ∉ found)(hn:∀ q,q ∈ nbs ↔ R p q/\S q):Dfs R S A (found++[p]) (ws++nbs):=by
 have rp:Reach R S A p:=d.soundW p (List.mem_append_right _ List.mem_cons_self)
 have mv:∀ q,q ∈ found∨q ∈ ws++[p]->q ∈ found++[p]∨q ∈ ws++nbs:=fun q h=>by
  rcases h with h | h
  ·exact .inl (List.mem_append_left _ h)
  ·rcases List.mem_append.mp h with h | h
   ·exact .inr (List.mem_append_left _ h)
   ·exact .inl (List.mem_append_right _ h)
 refine ⟨?_,fun q hq=>?_,fun q hq=>?_,fun q a s=>mv q (d.starts q a s),fun q hq r hr s=>?_⟩
 ·rw [List.nodup_append]
  refine ⟨d.nd,by simp,fun a ha b hb=>?_⟩
  rw [List.mem_singleton.mp hb]
  exact fun e=>hp (e ▸ ha)
 ·rcases List.mem_append.mp hq with h | h
  ·exact d.sound q h
  ·rw [List.mem_singleton.mp h];exact rp
 ·rcases List.mem_append.mp hq with h | h
  ·exact d.soundW q (List.mem_append_left _ h)
  ·exact .step rp ((hn q).mp h).1 ((hn q).mp h).2
 ·rcases List.mem_append.mp hq with h | h
  ·exact mv r (d.closed q h r hr s)
  ·rw [List.mem_singleton.mp h] at hr
   exact .inr (List.mem_append_right _ ((hn r).mpr ⟨hr,s⟩))
theorem Dfs.done(d:Dfs R S A found [])(q:Int):q ∈ found ↔ Reach R S A q:=by
 refine ⟨d.sound q,fun h=>?_⟩
 induction h with
 | start a s=>rcases d.starts _ a s with h | h;exact h;exact nomatch h
 | step h r s ih=>rcases d.closed _ ih _ r s with h | h;exact h;exact nomatch h
end
noncomputable def Place(w h p:Int):Prop:=0≤p/\p<w * h
noncomputable def Adj(w p q:Int):Prop:=(q=p+1/\p / w=q / w)∨(q+1=p/\p / w=q / w)∨q=p+w∨q+w=p
noncomputable def Rim(w h p:Int):Prop:=p % w=0∨p % w=w - 1∨p / w=0∨p / w=h - 1
noncomputable def yF(w h p:Int):List Int:=
 (if 0<p % w then [p - 1] else [])++(if p % w<w - 1 then [p+1] else [])++(if 0<p / w then [p - w] else [])++(if p / w<h - 1 then [p+w] else [])
theorem six{w:Int}(h1:1≤w)(h6:w≤6):w=1∨w=2∨w=3∨w=4∨w=5∨w=6:=by omega
theorem zjn{w p:Int}(w1:1≤w)(h:0<p % w):(p - 1) / w=p / w/\(p - 1) % w=p % w - 1:=by
 have e:=Int.mul_ediv_add_emod p w
 have:=Int.emod_lt_of_pos p (show 0<w by omega)
 exact (Int.ediv_emod_unique (by omega)).mpr ⟨by omega,by omega,by omega⟩
theorem zce{w h p:Int}(w1:1≤w)(hp:Place w h p):0≤p / w/\p / w<h:=by
 obtain ⟨p0,p1⟩:=hp
 exact ⟨Int.ediv_nonneg p0 (by omega),Int.ediv_lt_of_lt_mul (by omega) (by rw [Int.mul_comm];exact p1)⟩
theorem zit{c:Prop}[Decidable c]{a q:Int}:(q ∈ (if c then [a] else []:List Int)) ↔ c/\q=a:=by
 by_cases h:c
 ·simp [h]
 ·simp [h]
theorem zaW{w h p q:Int}(w1:1≤w)(w6:w≤6)(hp:Place w h p):q ∈ yF w h p ↔ Place w h q/\Adj w p q:=by
 unfold yF Place Adj
 simp only [List.mem_append,zit]
 obtain ⟨p0,p1⟩:=hp
 rcases six w1 w6 with rfl | rfl | rfl | rfl | rfl | rfl<;>omega
theorem Adj.symm{w p q:Int}(h:Adj w p q):Adj w q p:=by
 unfold Adj at *
 rcases h with ⟨a,b⟩ | ⟨a,b⟩ | a | a
 ·exact .inr (.inl ⟨by omega,b.symm⟩)
 ·exact .inl ⟨by omega,b.symm⟩
 ·exact .inr (.inr (.inr (by omega)))
 ·exact .inr (.inr (.inl (by omega)))
theorem jx(w h p:Int):(yF w h p).length≤4:=by
 unfold yF
 have:∀ (c:Prop) [Decidable c] (a:Int),(if c then [a] else []:List Int).length≤1:=fun c _ a=>by
  by_cases h:c<;>simp [h]
 have h1:=this (0<p % w) (p - 1)
 have h2:=this (p % w<w - 1) (p+1)
 have h3:=this (0<p / w) (p - w)
 have h4:=this (p / w<h - 1) (p+w)
 simp only [List.length_append]
 omega
structure IsFloor (w h:Int) (F:List Int):Prop where
 w1:1≤w
 w6:w≤6
 h1:1≤h
 h6:h≤6
 ne:F≠[]
 rise:F.Pairwise (·<·)
 inn:∀ p ∈ F,Place w h p
 conn:∀ p ∈ F,Reach (Adj w) (· ∈ F) (fun q=>F.head?=some q) p
 noh:∀ p,Place w h p->p ∉ F->Reach (Adj w) (fun q=>Place w h q/\q ∉ F) (Rim w h) p
theorem zi{F:List Int}(h:F.Pairwise (·<·)):F.Nodup:=h.imp fun h e=>by omega
noncomputable def places(w h:Int):List Int:=(List.range (w * h).toNat).map fun (n:Nat)=>(n:Int)
theorem mem_places{w h p:Int}:p ∈ places w h ↔ Place w h p:=by
 unfold places Place
 simp only [List.mem_map,List.mem_range]
 constructor
 ·rintro ⟨n,hn,rfl⟩;omega
 ·intro hp;exact ⟨p.toNat,by omega,by omega⟩
theorem vR(w h:Int):(places w h).Pairwise (·<·):=by
 unfold places
 rw [List.pairwise_map]
 exact List.pairwise_lt_range.imp fun h=>by omega
theorem zmp{w h:Int}(w1:1≤w)(w6:w≤6)(h1:1≤h)(h6:h≤6){L O:Int->Prop}{a:Int}(hL:∀ p,L p->Place w h p)(ha:L a)
  (conn:∀ p,L p->Reach (Adj w) L (·=a) p)(hO:∀ p,O p ↔ Reach (Adj w) (fun q=>Place w h q/\¬ L q) (Rim w h) p)[DecidablePred O]:
  IsFloor w h ((places w h).filter fun p=>!decide (O p)):=by
 have mem:∀ p,p ∈ ((places w h).filter fun p=>!decide (O p)) ↔ Place w h p/\¬ O p:=fun p=>by
  rw [List.mem_filter,mem_places]
  simp
 have LO:∀ p,L p->¬ O p:=fun p hp ho=>((hO p).mp ho).inS.2 hp
 have hne:((places w h).filter fun p=>!decide (O p))≠[]:=fun e=>by
  have:a ∈ ((places w h).filter fun p=>!decide (O p)):=(mem a).mpr ⟨hL a ha,LO a ha⟩
  rw [e] at this;exact nomatch this
 -- within: from any field a row of fields leads left to L
 have toL:∀ (n:Nat) (p:Int),(p % w).toNat=n->Place w h p->¬ O p->¬ L p->∃ q,L q/\Reach (Adj w) (fun q=>Place w h q/\¬ O q) (·=q) p/\Reach (Adj w) (fun q=>Place w h q/\¬ O q) (·=p) q:=by
  intro n
  induction n with
  | zero=>
   intro p e hp ho hl
   refine absurd ((hO p).mpr (.start (.inl ?_) ⟨hp,hl⟩)) ho
   have:=Int.emod_nonneg p (show w≠0 by omega)
   omega
  | succ n ih=>
   intro p e hp ho hl
   have hm:0<p % w:=by omega
   obtain ⟨m1,m2⟩:=zjn w1 hm
   have pl:Place w h (p - 1):=by
    have hp0:p≠0:=fun e=>by rw [e,Int.zero_emod] at hm;omega
    exact ⟨by have:=hp.1;omega,by have:=hp.2;omega⟩
   have e':((p - 1) % w).toNat=n:=by omega
   have adj:Adj w p (p - 1):=.inr (.inl ⟨Int.sub_add_cancel p 1,m1.symm⟩)
   by_cases hl':L (p - 1)
   ·exact ⟨p - 1,hl',.step (.start rfl ⟨pl,LO _ hl'⟩) adj.symm ⟨hp,ho⟩,.step (.start rfl ⟨hp,ho⟩) adj ⟨pl,LO _ hl'⟩⟩
   ·have ho':¬ O (p - 1):=fun z=>ho ((hO p).mpr (.step ((hO _).mp z) adj.symm ⟨hp,hl⟩))
    obtain ⟨q,hq,r1,r2⟩:=ih (p - 1) e' pl ho' hl'
    refine ⟨q,hq,.step r1 adj.symm ⟨hp,ho⟩,r2.mono (fun z e _=>?_) fun z hz=>hz.inS⟩
    rw [e]
    exact .step (.start rfl ⟨hp,ho⟩) adj ⟨pl,ho'⟩
 -- L is within one reach of a
 have mono:∀ p,L p->Reach (Adj w) (fun q=>Place w h q/\¬ O q) (·=a) p:=fun p hp=>(conn p hp).mono (fun q e s=>.start e ⟨hL q s,LO q s⟩) fun q r=>⟨hL q r.inS,LO q r.inS⟩
 have fromA:∀ p,Place w h p->¬ O p->Reach (Adj w) (fun q=>Place w h q/\¬ O q) (·=a) p:=fun p hp ho=>by
  by_cases hl:L p
  ·exact mono p hl
  ·obtain ⟨q,hq,r1,_⟩:=toL _ p rfl hp ho hl
   exact r1.mono (fun z e _=>e ▸ mono q hq) fun z r=>r.inS
 have rev:∀ (S:Int->Prop) (b p:Int),Reach (Adj w) S (·=b) p->Reach (Adj w) S (·=p) b:=fun S b p r=>by
  induction r with
  | start e s=>subst e;exact .start rfl s
  | @step p q r adj s ih=>exact ih.mono (fun z e sz=>by subst e;exact .step (.start rfl s) adj.symm sz) fun z r=>r.inS
 have cn:∀ (S:Int->Prop) (b p:Int),Reach (Adj w) S (·=a) b->Reach (Adj w) S (·=a) p->Reach (Adj w) S (·=b) p:=fun S b p rb rp=>
  rp.mono (fun z e s=>by subst e;exact rev S _ _ rb) fun z r=>r.inS
 refine ⟨w1,w6,h1,h6,hne,(vR w h).sublist List.filter_sublist,fun p hp=>((mem p).mp hp).1,fun p hp=>?_,fun p hp hn=>?_⟩
 ·cases hF:((places w h).filter fun p=>!decide (O p)) with
  | nil=>exact absurd hF hne
  | cons b r=>
   have hb:b ∈ ((places w h).filter fun p=>!decide (O p)):=by rw [hF];exact List.mem_cons_self
   rw [hF] at hp
   have hp':p ∈ ((places w h).filter fun p=>!decide (O p)):=by rw [hF];exact hp
   have:=cn _ b p (fromA b ((mem b).mp hb).1 ((mem b).mp hb).2) (fromA p ((mem p).mp hp').1 ((mem p).mp hp').2)
   refine this.mono (fun q e s=>.start (by subst e;rfl) ?_) fun q r=>?_
   ·rw [← hF];exact (mem q).mpr s
   ·rw [← hF];exact (mem q).mpr r.inS
 ·have ho:O p:=Classical.byContradiction fun z=>hn ((mem p).mpr ⟨hp,z⟩)
  have all:∀ q,Reach (Adj w) (fun q=>Place w h q/\¬ L q) (Rim w h) q->Place w h q/\q ∉ ((places w h).filter fun p=>!decide (O p)):=fun q r=>
   ⟨r.inS.1,fun z=>((mem q).mp z).2 ((hO q).mpr r)⟩
  exact ((hO p).mp ho).mono (fun q ri s=>.start ri (all q (.start ri s))) fun q r=>all q r
noncomputable abbrev Pt:=Int × Int
noncomputable def Nb(p q:Pt):Prop:=(q.1=p.1+1/\q.2=p.2)∨(q.1+1=p.1/\q.2=p.2)∨(q.1=p.1/\q.2=p.2+1)∨(q.1=p.1/\q.2+1=p.2)
noncomputable def Clo(a u:Int->Int->Int)(p:Pt):Prop:=a p.1 p.2+u (p.1+1) p.2=u p.1 p.2+a p.1 (p.2+1)
noncomputable def AcS(S:Pt->Prop)(x y:Int):Prop:=S (x,y)∨S (x,y - 1)
noncomputable def UpS(S:Pt->Prop)(x y:Int):Prop:=S (x,y)∨S (x - 1,y)
noncomputable def zdz(f:Int->Int->Int)(x y v:Int):Int->Int->Int:=fun i j=>if i=x/\j=y then v else f i j
theorem jk{f:Int->Int->Int}{x y v:Int}:zdz f x y v x y=v:=by simp [zdz]
theorem vN{f:Int->Int->Int}{x y v i j:Int}(h:¬ (i=x/\j=y)):zdz f x y v i j=f i j:=by simp [zdz,h]
noncomputable def Ord(G:Pt->Prop):List Pt->Prop
 | []=>True
 | p::r=>(∃ q,Nb p q/\(q ∈ r∨¬ G q))/\p ∉ r/\Ord G r
theorem extend(G:Pt->Prop):∀ (L:List Pt) (S:Pt->Prop) (a u:Int->Int->Int),(∀ p,S p->G p)->(∀ p ∈ L,G p/\¬ S p)->Ord G L->(∀ p,S p->Clo a u p)->
  ∃ a' u',(∀ x y,AcS S x y->a' x y=a x y)/\(∀ x y,UpS S x y->u' x y=u x y)/\∀ p,(S p∨p ∈ L)->Clo a' u' p
 | [],S,a,u,_,_,_,hc=>⟨a,u,fun _ _ _=>rfl,fun _ _ _=>rfl,fun p h=>h.elim (hc p) fun z=>nomatch z⟩
 | p::L,S,a,u,hS,hL,hO,hc=>by
  obtain ⟨⟨q,nb,hq⟩,hp,hO⟩:=hO
  obtain ⟨x,y⟩:=p
  obtain ⟨i,j⟩:=q
  have qS:¬ S (i,j):=fun z=>hq.elim (fun m=>(hL _ (List.mem_cons_of_mem _ m)).2 z) fun g=>g (hS _ z)
  have pS:¬ S (x,y):=(hL _ List.mem_cons_self).2
  -- the exit's side takes what is lacking
  have key:∃ a1 u1,(∀ X Y,AcS S X Y->a1 X Y=a X Y)/\(∀ X Y,UpS S X Y->u1 X Y=u X Y)/\Clo a1 u1 (x,y):=by
   have ne:∀ X Y,S (X,Y)->¬ (X=x/\Y=y)/\¬ (X=i/\Y=j):=fun X Y z=>⟨fun e=>pS (by rw [← e.1,← e.2];exact z),fun e=>qS (by rw [← e.1,← e.2];exact z)⟩
   unfold Nb at nb
   dsimp only at nb
   rcases nb with ⟨e1,e2⟩ | ⟨e1,e2⟩ | ⟨e1,e2⟩ | ⟨e1,e2⟩
   ·refine ⟨a,zdz u (x+1) y (u x y+a x (y+1) - a x y),fun _ _ _=>rfl,fun X Y h=>vN fun e=>?_,?_⟩
    ·unfold UpS at h
     rcases h with h | h
     ·exact (ne _ _ h).2 (by omega)
     ·exact (ne _ _ h).1 (by omega)
    ·unfold Clo;dsimp only
     rw [jk,vN (by omega)];omega
   ·refine ⟨a,zdz u x y (a x y+u (x+1) y - a x (y+1)),fun _ _ _=>rfl,fun X Y h=>vN fun e=>?_,?_⟩
    ·unfold UpS at h
     rcases h with h | h
     ·exact (ne _ _ h).1 (by omega)
     ·exact (ne _ _ h).2 (by omega)
    ·unfold Clo;dsimp only
     rw [jk,vN (by omega)];omega
   ·refine ⟨zdz a x (y+1) (a x y+u (x+1) y - u x y),u,fun X Y h=>vN fun e=>?_,fun _ _ _=>rfl,?_⟩
    ·unfold AcS at h
     rcases h with h | h
     ·exact (ne _ _ h).2 (by omega)
     ·exact (ne _ _ h).1 (by omega)
    ·unfold Clo;dsimp only
     rw [jk,vN (by omega)];omega
   ·refine ⟨zdz a x y (u x y+a x (y+1) - u (x+1) y),u,fun X Y h=>vN fun e=>?_,fun _ _ _=>rfl,?_⟩
    ·unfold AcS at h
     rcases h with h | h
     ·exact (ne _ _ h).1 (by omega)
     ·exact (ne _ _ h).2 (by omega)
    ·unfold Clo;dsimp only
     rw [jk,vN (by omega)];omega
  obtain ⟨a1,u1,k1,k2,k3⟩:=key
  have clo1:∀ r,S r->Clo a1 u1 r:=fun r hr=>by
   obtain ⟨X,Y⟩:=r
   have h1:=hc _ hr
   unfold Clo at h1 ⊢
   dsimp only at h1 ⊢
   rw [k1 X Y (.inl hr),k1 X (Y+1) (.inr (by rw [show Y+1 - 1=Y by omega];exact hr)),k2 X Y (.inl hr),k2 (X+1) Y (.inr (by rw [show X+1 - 1=X by omega];exact hr))]
   exact h1
  obtain ⟨a2,u2,g1,g2,g3⟩:=extend G L (fun r=>S r∨r=(x,y)) a1 u1 (fun r h=>h.elim (hS r) fun e=>by rw [e];exact (hL _ List.mem_cons_self).1)
   (fun r hr=>⟨(hL r (List.mem_cons_of_mem _ hr)).1,fun z=>z.elim (hL r (List.mem_cons_of_mem _ hr)).2 fun e=>hp (e ▸ hr)⟩) hO (fun r h=>h.elim (clo1 r) fun e=>by rw [e];exact k3)
  refine ⟨a2,u2,fun X Y h=>?_,fun X Y h=>?_,fun r h=>?_⟩
  ·rw [g1 X Y (h.elim (fun z=>.inl (.inl z)) fun z=>.inr (.inl z)),k1 X Y h]
  ·rw [g2 X Y (h.elim (fun z=>.inl (.inl z)) fun z=>.inr (.inl z)),k2 X Y h]
  ·refine g3 r ?_
   rcases h with h | h
   ·exact .inl (.inl h)
   ·rcases List.mem_cons.mp h with h | h
    ·exact .inl (.inr h)
    ·exact .inr h
noncomputable def pt(w p:Int):Pt:=(p % w,p / w)
end CB
set_option maxHeartbeats 4000000
namespace CB
noncomputable def z9(d s:Int)(k:Nat):List Int:=(List.range k).map fun (i:Nat)=>s+i * d
theorem mem_chain{d s x:Int}{k:Nat}:x ∈ z9 d s k ↔ ∃ i:Nat,i<k/\x=s+i * d:=by
 unfold z9
 rw [List.mem_map]
 exact ⟨fun ⟨i,h,e⟩=>⟨i,List.mem_range.mp h,e.symm⟩,fun ⟨i,h,e⟩=>⟨i,List.mem_range.mpr h,e.symm⟩⟩
theorem kJ(d s:Int)(k:Nat):z9 d s (k+1)=z9 d s k++[s+k * d]:=by
 unfold z9
 rw [List.range_succ,List.map_append];rfl
theorem zgm(d s:Int):z9 d s 1=[s]:=by simp [z9]
theorem zcA(d s:Int)(k:Nat):(z9 d s k).length=k:=by simp [z9]
theorem zbJ(i:Nat)(d:Int):((i+1:Nat):Int) * d=i * d+d:=by rw [Int.natCast_succ,Int.add_mul,Int.one_mul]
theorem zfP{i j:Nat}{d:Int}(hd:0<d)(h:i<j):(i:Int) * d<j * d:=Int.mul_lt_mul_of_pos_right (by omega) hd
theorem zir{i j:Nat}{d:Int}(hd:0<d)(h:(i:Int) * d=j * d):i=j:=by
 rcases Nat.lt_trichotomy i j with z | z | z
 ·have:=zfP hd z;omega
 ·exact z
 ·have:=zfP hd z;omega
theorem jf{d:Int}(hd:0<d)(s:Int)(k:Nat):(z9 d s k).Nodup:=by
 unfold z9
 rw [List.nodup_iff_pairwise_ne,List.pairwise_map]
 exact List.Pairwise.imp (fun h e=>h (zir hd (by omega))) (List.nodup_iff_pairwise_ne.mp List.nodup_range)
section
variable {F:List Int} {d:Int} {stop:Int->Bool} {pre:List Int} {ps qs:List (Int × Nat)} {f:Int}
noncomputable def yD(F:List Int)(d:Int)(stop:Int->Bool)(f:Int):Bool:=stop f || !decide (f - d ∈ F)
structure Runs0 (F:List Int) (d:Int) (stop:Int->Bool) (pre:List Int) (ps:List (Int × Nat)):Prop where
 heads:ps.map (·.1)=pre.filter (yD F d stop)
 pos:∀ x ∈ ps,1≤x.2
 inn:∀ x ∈ ps,∀ i:Nat,i<x.2->x.1+i * d ∈ pre/\(0<i->stop (x.1+i * d)=false)
 mx:∀ x ∈ ps,x.1+x.2 * d ∈ pre->stop (x.1+x.2 * d)=true
structure Runs (F:List Int) (d:Int) (stop:Int->Bool) (pre:List Int) (ps:List (Int × Nat)):Prop extends Runs0 F d stop pre ps where
 cov:∀ f ∈ pre,∃ x ∈ ps,∃ i:Nat,i<x.2/\f=x.1+i * d
theorem Runs.start(r:Runs0 F d stop pre ps){x:Int × Nat}(hx:x ∈ ps):x.1 ∈ pre/\yD F d stop x.1=true:=by
 have:x.1 ∈ ps.map (·.1):=List.mem_map.mpr ⟨x,hx,rfl⟩
 rw [r.heads] at this
 exact List.mem_filter.mp this
theorem Runs.same(r:Runs0 F d stop pre ps)(sub:∀ p ∈ pre,p ∈ F){x y:Int × Nat}(hx:x ∈ ps)(hy:y ∈ ps){i j:Nat}(hi:i<x.2)(hj:j<y.2)(e:x.1+i * d=y.1+j * d):x.1=y.1:=by
 have key:∀ {x y:Int × Nat},x ∈ ps->y ∈ ps->∀ {i j:Nat},j<y.2->x.1+i * d=y.1+j * d->i<j->False:=by
  intro x y hx hy i j hj e h
  obtain ⟨m,rfl⟩:∃ m,j=i+(m+1):=⟨j - i - 1,by omega⟩
  have e1:x.1=y.1+((m+1:Nat):Int) * d:=by
   have:((i+(m+1):Nat):Int) * d=i * d+((m+1:Nat):Int) * d:=by rw [Int.natCast_add,Int.add_mul]
   omega
  have i1:=r.inn y hy (m+1) (by omega)
  have i2:=r.inn y hy m (by omega)
  have e2:x.1 - d=y.1+m * d:=by have:=zbJ m d;omega
  have s:=(Runs.start r hx).2
  unfold yD at s
  rw [e2,e1,i1.2 (by omega)] at s
  simp [sub _ i2.1] at s
 rcases Nat.lt_trichotomy i j with h | h | h
 ·exact (key hx hy hj e h).elim
 ·subst h;omega
 ·exact (key hy hx hi e.symm h).elim
theorem Runs.clash(r:Runs0 F d stop pre ps)(sub:∀ p ∈ pre,p ∈ F){x y:Int × Nat}(hx:x ∈ ps)(hy:y ∈ ps){q:Nat}(e:x.1=y.1+((q+1:Nat):Int) * d)(hq:q+1<y.2):False:=by
 have i1:=r.inn y hy (q+1) hq
 have i2:=r.inn y hy q (by omega)
 have e2:x.1 - d=y.1+q * d:=by have:=zbJ q d;omega
 have s:=(Runs.start r hx).2
 unfold yD at s
 rw [e2,e,i1.2 (by omega)] at s
 simp [sub _ i2.1] at s
theorem Runs.heads_nd(r:Runs0 F d stop pre ps)(nd:pre.Nodup):(ps.map (·.1)).Nodup:=by rw [r.heads];exact nd.filter _
theorem Runs.ix(r:Runs0 F d stop pre ps)(nd:pre.Nodup){i j:Nat}{x y:Int × Nat}(hi:ps[i]?=some x)(hj:ps[j]?=some y)(e:x.1=y.1):i=j:=by
 have h:=Runs.heads_nd r nd
 obtain ⟨l1,rfl⟩:=List.getElem?_eq_some_iff.mp hi
 obtain ⟨l2,rfl⟩:=List.getElem?_eq_some_iff.mp hj
 rcases Nat.lt_trichotomy i j with z | z | z
 ·have:=List.pairwise_iff_getElem.mp h i j (by simpa using l1) (by simpa using l2) z
  exact absurd (by simpa using e) this
 ·exact z
 ·have:=List.pairwise_iff_getElem.mp h j i (by simpa using l2) (by simpa using l1) z
  exact absurd (by simpa using e.symm) this
theorem Runs.one(r:Runs F d stop pre ps)(sub:∀ p ∈ pre,p ∈ F)(nd:pre.Nodup)(hf:f ∈ pre):∃ k,k<ps.length/\∀ j x,ps[j]?=some x->(f ∈ z9 d x.1 x.2 ↔ j=k):=by
 obtain ⟨x,hx,i,hi,e⟩:=r.cov f hf
 obtain ⟨k,hk,rfl⟩:=List.getElem_of_mem hx
 refine ⟨k,hk,fun j y hj=>⟨fun h=>?_,fun h=>?_⟩⟩
 ·obtain ⟨i',hi',e'⟩:=mem_chain.mp h
  exact Runs.ix r.toRuns0 nd hj (List.getElem?_eq_getElem hk) (Runs.same r.toRuns0 sub (List.mem_of_getElem? hj) hx hi' hi (by omega))
 ·subst h
  rw [List.getElem?_eq_getElem hk] at hj
  cases hj
  exact mem_chain.mpr ⟨i,hi,e⟩
theorem Runs.nil:Runs F d stop [] []:=⟨⟨rfl,by simp,by simp,by simp⟩,by simp⟩
theorem Runs.new(r:Runs F d stop pre ps)(hd:0<d)(sub:∀ p ∈ pre,p ∈ F)(lt:∀ p ∈ pre,p<f)(hs:yD F d stop f=true):Runs F d stop (pre++[f]) (ps++[(f,1)]):=by
 refine ⟨⟨?_,?_,?_,?_⟩,?_⟩
 ·rw [List.map_append,List.filter_append,r.heads];simp [hs]
 ·intro x hx
  rcases List.mem_append.mp hx with hx | hx
  ·exact r.pos x hx
  ·rw [List.mem_singleton.mp hx];exact Nat.le_refl _
 ·intro x hx i hi
  rcases List.mem_append.mp hx with hx | hx
  ·have:=r.inn x hx i hi
   exact ⟨List.mem_append_left _ this.1,this.2⟩
  ·rw [List.mem_singleton.mp hx] at hi ⊢
   have:i=0:=by simp at hi;exact hi
   subst this
   simp
 ·intro x hx hm
  rcases List.mem_append.mp hx with hx | hx
  ·rcases List.mem_append.mp hm with hm | hm
   ·exact r.mx x hx hm
   ·have e:=List.mem_singleton.mp hm
    have p:=r.pos x hx
    obtain ⟨m,hm'⟩:∃ m,x.2=m+1:=⟨x.2 - 1,by omega⟩
    have i1:=r.inn x hx m (by omega)
    have e2:f - d=x.1+m * d:=by rw [← e,hm'];have:=zbJ m d;omega
    rw [e]
    unfold yD at hs
    rw [e2] at hs
    simpa [sub _ i1.1] using hs
  ·rw [List.mem_singleton.mp hx] at hm ⊢
   simp only [Int.natCast_one,Int.one_mul] at hm
   rcases List.mem_append.mp hm with hm | hm
   ·have:=lt _ hm;omega
   ·have:=List.mem_singleton.mp hm;omega
 ·intro g hg
  rcases List.mem_append.mp hg with hg | hg
  ·obtain ⟨x,hx,i,hi,e⟩:=r.cov g hg
   exact ⟨x,List.mem_append_left _ hx,i,hi,e⟩
  ·exact ⟨(f,1),by simp,0,by simp,by rw [List.mem_singleton.mp hg];simp⟩
theorem Runs.ext(r:Runs F d stop pre ps)(hd:0<d)(sub:∀ p ∈ pre,p ∈ F)(nd:pre.Nodup)(lt:∀ p ∈ pre,p<f)(hs:yD F d stop f=false){a:Nat}{s:Int}{k:Nat}(ha:ps[a]?=some (s,k))(e:f=s+k * d):Runs F d stop (pre++[f]) (ps.set a (s,k+1)):=by
 obtain ⟨al,ae⟩:=List.getElem?_eq_some_iff.mp ha
 have hx:(s,k) ∈ ps:=List.mem_of_getElem? ha
 have st:stop f=false:=by unfold yD at hs;rw [Bool.or_eq_false_iff] at hs;exact hs.1
 have cases':∀ x ∈ ps.set a (s,k+1),x=(s,k+1)∨∃ b,b≠a/\ps[b]?=some x:=by
  intro x hx
  obtain ⟨b,hb⟩:=List.mem_iff_getElem?.mp hx
  rw [List.getElem?_set] at hb
  by_cases hba:a=b
  ·rw [if_pos hba] at hb
   exact .inl (by split at hb<;>(cases hb;rfl))
  ·rw [if_neg hba] at hb
   exact .inr ⟨b,fun z=>hba z.symm,hb⟩
 refine ⟨⟨?_,?_,?_,?_⟩,?_⟩
 ·rw [List.filter_append,← r.heads,List.map_set]
  simp only [List.filter_cons,hs,Bool.false_eq_true,if_false,List.filter_nil,List.append_nil]
  refine List.ext_getElem (by simp) fun i h1 h2=>?_
  rw [List.getElem_set]
  split
  ·rename_i hia
   subst hia
   simp [ae]
  ·rfl
 ·intro x hx'
  rcases cases' x hx' with rfl | ⟨b,_,hb⟩
  ·exact Nat.succ_pos _
  ·exact r.pos x (List.mem_of_getElem? hb)
 ·intro x hx' i hi
  rcases cases' x hx' with rfl | ⟨b,_,hb⟩
  ·by_cases h:i<k
   ·have:=r.inn _ hx i h
    exact ⟨List.mem_append_left _ this.1,this.2⟩
   ·have hik:i=k:=by simp at hi;omega
    subst hik
    refine ⟨by rw [← e];simp,fun _=>by rw [← e];exact st⟩
  ·have:=r.inn x (List.mem_of_getElem? hb) i hi
   exact ⟨List.mem_append_left _ this.1,this.2⟩
 ·intro x hx' hm
  rcases cases' x hx' with rfl | ⟨b,hba,hb⟩
  ·rw [zbJ] at hm ⊢
   have h1:s+(k * d+d)=f+d:=by omega
   rw [h1] at hm ⊢
   rcases List.mem_append.mp hm with hm | hm
   ·have:=lt _ hm;omega
   ·have:=List.mem_singleton.mp hm;omega
  ·rcases List.mem_append.mp hm with hm | hm
   ·exact r.mx x (List.mem_of_getElem? hb) hm
   ·have e2:=List.mem_singleton.mp hm
    have hx2:=List.mem_of_getElem? hb
    have p:=r.pos x hx2
    obtain ⟨m,hm'⟩:∃ m,x.2=m+1:=⟨x.2 - 1,by omega⟩
    have pk:=r.pos _ hx
    obtain ⟨n,hn⟩:∃ n,k=n+1:=⟨k - 1,by simp at pk;omega⟩
    -- the last ones of both are f - d
    have e3:x.1+m * d=s+n * d:=by
     rw [hm'] at e2
     rw [hn] at e
     have:=zbJ m d
     have:=zbJ n d
     omega
    have same:∀ {i j:Nat} {x y:Int × Nat},ps[i]?=some x->ps[j]?=some y->x.1=y.1->i=j:=fun h1 h2 h3=>Runs.ix r.toRuns0 nd h1 h2 h3
    exfalso
    -- both heads begin,so they are one
    rcases Nat.lt_trichotomy m n with z | z | z
    ·obtain ⟨q,rfl⟩:∃ q,n=m+(q+1):=⟨n - m - 1,by omega⟩
     have e4:x.1=s+((q+1:Nat):Int) * d:=by
      have:((m+(q+1):Nat):Int) * d=m * d+((q+1:Nat):Int) * d:=by rw [Int.natCast_add,Int.add_mul]
      omega
     exact Runs.clash r.toRuns0 sub hx2 hx e4 (by rw [hn];omega)
    ·subst z
     exact hba (same hb ha (by simp;omega))
    ·obtain ⟨q,rfl⟩:∃ q,m=n+(q+1):=⟨m - n - 1,by omega⟩
     have e4:s=x.1+((q+1:Nat):Int) * d:=by
      have:((n+(q+1):Nat):Int) * d=n * d+((q+1:Nat):Int) * d:=by rw [Int.natCast_add,Int.add_mul]
      omega
     exact Runs.clash r.toRuns0 sub hx hx2 e4 (by rw [hm'];omega)
 ·intro g hg
  rcases List.mem_append.mp hg with hg | hg
  ·obtain ⟨x,hx',i,hi,e'⟩:=r.cov g hg
   obtain ⟨b,hb,rfl⟩:=List.getElem_of_mem hx'
   by_cases hba:a=b
   ·subst hba
    rw [ae] at hi e'
    exact ⟨(s,k+1),List.mem_iff_getElem?.mpr ⟨a,by rw [List.getElem?_set,if_pos rfl,if_pos al]⟩,i,by simp at hi ⊢;omega,e'⟩
   ·exact ⟨ps[b],List.mem_iff_getElem?.mpr ⟨b,by rw [List.getElem?_set,if_neg hba];exact List.getElem?_eq_getElem hb⟩,i,hi,e'⟩
  ·exact ⟨(s,k+1),List.mem_iff_getElem?.mpr ⟨a,by rw [List.getElem?_set,if_pos rfl,if_pos al]⟩,k,by simp,by rw [List.mem_singleton.mp hg];exact e⟩
end
end CB
namespace F
open PySem PySem.Spec PyProof.Rows L2
inductive PV where
 | non | bl (b : Bool) | int (i : Int) | str (x : Str) | ty (n : String)
 | tup (xs : List PV) | lst (xs : List PV)
 | fls (xs : List PV)
 | dct (ks : List Key) (vs : List PV)
 | any
 | pen (a : Addr) (ns : List Int)
noncomputable abbrev En:=List (Option PV)
noncomputable abbrev St:=L2.St
noncomputable abbrev FE:=En->Option PV
noncomputable abbrev FT:=En->Option Bool
noncomputable abbrev FA:=En->Option (List PV)
mutual
noncomputable def zl:PV->Bool
 | .lst _=>false
 | .dct _ _=>false
 | .pen _ _=>false
 | .tup xs=>isDatas xs
 | .fls xs=>isDatas xs
 | _=>true
noncomputable def isDatas:List PV->Bool
 | []=>true
 | x::r=>zl x && isDatas r
end
theorem xb:∀ (xs ys:List PV),isDatas (xs++ys)=(isDatas xs && isDatas ys)
 | [],ys=>by simp [isDatas]
 | x::r,ys=>by simp [isDatas,xb r ys,Bool.and_assoc]
theorem wX:∀ (xs:List PV),isDatas xs=true ↔ ∀ x ∈ xs,zl x=true
 | []=>by simp [isDatas]
 | x::r=>by simp [isDatas,wX r]
theorem ye{α:Type}(f:α->PV)(h:∀ a,zl (f a)=true)(xs:List α):isDatas (xs.map f)=true:=by
 rw [wX]
 intro x hx
 obtain ⟨a,_,rfl⟩:=List.mem_map.mp hx
 exact h a
theorem ku(xs:List Int):isDatas (xs.map PV.int)=true:=ye _ (fun _=>by simp [zl]) xs
noncomputable def Fz(K:PySem.W.Frag)(H:Hp)(a:Addr)(xs:List V):Prop:=
 (∃ o,H a=some (.frz o (.lst xs)))∨∃ (o:Obj) (its:Array Value) (n:Nat),K.lookup a=some o/\o.cls=.type "list"/\o.dict=none/\o.data=.seq its n/\its.size≤sizeLine/\Vals xs its.toList
theorem Fz.seq{K:PySem.W.Frag}{H:Hp}{a:Addr}{xs:List V}(h:Fz K H a xs):SqL K H a xs:=h.elim (fun z=>.inl (.inr z)) .inr
theorem Fz.same{K:PySem.W.Frag}{H H':Hp}{a:Addr}{xs:List V}(e:Same H H')(h:Fz K H a xs):Fz K H' a xs:=h.elim (fun ⟨o,z⟩=>.inl ⟨o,e _ _ z⟩) .inr
mutual
noncomputable def Rp(K:PySem.W.Frag)(H:Hp):PV->V->List Addr->Prop
 | .non,v,A=>v=.non/\A=[]
 | .bl b,v,A=>v=.bl b/\A=[]
 | .int i,v,A=>v=.int i/\A=[]
 | .str x,v,A=>v=.str x/\A=[]
 | .ty n,v,A=>v=.ty n/\A=[]
 | .any,_,A=>A=[]
 | .pen a ns,v,A=>v=.ref a/\A=[a]/\H a=some (.lst (ns.map V.int))
 | .tup ps,v,A=>∃ a xs,v=.ref a/\SqT K H a xs/\Rps K H ps xs A
 | .lst ps,v,A=>∃ a xs B,v=.ref a/\H a=some (.lst xs)/\A=a::B/\Rps K H ps xs B
 | .fls ps,v,A=>∃ a xs,v=.ref a/\Fz K H a xs/\Rps K H ps xs A
 | .dct ks ps,v,A=>∃ a xs B,v=.ref a/\H a=some (.dK (ks.zip xs))/\ks.length=ps.length/\A=a::B/\Rps K H ps xs B
noncomputable def Rps(K:PySem.W.Frag)(H:Hp):List PV->List V->List Addr->Prop
 | [],vs,A=>vs=[]/\A=[]
 | p::ps,vs,A=>∃ v r A1 A2,vs=v::r/\A=A1++A2/\Rp K H p v A1/\Rps K H ps r A2
end
section
variable {K:PySem.W.Frag} {H H':Hp}
mutual
theorem Rp.same(e:Same H H'):∀ (p:PV) {v:V} {A:List Addr},Rp K H p v A->Rp K H' p v A
 | .non,_,_,h=>by unfold Rp at h ⊢;exact h
 | .bl _,_,_,h=>by unfold Rp at h ⊢;exact h
 | .int _,_,_,h=>by unfold Rp at h ⊢;exact h
 | .str _,_,_,h=>by unfold Rp at h ⊢;exact h
 | .ty _,_,_,h=>by unfold Rp at h ⊢;exact h
 | .any,_,_,h=>by unfold Rp at h ⊢;exact h
 | .pen _ _,_,_,h=>by unfold Rp at h ⊢;exact ⟨h.1,h.2.1,e _ _ h.2.2⟩
 | .tup ps,_,_,h=>by
  unfold Rp at h ⊢
  obtain ⟨a,xs,h1,h2,h3⟩:=h
  exact ⟨a,xs,h1,e.tup h2,Rps.same e ps h3⟩
 | .lst ps,_,_,h=>by
  unfold Rp at h ⊢
  obtain ⟨a,xs,B,h1,h2,h3,h4⟩:=h
  exact ⟨a,xs,B,h1,e _ _ h2,h3,Rps.same e ps h4⟩
 | .fls ps,_,_,h=>by
  unfold Rp at h ⊢
  obtain ⟨a,xs,h1,h2,h3⟩:=h
  exact ⟨a,xs,h1,h2.same e,Rps.same e ps h3⟩
 | .dct ks ps,_,_,h=>by
  unfold Rp at h ⊢
  obtain ⟨a,xs,B,h1,h2,h3,h4,h5⟩:=h
  exact ⟨a,xs,B,h1,e _ _ h2,h3,h4,Rps.same e ps h5⟩
theorem Rps.same(e:Same H H'):∀ (ps:List PV) {vs:List V} {A:List Addr},Rps K H ps vs A->Rps K H' ps vs A
 | [],_,_,h=>by unfold Rps at h ⊢;exact h
 | p::ps,_,_,h=>by
  unfold Rps at h ⊢
  obtain ⟨v,r,A1,A2,h1,h2,h3,h4⟩:=h
  exact ⟨v,r,A1,A2,h1,h2,Rp.same e p h3,Rps.same e ps h4⟩
end
noncomputable def MutH(H:Hp)(a:Addr):Prop:=(∃ xs,H a=some (.lst xs))∨∃ kvs,H a=some (.dK kvs)
theorem MutH.tup{a b:Addr}{xs:List V}{o:HO}(m:MutH H a)(h:SqT K H b xs):SqT K (upd H a o) b xs:=by
 rcases h with (h | ⟨u,h⟩) | h
 ·have:b≠a:=by rintro rfl;rcases m with ⟨_,m⟩ | ⟨_,m⟩<;>(rw [h] at m;cases m)
  exact .inl (.inl (by rw [zd this];exact h))
 ·have:b≠a:=by rintro rfl;rcases m with ⟨_,m⟩ | ⟨_,m⟩<;>(rw [h] at m;cases m)
  exact .inl (.inr ⟨u,by rw [zd this];exact h⟩)
 ·exact .inr h
theorem MutH.fz{a b:Addr}{xs:List V}{o:HO}(m:MutH H a)(h:Fz K H b xs):Fz K (upd H a o) b xs:=by
 rcases h with ⟨u,h⟩ | h
 ·have:b≠a:=by rintro rfl;rcases m with ⟨_,m⟩ | ⟨_,m⟩<;>(rw [h] at m;cases m)
  exact .inl ⟨u,by rw [zd this];exact h⟩
 ·exact .inr h
mutual
theorem Rp.upd{a:Addr}{o:HO}(m:MutH H a):∀ (p:PV) {v:V} {A:List Addr},a ∉ A->Rp K H p v A->Rp K (L2.upd H a o) p v A
 | .non,_,_,_,h=>by unfold Rp at h ⊢;exact h
 | .bl _,_,_,_,h=>by unfold Rp at h ⊢;exact h
 | .int _,_,_,_,h=>by unfold Rp at h ⊢;exact h
 | .str _,_,_,_,h=>by unfold Rp at h ⊢;exact h
 | .ty _,_,_,_,h=>by unfold Rp at h ⊢;exact h
 | .any,_,_,_,h=>by unfold Rp at h ⊢;exact h
 | .pen b _,_,_,n,h=>by
  unfold Rp at h ⊢
  refine ⟨h.1,h.2.1,?_⟩
  rw [zd (fun z=>n (by rw [h.2.1,z];exact List.mem_cons_self))]
  exact h.2.2
 | .tup ps,_,_,n,h=>by
  unfold Rp at h ⊢
  obtain ⟨b,xs,h1,h2,h3⟩:=h
  exact ⟨b,xs,h1,m.tup h2,Rps.upd m ps n h3⟩
 | .lst ps,_,_,n,h=>by
  unfold Rp at h ⊢
  obtain ⟨b,xs,B,h1,h2,rfl,h4⟩:=h
  have nb:b≠a:=fun z=>n (z ▸ List.mem_cons_self)
  exact ⟨b,xs,B,h1,by rw [zd nb];exact h2,rfl,Rps.upd m ps (fun z=>n (List.mem_cons_of_mem _ z)) h4⟩
 | .fls ps,_,_,n,h=>by
  unfold Rp at h ⊢
  obtain ⟨b,xs,h1,h2,h3⟩:=h
  exact ⟨b,xs,h1,m.fz h2,Rps.upd m ps n h3⟩
 | .dct ks ps,_,_,n,h=>by
  unfold Rp at h ⊢
  obtain ⟨b,xs,B,h1,h2,h3,rfl,h5⟩:=h
  have nb:b≠a:=fun z=>n (z ▸ List.mem_cons_self)
  exact ⟨b,xs,B,h1,by rw [zd nb];exact h2,h3,rfl,Rps.upd m ps (fun z=>n (List.mem_cons_of_mem _ z)) h5⟩
theorem Rps.upd{a:Addr}{o:HO}(m:MutH H a):∀ (ps:List PV) {vs:List V} {A:List Addr},a ∉ A->Rps K H ps vs A->Rps K (L2.upd H a o) ps vs A
 | [],_,_,_,h=>by unfold Rps at h ⊢;exact h
 | p::ps,_,_,n,h=>by
  unfold Rps at h ⊢
  obtain ⟨v,r,A1,A2,h1,rfl,h3,h4⟩:=h
  exact ⟨v,r,A1,A2,h1,rfl,Rp.upd m p (fun z=>n (List.mem_append_left _ z)) h3,Rps.upd m ps (fun z=>n (List.mem_append_right _ z)) h4⟩
end
mutual
theorem Rp.mut:∀ (p:PV) {v:V} {A:List Addr},Rp K H p v A->∀ a ∈ A,MutH H a
 | .non,_,_,h=>by unfold Rp at h;rw [h.2];simp
 | .bl _,_,_,h=>by unfold Rp at h;rw [h.2];simp
 | .int _,_,_,h=>by unfold Rp at h;rw [h.2];simp
 | .str _,_,_,h=>by unfold Rp at h;rw [h.2];simp
 | .ty _,_,_,h=>by unfold Rp at h;rw [h.2];simp
 | .any,_,_,h=>by unfold Rp at h;rw [h];simp
 | .pen _ _,_,_,h=>by
  unfold Rp at h
  rw [h.2.1]
  intro b hb
  rw [List.mem_singleton.mp hb]
  exact .inl ⟨_,h.2.2⟩
 | .tup ps,_,_,h=>by
  unfold Rp at h
  obtain ⟨b,xs,h1,h2,h3⟩:=h
  exact Rps.mut ps h3
 | .lst ps,_,_,h=>by
  unfold Rp at h
  obtain ⟨b,xs,B,h1,h2,rfl,h4⟩:=h
  intro a ha
  rcases List.mem_cons.mp ha with rfl | ha
  ·exact .inl ⟨xs,h2⟩
  ·exact Rps.mut ps h4 a ha
 | .fls ps,_,_,h=>by
  unfold Rp at h
  obtain ⟨b,xs,h1,h2,h3⟩:=h
  exact Rps.mut ps h3
 | .dct ks ps,_,_,h=>by
  unfold Rp at h
  obtain ⟨b,xs,B,h1,h2,h3,rfl,h5⟩:=h
  intro a ha
  rcases List.mem_cons.mp ha with rfl | ha
  ·exact .inr ⟨_,h2⟩
  ·exact Rps.mut ps h5 a ha
theorem Rps.mut:∀ (ps:List PV) {vs:List V} {A:List Addr},Rps K H ps vs A->∀ a ∈ A,MutH H a
 | [],_,_,h=>by unfold Rps at h;rw [h.2];simp
 | p::ps,_,_,h=>by
  unfold Rps at h
  obtain ⟨v,r,A1,A2,h1,rfl,h3,h4⟩:=h
  intro a ha
  rcases List.mem_append.mp ha with ha | ha
  ·exact Rp.mut p h3 a ha
  ·exact Rps.mut ps h4 a ha
end
theorem MutH.same{a:Addr}(h:MutH H a)(s:Same H H'):MutH H' a:=h.elim (fun ⟨x,z⟩=>.inl ⟨x,s _ _ z⟩) fun ⟨x,z⟩=>.inr ⟨x,s _ _ z⟩
theorem MutH.some{a:Addr}(h:MutH H a):∃ o,H a=some o:=by
 rcases h with ⟨_,h⟩ | ⟨_,h⟩<;>exact ⟨_,h⟩
theorem Rp.alloc{p:PV}{v:V}{A:List Addr}(h:Rp K H p v A){a:Addr}(ha:a ∈ A):∃ o,H a=some o:=(Rp.mut p h a ha).some
mutual
theorem Rp.data:∀ (p:PV) {v:V} {A:List Addr},zl p=true->Rp K H p v A->A=[]
 | .non,_,_,_,h=>by unfold Rp at h;exact h.2
 | .bl _,_,_,_,h=>by unfold Rp at h;exact h.2
 | .int _,_,_,_,h=>by unfold Rp at h;exact h.2
 | .str _,_,_,_,h=>by unfold Rp at h;exact h.2
 | .ty _,_,_,_,h=>by unfold Rp at h;exact h.2
 | .any,_,_,_,h=>by unfold Rp at h;exact h
 | .pen _ _,_,_,d,_=>by simp [zl] at d
 | .tup ps,_,_,d,h=>by
  unfold Rp at h
  unfold zl at d
  obtain ⟨b,xs,h1,h2,h3⟩:=h
  exact Rps.data ps d h3
 | .lst ps,_,_,d,h=>by simp [zl] at d
 | .fls ps,_,_,d,h=>by
  unfold Rp at h
  unfold zl at d
  obtain ⟨b,xs,h1,h2,h3⟩:=h
  exact Rps.data ps d h3
 | .dct ks ps,_,_,d,h=>by simp [zl] at d
theorem Rps.data:∀ (ps:List PV) {vs:List V} {A:List Addr},isDatas ps=true->Rps K H ps vs A->A=[]
 | [],_,_,_,h=>by unfold Rps at h;exact h.2
 | p::ps,_,_,d,h=>by
  unfold Rps at h
  unfold isDatas at d
  rw [Bool.and_eq_true] at d
  obtain ⟨v,r,A1,A2,h1,h2,h3,h4⟩:=h
  rw [h2,Rp.data p d.1 h3,Rps.data ps d.2 h4];rfl
end
theorem Rps.length:∀ {ps:List PV} {vs:List V} {A:List Addr},Rps K H ps vs A->ps.length=vs.length
 | [],_,_,h=>by unfold Rps at h;rw [h.1];rfl
 | p::ps,_,_,h=>by
  unfold Rps at h
  obtain ⟨v,r,A1,A2,h1,h2,h3,h4⟩:=h
  rw [h1,List.length_cons,List.length_cons,Rps.length h4]
theorem Rps.get:∀ {ps:List PV} {vs:List V} {A:List Addr} {i:Nat} {p:PV},Rps K H ps vs A->ps[i]?=some p->∃ v C,vs[i]?=some v/\Rp K H p v C/\C.Sublist A
 | [],_,_,_,_,_,e=>by simp at e
 | q::ps,_,_,0,p,h,e=>by
  unfold Rps at h
  obtain ⟨v,r,A1,A2,h1,h2,h3,h4⟩:=h
  simp at e
  subst e
  exact ⟨v,A1,by rw [h1];rfl,h3,by rw [h2];exact List.sublist_append_left _ _⟩
 | q::ps,_,_,i+1,p,h,e=>by
  unfold Rps at h
  obtain ⟨v,r,A1,A2,h1,h2,h3,h4⟩:=h
  obtain ⟨w,C,g1,g2,g3⟩:=Rps.get (i:=i) h4 (by simpa using e)
  exact ⟨w,C,by rw [h1];simpa using g1,g2,by rw [h2];exact g3.trans (List.sublist_append_right _ _)⟩
theorem Rps.append:∀ {ps qs:List PV} {vs ws:List V} {A B:List Addr},Rps K H ps vs A->Rps K H qs ws B->Rps K H (ps++qs) (vs++ws) (A++B)
 | [],_,_,_,_,_,h,h'=>by unfold Rps at h;rw [h.1,h.2];exact h'
 | p::ps,qs,_,ws,_,B,h,h'=>by
  unfold Rps at h
  obtain ⟨v,r,A1,A2,h1,h2,h3,h4⟩:=h
  show Rps K H (p::(ps++qs)) _ _
  unfold Rps
  exact ⟨v,r++ws,A1,A2++B,by rw [h1];rfl,by rw [h2,List.append_assoc],h3,Rps.append h4 h'⟩
theorem Rps.nil:Rps K H [] [] []:=by unfold Rps;exact ⟨rfl,rfl⟩
theorem Rps.cons{p:PV}{ps:List PV}{v:V}{vs:List V}{A B:List Addr}(h:Rp K H p v A)(h':Rps K H ps vs B):Rps K H (p::ps) (v::vs) (A++B):=by
 unfold Rps;exact ⟨v,vs,A,B,rfl,rfl,h,h'⟩
theorem Rps.one{p:PV}{v:V}{A:List Addr}(h:Rp K H p v A):Rps K H [p] [v] A:=by
 have:=Rps.cons h (Rps.nil (K:=K) (H:=H))
 rwa [List.append_nil] at this
theorem Rps.inv{p:PV}{ps:List PV}{vs:List V}{A:List Addr}(h:Rps K H (p::ps) vs A):∃ v r A1 A2,vs=v::r/\A=A1++A2/\Rp K H p v A1/\Rps K H ps r A2:=by
 unfold Rps at h;exact h
theorem Rps.inv0{vs:List V}{A:List Addr}(h:Rps K H [] vs A):vs=[]/\A=[]:=by unfold Rps at h;exact h
theorem Rps.split:∀ {ps qs:List PV} {vs:List V} {A:List Addr},Rps K H (ps++qs) vs A->∃ v1 v2 A1 A2,vs=v1++v2/\A=A1++A2/\Rps K H ps v1 A1/\Rps K H qs v2 A2
 | [],qs,vs,A,h=>⟨[],vs,[],A,rfl,rfl,.nil,h⟩
 | p::ps,qs,vs,A,h=>by
  obtain ⟨v,r,A1,A2,h1,h2,h3,h4⟩:=Rps.inv (show Rps K H (p::(ps++qs)) vs A from h)
  obtain ⟨v1,v2,B1,B2,g1,g2,g3,g4⟩:=Rps.split h4
  exact ⟨v::v1,v2,A1++B1,B2,by rw [h1,g1];rfl,by rw [h2,g2,List.append_assoc],.cons h3 g3,g4⟩
theorem Rp.mkI(i:Int):Rp K H (.int i) (.int i) []:=by unfold Rp;exact ⟨rfl,rfl⟩
theorem Rp.mkB(b:Bool):Rp K H (.bl b) (.bl b) []:=by unfold Rp;exact ⟨rfl,rfl⟩
theorem Rp.mkS(x:Str):Rp K H (.str x) (.str x) []:=by unfold Rp;exact ⟨rfl,rfl⟩
theorem Rp.mkN:Rp K H .non .non []:=by unfold Rp;exact ⟨rfl,rfl⟩
theorem Rp.mkTy(n:String):Rp K H (.ty n) (.ty n) []:=by unfold Rp;exact ⟨rfl,rfl⟩
theorem Rp.mkT{a:Addr}{ps:List PV}{xs:List V}{A:List Addr}(h:SqT K H a xs)(r:Rps K H ps xs A):Rp K H (.tup ps) (.ref a) A:=by unfold Rp;exact ⟨a,xs,rfl,h,r⟩
theorem Rp.mkL{a:Addr}{ps:List PV}{xs:List V}{A:List Addr}(h:H a=some (.lst xs))(r:Rps K H ps xs A):Rp K H (.lst ps) (.ref a) (a::A):=by unfold Rp;exact ⟨a,xs,A,rfl,h,rfl,r⟩
theorem Rp.mkD{a:Addr}{ks:List Key}{ps:List PV}{xs:List V}{A:List Addr}(h:H a=some (.dK (ks.zip xs)))(l:ks.length=ps.length)(r:Rps K H ps xs A):Rp K H (.dct ks ps) (.ref a) (a::A):=by unfold Rp;exact ⟨a,xs,A,rfl,h,l,rfl,r⟩
theorem Rp.I{i:Int}{v:V}{A:List Addr}(h:Rp K H (.int i) v A):v=.int i/\A=[]:=by unfold Rp at h;exact h
theorem Rp.B{i:Bool}{v:V}{A:List Addr}(h:Rp K H (.bl i) v A):v=.bl i/\A=[]:=by unfold Rp at h;exact h
theorem Rp.S{i:Str}{v:V}{A:List Addr}(h:Rp K H (.str i) v A):v=.str i/\A=[]:=by unfold Rp at h;exact h
theorem Rp.N{v:V}{A:List Addr}(h:Rp K H .non v A):v=.non/\A=[]:=by unfold Rp at h;exact h
theorem Rp.Ty{n:String}{v:V}{A:List Addr}(h:Rp K H (.ty n) v A):v=.ty n/\A=[]:=by unfold Rp at h;exact h
theorem Rp.T{ps:List PV}{v:V}{A:List Addr}(h:Rp K H (.tup ps) v A):∃ a xs,v=.ref a/\SqT K H a xs/\Rps K H ps xs A:=by unfold Rp at h;exact h
theorem Rp.L{ps:List PV}{v:V}{A:List Addr}(h:Rp K H (.lst ps) v A):∃ a xs B,v=.ref a/\H a=some (.lst xs)/\A=a::B/\Rps K H ps xs B:=by unfold Rp at h;exact h
theorem Rp.P{a:Addr}{ns:List Int}{v:V}{A:List Addr}(h:Rp K H (.pen a ns) v A):v=.ref a/\A=[a]/\H a=some (.lst (ns.map V.int)):=by unfold Rp at h;exact h
theorem Rp.Fl{ps:List PV}{v:V}{A:List Addr}(h:Rp K H (.fls ps) v A):∃ a xs,v=.ref a/\Fz K H a xs/\Rps K H ps xs A:=by unfold Rp at h;exact h
theorem Rp.D{ks:List Key}{ps:List PV}{v:V}{A:List Addr}(h:Rp K H (.dct ks ps) v A):∃ a xs B,v=.ref a/\H a=some (.dK (ks.zip xs))/\ks.length=ps.length/\A=a::B/\Rps K H ps xs B:=by unfold Rp at h;exact h
end
structure VI (K:PySem.W.Frag) (κ:Nat->Option Nat) (G:Hp) (own:Addr->Option Nat) (env:En) (σ:St) (H:Hp):Prop where
 len:env.length=σ.length
 slot:∀ i p,env[i]?=some (some p)->∃ v A,σ[i]?=some (some v)/\Rp K H p v A/\(κ i=none->∀ a ∈ A,own a=none)/\∀ l,κ i=some l->A.Nodup/\∀ a ∈ A,own a=some l
 own:∀ a l,own a=some l->G a=none/\MutH H a
 same:Same G H
theorem VI.grow{K:PySem.W.Frag}{κ:Nat->Option Nat}{G:Hp}{own:Addr->Option Nat}{env:En}{σ:St}{H H':Hp}(I:VI K κ G own env σ H)(s:Same H H'):VI K κ G own env σ H':=
 ⟨I.len,fun i p e=>let ⟨v,A,h1,h2,h3⟩:=I.slot i p e;⟨v,A,h1,Rp.same s p h2,h3⟩,fun a l e=>let ⟨h1,h2⟩:=I.own a l e;⟨h1,h2.same s⟩,I.same.trans s⟩
noncomputable def Ext(own:Addr->Option Nat)(H:Hp)(own':Addr->Option Nat)(H':Hp):Prop:=∀ b o,own b=none->H b=some o->own' b=none/\H' b=some o
theorem Ext.refl(own:Addr->Option Nat)(H:Hp):Ext own H own H:=fun _ _ h e=>⟨h,e⟩
theorem Ext.trans{o1 o2 o3:Addr->Option Nat}{H1 H2 H3:Hp}(a:Ext o1 H1 o2 H2)(b:Ext o2 H2 o3 H3):Ext o1 H1 o3 H3:=fun x o h e=>let ⟨h',e'⟩:=a x o h e;b x o h' e'
theorem Ext.grow{own:Addr->Option Nat}{H H':Hp}(s:Same H H'):Ext own H own H':=fun b o h e=>⟨h,s b o e⟩
inductive Cat where
 | mv (L:List Nat) | sh | bo
noncomputable def Cat.ok:Cat->Hp->(Addr->Option Nat)->List Addr->Prop
 | .mv L,H,own,A=>A.Nodup/\∀ a ∈ A,H a=none∨∃ l ∈ L,own a=some l
 | .sh,_,own,A=>∀ a ∈ A,own a=none
 | .bo,_,_,_=>True
theorem Cat.nil(c:Cat)(H:Hp)(own:Addr->Option Nat):c.ok H own []:=by
 cases c with
 | mv L=>exact ⟨.nil,by simp⟩
 | sh=>show ∀ a ∈ [],own a=none;simp
 | bo=>trivial
noncomputable def tV(K:PySem.W.Frag)(κ:Nat->Option Nat)(G:Hp)(c:Cat)(f:FE):TE:=fun σ H Q=>∃ own env p,VI K κ G own env σ H/\f env=some p/\∀ v H' A,Same H H'->Rp K H' p v A->c.ok H own A->Q v H'
noncomputable def tVT(K:PySem.W.Frag)(κ:Nat->Option Nat)(G:Hp)(f:FT):TT:=fun σ H Q=>∃ own env b,VI K κ G own env σ H/\f env=some b/\∀ H',Same H H'->Q b H'
noncomputable def tVA(K:PySem.W.Frag)(κ:Nat->Option Nat)(G:Hp)(c:Cat)(f:FA):TA:=fun σ H Q=>∃ own env ps,VI K κ G own env σ H/\f env=some ps/\∀ vs H' A,Same H H'->Rps K H' ps vs A->c.ok H own A->Q vs H'
theorem tV.in{K:PySem.W.Frag}{κ:Nat->Option Nat}{G:Hp}{c:Cat}{f:FE}{σ:St}{H:Hp}{Q:VK}{own:Addr->Option Nat}{env:En}{p:PV}(I:VI K κ G own env σ H)(hf:f env=some p)(k:∀ v H' A,Same H H'->Rp K H' p v A->c.ok H own A->Q v H'):tV K κ G c f σ H Q:=⟨own,env,p,I,hf,k⟩
theorem tV.elim{K:PySem.W.Frag}{κ:Nat->Option Nat}{G:Hp}{c:Cat}{f:FE}{σ:St}{H:Hp}{Q:VK}{C:Prop}(h:tV K κ G c f σ H Q)(k:∀ own env (p:PV),VI K κ G own env σ H->f env=some p->(∀ v H' A,Same H H'->Rp K H' p v A->c.ok H own A->Q v H')->C):C:=
 let ⟨own,env,p,I,hf,q⟩:=h
 k own env p I hf q
theorem tVT.in{K:PySem.W.Frag}{κ:Nat->Option Nat}{G:Hp}{f:FT}{σ:St}{H:Hp}{Q:Bool->Hp->Prop}{own:Addr->Option Nat}{env:En}{p:Bool}(I:VI K κ G own env σ H)(hf:f env=some p)(k:∀ H',Same H H'->Q p H'):tVT K κ G f σ H Q:=⟨own,env,p,I,hf,k⟩
theorem tVT.elim{K:PySem.W.Frag}{κ:Nat->Option Nat}{G:Hp}{f:FT}{σ:St}{H:Hp}{Q:Bool->Hp->Prop}{C:Prop}(h:tVT K κ G f σ H Q)(k:∀ own env (p:Bool),VI K κ G own env σ H->f env=some p->(∀ H',Same H H'->Q p H')->C):C:=
 let ⟨own,env,p,I,hf,q⟩:=h
 k own env p I hf q
theorem tVA.in{K:PySem.W.Frag}{κ:Nat->Option Nat}{G:Hp}{c:Cat}{f:FA}{σ:St}{H:Hp}{Q:List V->Hp->Prop}{own:Addr->Option Nat}{env:En}{p:List PV}(I:VI K κ G own env σ H)(hf:f env=some p)(k:∀ vs H' A,Same H H'->Rps K H' p vs A->c.ok H own A->Q vs H'):tVA K κ G c f σ H Q:=⟨own,env,p,I,hf,k⟩
theorem tVA.elim{K:PySem.W.Frag}{κ:Nat->Option Nat}{G:Hp}{c:Cat}{f:FA}{σ:St}{H:Hp}{Q:List V->Hp->Prop}{C:Prop}(h:tVA K κ G c f σ H Q)(k:∀ own env (p:List PV),VI K κ G own env σ H->f env=some p->(∀ vs H' A,Same H H'->Rps K H' p vs A->c.ok H own A->Q vs H')->C):C:=
 let ⟨own,env,p,I,hf,q⟩:=h
 k own env p I hf q
noncomputable def VE(X:Cx)(κ:Nat->Option Nat)(G:Hp)(c:Cat)(e:Expr)(f:FE):Prop:=PE X e (tV X.K κ G c f)
noncomputable def VT(X:Cx)(κ:Nat->Option Nat)(G:Hp)(e:Expr)(f:FT):Prop:=PT X e (tVT X.K κ G f)
noncomputable def VW(X:Cx)(κ:Nat->Option Nat)(G:Hp)(e:Expr)(f:FT):Prop:=PW X e (tVT X.K κ G f)
noncomputable def VA(X:Cx)(κ:Nat->Option Nat)(G:Hp)(c:Cat)(es:List Expr)(f:FA):Prop:=PA X es (tVA X.K κ G c f)/\∀ env ps,f env=some ps->ps.length=es.length
end F
namespace L2
theorem PE.imp{X:Cx}{e:PySem.Expr}{t t':TE}(h:PE X e t)(i:∀ σ H Q,t' σ H Q->t σ H Q):PE X e t':=fun pins s σ H Q I hw=>h pins s σ H Q I (i _ _ _ hw)
theorem PT.imp{X:Cx}{e:PySem.Expr}{t t':TT}(h:PT X e t)(i:∀ σ H Q,t' σ H Q->t σ H Q):PT X e t':=fun pins s σ H Q I hw=>h pins s σ H Q I (i _ _ _ hw)
theorem PW.imp{X:Cx}{e:PySem.Expr}{t t':TT}(h:PW X e t)(i:∀ σ H Q,t' σ H Q->t σ H Q):PW X e t':=fun wh pins s σ H Q I hw=>h wh pins s σ H Q I (i _ _ _ hw)
theorem PA.imp{X:Cx}{e:List PySem.Expr}{t t':TA}(h:PA X e t)(i:∀ σ H Q,t' σ H Q->t σ H Q):PA X e t':=fun pos pins s σ H Q I hw=>h pos pins s σ H Q I (i _ _ _ hw)
theorem PS.imp{X:Cx}{e:PySem.Stmt}{t t':TS}(h:PS X e t)(i:∀ D σ H,t' D σ H->t D σ H):PS X e t':=fun pins s σ H D I hw=>h pins s σ H D I (i _ _ _ hw)
theorem PSs.imp{X:Cx}{e:List PySem.Stmt}{t t':TS}(h:PSs X e t)(i:∀ D σ H,t' D σ H->t D σ H):PSs X e t':=fun pins s σ H D I hw=>h pins s σ H D I (i _ _ _ hw)
end L2
namespace F
open PySem PySem.Spec PyProof.Rows L2
noncomputable def yC:PV->Option Bool
 | .bl b=>some b
 | _=>none
noncomputable def zA(i:Nat):FE:=fun env=>(env[i]?).join
noncomputable def fC(p:PV):FE:=fun _=>some p
noncomputable def fOp(g:PV->PV->Option PV)(fa fb:FE):FE:=fun env=>(fa env).bind fun x=>(fb env).bind fun y=>g x y
noncomputable def fUn(g:PV->Option PV)(fa:FE):FE:=fun env=>(fa env).bind g
noncomputable def zm(f:FE):FE:=fun env=>(f env).bind fun p=>if zl p=true then some p else none
noncomputable def fT(f:FE):FT:=fun env=>(f env).bind yC
noncomputable def zdj(t u:FT):FT:=fun env=>(t env).bind fun b=>if b=true then u env else some false
noncomputable def fOr(t u:FT):FT:=fun env=>(t env).bind fun b=>if b=true then some true else u env
noncomputable def uN(t:FT):FT:=fun env=>(t env).map fun b=>!b
noncomputable def fIf(t:FT)(a b:FE):FE:=fun env=>(t env).bind fun c=>if c=true then a env else b env
noncomputable def zI:FA:=fun _=>some []
noncomputable def zC(f:FE)(r:FA):FA:=fun env=>(f env).bind fun p=>(r env).map fun ps=>p::ps
noncomputable def xJ(f:FA):FE:=fun env=>(f env).map .tup
noncomputable def xA(f:FA):FE:=fun env=>(f env).map .lst
noncomputable def zJ(Φ:List PV->Option PV)(f:FA):FE:=fun env=>(f env).bind Φ
section
variable {X:Cx} {κ:Nat->Option Nat} {G:Hp} {c c1 c2:Cat} {a b e:Expr} {es:List Expr} {fa fb f:FE} {t u:FT} {fs:FA} {pos:Pos}
theorem VE.bo(h:VE X κ G c e f):VE X κ G .bo e f:=PE.imp h fun σ H Q ⟨own,env,p,I,hf,k⟩=>(.in I hf fun v H' A s r _=>k v H' A s r trivial)
theorem k5{K:PySem.W.Frag}{own:Addr->Option Nat}{env:En}{σ:St}{H:Hp}{A:List Addr}(I:VI K κ G own env σ H)(h:∀ a ∈ A,H a=none):∀ a ∈ A,own a=none:=fun a ha=>by
 cases e:own a with
 | none=>rfl
 | some l=>obtain ⟨_,m⟩:=I.own a l e;obtain ⟨o,h'⟩:=m.some;rw [h a ha] at h';cases h'
theorem VE.sh(h:VE X κ G (.mv []) e f):VE X κ G .sh e f:=PE.imp h fun σ H Q ⟨own,env,p,I,hf,k⟩=>by
 exact (.in I hf fun v H' A s r hc=>k v H' A s r (k5 I fun a ha=>(hc.2 a ha).elim id fun ⟨_,hl,_⟩=>nomatch hl))
theorem VE.data(h:VE X κ G c e f)(L:Cat):VE X κ G L e (zm f):=PE.imp h fun σ H Q ⟨own,env,p,I,hf,k⟩=>by
 unfold zm at hf
 cases hq:f env with
 | none=>rw [hq] at hf;cases hf
 | some q=>
  rw [hq] at hf
  dsimp only [Option.bind_some] at hf
  split at hf
  ·rename_i hd
   cases hf
   refine (.in I hq fun v H' A s r hc=>k v H' A s r ?_)
   rw [Rp.data p hd r]
   exact Cat.nil _ _ _
  ·cases hf
theorem zB (i : Nat) {x : Str} (hk : κ i = none) (h : PE X (.Name x pos) (vg i)) : VE X κ G .sh (.Name x pos) (zA i) := h.imp fun σ H Q hq_ => by
  refine hq_.elim fun own env p I hf k => ?_
  have e : env[i]? = some (some p) := by
    unfold zA at hf
    cases q : env[i]? with
    | none => rw [q] at hf; cases hf
    | some z => rw [q] at hf; have : z = some p := by simpa using hf
                rw [this]
  obtain ⟨v, A, h1, h2, h3, _⟩ := I.slot i p e
  exact ⟨v, h1, k v H A (Same.refl _) h2 (h3 hk)⟩
theorem yG (i : Nat) {x : Str} (h : PE X (.Name x pos) (vg i)) : VE X κ G .bo (.Name x pos) (zA i) := h.imp fun σ H Q hq_ => by
  refine hq_.elim fun own env p I hf k => ?_
  have e : env[i]? = some (some p) := by
    unfold zA at hf
    cases q : env[i]? with
    | none => rw [q] at hf; cases hf
    | some z => rw [q] at hf; have : z = some p := by simpa using hf
                rw [this]
  obtain ⟨v, A, h1, h2, h3, _⟩ := I.slot i p e
  exact ⟨v, h1, k v H A (Same.refl _) h2 trivial⟩
theorem u5 (i : Nat) {l : Nat} {x : Str} (hk : κ i = some l) (h : PE X (.Name x pos) (vg i)) : VE X κ G (.mv [l]) (.Name x pos) (zA i) := h.imp fun σ H Q hq_ => by
  refine hq_.elim fun own env p I hf k => ?_
  have e : env[i]? = some (some p) := by
    unfold zA at hf
    cases q : env[i]? with
    | none => rw [q] at hf; cases hf
    | some z => rw [q] at hf; have : z = some p := by simpa using hf
                rw [this]
  obtain ⟨v, A, h1, h2, _, h3⟩ := I.slot i p e
  exact ⟨v, h1, k v H A (Same.refl _) h2 ⟨(h3 l hk).1, fun a ha => .inr ⟨l, List.mem_singleton.mpr rfl, (h3 l hk).2 a ha⟩⟩⟩
theorem qH{p:PV}{v:V}(hp:∀ K H,Rp K H p v [])(h:PE X e (tC v)):VE X κ G c e (fC p):=h.imp fun σ H Q hq_=>by
 refine hq_.elim fun own env q I hf k=>?_
 cases hf
 exact k v H [] (Same.refl _) (hp _ _) (Cat.nil _ _ _)
theorem zH{i j}:VE X κ G (.mv []) (.Constant (.int i) j pos) (fC (.int i)):=qH (fun _ _=>.mkI i) zie
theorem u6{i j}:VE X κ G (.mv []) (.Constant (.bool i) j pos) (fC (.bl i)):=qH (fun _ _=>.mkB i) znk
theorem zli{j}:VE X κ G (.mv []) (.Constant .none j pos) (fC .non):=qH (fun _ _=>.mkN) zlP
theorem qF{i j}:VE X κ G (.mv []) (.Constant (.str i) j pos) (fC (.str i)):=qH (fun _ _=>.mkS i) zlM
noncomputable def OpV(K:PySem.W.Frag)(r:R2)(g:PV->PV->Option PV):Prop:=∀ (H:Hp) (p q:PV) (x y:V) (A B:List Addr) (z:PV) (Q:VK),Rp K H p x A->Rp K H q y B->g p q=some z->
 (∀ v H' C,Same H H'->Rp K H' z v C->C.Nodup->(∀ a ∈ C,H a=none)->Q v H')->r x y H Q
theorem zeC{K:PySem.W.Frag}{r:R2}{g:PV->PV->Option PV}(hv:OpV K r g)(σ:St)(H:Hp)(Q:VK)(h:tV K κ G (.mv []) (fOp g fa fb) σ H Q):tOp r (tV K κ G c1 fa) (tV K κ G c2 fb) σ H Q:=by
 obtain ⟨own,env,z,I,e,k⟩:=h
 unfold fOp at e
 replace e:=Option.bind_eq_some_iff.mp e;obtain ⟨p,hp,e⟩:=e
 replace e:=Option.bind_eq_some_iff.mp e;obtain ⟨q,hq,e⟩:=e
 refine (.in I hp fun x H1 A s1 r1 _=>(.in (I.grow s1) hq fun y H2 B s2 r2 _=>?_))
 exact hv H2 p q x y A B z Q (Rp.same s2 p r1) r2 e fun v H' C s3 r3 nd fr=>k v H' C (s1.trans (s2.trans s3)) r3 ⟨nd,fun a ha=>.inl ((s1.trans s2).free (fr a ha))⟩
theorem zZ{op:Operator}{r:R2}{g:PV->PV->Option PV}(ho:OpR X (binaryOp op) r)(hv:OpV X.K r g)(ha:VE X κ G c1 a fa)(hb:VE X κ G c2 b fb):VE X κ G (.mv []) (.BinOp a op b pos) (fOp g fa fb):=
 (zkV ho ha hb).imp (zeC hv)
theorem qG{op:CmpOp}{r:R2}{g:PV->PV->Option PV}(ho:OpR X (compareOp op) r)(hv:OpV X.K r g)(ha:VE X κ G c1 a fa)(hb:VE X κ G c2 b fb)(hm:behindInMarks op b=false):VE X κ G (.mv []) (.Compare a [op] [b] pos) (fOp g fa fb):=
 (zkc ho ha hb hm).imp (zeC hv)
theorem zdB{te:TE}(h:∀ σ H Q,tV X.K κ G (.mv []) f σ H Q->te σ H Q)(σ:St)(H:Hp)(Q:Bool->Hp->Prop)(hq:tVT X.K κ G (fT f) σ H Q):zhG te σ H Q:=by
 obtain ⟨own,env,b,I,e,k⟩:=hq
 unfold fT at e
 replace e:=Option.bind_eq_some_iff.mp e;obtain ⟨p,hp,e⟩:=e
 cases p<;>first | cases e | skip
 refine h _ _ _ (.in I hp fun v H' A s r _=>?_)
 exact ⟨_,r.B.1,k H' s⟩
theorem zX{op:CmpOp}{r:R2}{g:PV->PV->Option PV}(ho:OpR X (compareOp op) r)(hv:OpV X.K r g)(ha:VE X κ G c1 a fa)(hb:VE X κ G c2 b fb)(hm:behindInMarks op b=false):VT X κ G (.Compare a [op] [b] pos) (fT (fOp g fa fb)):=
 (zfL ho ha hb hm).imp (zdB (zeC hv))
noncomputable def vF(g g':PV->PV->Option PV)(fa fb fc:FE):FE:=fun env=>(fa env).bind fun x=>(fb env).bind fun y=>(g x y).bind fun z=>(yC z).bind fun k=>if k=true then (fc env).bind fun w=>g' y w else some (.bl false)
theorem zcb{K:PySem.W.Frag}{r r':R2}{g g':PV->PV->Option PV}{fc:FE}{c3:Cat}(hv:OpV K r g)(hv':OpV K r' g')(σ:St)(H:Hp)(Q:VK)(h:tV K κ G (.mv []) (vF g g' fa fb fc) σ H Q):zeD r r' (tV K κ G c1 fa) (tV K κ G c2 fb) (tV K κ G c3 fc) σ H Q:=by
 obtain ⟨own,env,z,I,e,k⟩:=h
 unfold vF at e
 replace e:=Option.bind_eq_some_iff.mp e;obtain ⟨p,hp,e⟩:=e
 replace e:=Option.bind_eq_some_iff.mp e;obtain ⟨q,hq,e⟩:=e
 replace e:=Option.bind_eq_some_iff.mp e;obtain ⟨d,hg,e⟩:=e
 cases d<;>first | cases e | skip
 rename_i kb
 rw [show yC (.bl kb)=some kb from rfl,Option.bind_some] at e
 refine (.in I hp fun x H1 A s1 r1 _=>(.in (I.grow s1) hq fun y H2 B s2 r2 _=>?_))
 refine hv H2 p q x y A B _ _ (Rp.same s2 p r1) r2 hg fun v H3 C s3 r3 nd fr=>⟨kb,r3.B.1,?_⟩
 cases kb with
 | false=>
  cases e
  exact ite_ff (k _ _ [] (s1.trans (s2.trans s3)) (.mkB false) (Cat.nil _ _ _))
 | true=>
  simp only [if_true] at e
  replace e:=Option.bind_eq_some_iff.mp e;obtain ⟨w,hc,e⟩:=e
  refine ite_tt ⟨own,env,w,I.grow (s1.trans (s2.trans s3)),hc,fun y' H4 C' s4 r4 _=>?_⟩
  exact hv' H4 q w y y' B C' z Q (Rp.same (s3.trans s4) q r2) r4 e fun v H' C s5 r5 nd fr=>k v H' C (s1.trans (s2.trans (s3.trans (s4.trans s5)))) r5 ⟨nd,fun a ha=>.inl ((s1.trans (s2.trans (s3.trans s4))).free (fr a ha))⟩
theorem zhA{op op':CmpOp}{r r':R2}{g g':PV->PV->Option PV}{cc:Expr}{fc:FE}{c3:Cat}(ho:OpR X (compareOp op) r)(ho':OpR X (compareOp op') r')(hv:OpV X.K r g)(hv':OpV X.K r' g')(ha:VE X κ G c1 a fa)(hb:VE X κ G c2 b fb)(hc:VE X κ G c3 cc fc)
  (hm:lastMarks [op,op'] [b,cc]=false:=by with_unfolding_all rfl):VE X κ G (.mv []) (.Compare a [op,op'] [b,cc] pos) (vF g g' fa fb fc):=(zih ho ho' ha hb hc hm).imp (zcb hv hv')
theorem zdv{op op':CmpOp}{r r':R2}{g g':PV->PV->Option PV}{cc:Expr}{fc:FE}{c3:Cat}(ho:OpR X (compareOp op) r)(ho':OpR X (compareOp op') r')(hv:OpV X.K r g)(hv':OpV X.K r' g')(ha:VE X κ G c1 a fa)(hb:VE X κ G c2 b fb)(hc:VE X κ G c3 cc fc)
  (hm:lastMarks [op,op'] [b,cc]=false:=by with_unfolding_all rfl):VT X κ G (.Compare a [op,op'] [b,cc] pos) (fT (vF g g' fa fb fc)):=(zhV ho ho' ha hb hc hm).imp (zdB (zcb hv hv'))
noncomputable def UnV(K:PySem.W.Frag)(r:V->Hp->VK->Prop)(g:PV->Option PV):Prop:=∀ (H:Hp) (p:PV) (x:V) (A:List Addr) (z:PV) (Q:VK),Rp K H p x A->g p=some z->(∀ v H' C,Same H H'->Rp K H' z v C->C.Nodup->(∀ a ∈ C,H a=none)->Q v H')->r x H Q
theorem zmI{op:UnaryOp}{r:V->Hp->VK->Prop}{g:PV->Option PV}(ho:UnR X (unaryOp op) r)(hv:UnV X.K r g)(ha:VE X κ G c a fa):VE X κ G (.mv []) (.UnaryOp op a pos) (fUn g fa):=(znh ho ha).imp fun σ H Q hq_=>by
 refine hq_.elim fun own env z I e k=>?_
 unfold fUn at e
 replace e:=Option.bind_eq_some_iff.mp e;obtain ⟨p,hp,e⟩:=e
 exact (.in I hp fun x H1 A s1 r1 _=>hv H1 p x A z Q r1 e fun v H' C s2 r2 nd fr=>k v H' C (s1.trans s2) r2 ⟨nd,fun a ha=>.inl (s1.free (fr a ha))⟩)
theorem ve(h:VT X κ G a t):VT X κ G (.UnaryOp .Not a pos) (uN t):=(zlC h).imp fun σ H Q hq_=>by
 refine hq_.elim fun own env b I e k=>?_
 unfold uN at e
 cases hp:t env with
 | none=>rw [hp] at e;cases e
 | some p=>rw [hp] at e;cases e;exact ⟨own,env,p,I,hp,k⟩
theorem zcG(h:VT X κ G a t):VW X κ G (.BoolOp .And [a] pos) t:=zjK h
theorem j3(h:VT X κ G a t):VW X κ G (.BoolOp .Or [a] pos) t:=zlA h
theorem zet{xW:List Expr}(h:VT X κ G a t)(h2:VW X κ G (.BoolOp .And (b::xW) pos) u):VW X κ G (.BoolOp .And (a::b::xW) pos) (zdj t u):=(zlB h h2).imp fun σ H Q hq_=>by
 refine hq_.elim fun own env z I e k=>?_
 unfold zdj at e
 replace e:=Option.bind_eq_some_iff.mp e;obtain ⟨p,hp,e⟩:=e
 refine (.in I hp fun H1 s1=>?_)
 cases p with
 | true=>exact ite_tt (.in (I.grow s1) (by simpa using e) fun H' s2=>k H' (s1.trans s2))
 | false=>cases e;exact ite_ff (k H1 s1)
theorem jv{xW:List Expr}(h:VT X κ G a t)(h2:VW X κ G (.BoolOp .Or (b::xW) pos) u):VW X κ G (.BoolOp .Or (a::b::xW) pos) (fOr t u):=(znf h h2).imp fun σ H Q hq_=>by
 refine hq_.elim fun own env z I e k=>?_
 unfold fOr at e
 replace e:=Option.bind_eq_some_iff.mp e;obtain ⟨p,hp,e⟩:=e
 refine (.in I hp fun H1 s1=>?_)
 cases p with
 | false=>exact ite_ff (.in (I.grow s1) (by simpa using e) fun H' s2=>k H' (s1.trans s2))
 | true=>cases e;exact ite_tt (k H1 s1)
theorem VW.vt(h:VW X κ G e t):VT X κ G e t:=PW.pt h
theorem zew{op}(h:VE X κ G c a fa):VE X κ G c (.BoolOp op [a] pos) fa:=zlN h
noncomputable def zcv(fa fb:FE):FE:=fun env=>(fa env).bind fun x=>(yC x).bind fun k=>if k=true then fb env else some (.bl false)
noncomputable def ziW(fa fb:FE):FE:=fun env=>(fa env).bind fun x=>(yC x).bind fun k=>if k=true then some (.bl true) else fb env
noncomputable def zgd(fa:FE):FE:=fun env=>(fa env).bind fun x=>(yC x).map fun k=>.bl (!k)
theorem zhB{xW:List Expr}(h:VE X κ G c1 a fa)(h2:VE X κ G (.mv []) (.BoolOp .And (b::xW) pos) fb):VE X κ G (.mv []) (.BoolOp .And (a::b::xW) pos) (zcv fa fb):=(zlS h h2).imp fun σ H Q hq_=>by
 refine hq_.elim fun own env z I e k=>?_
 unfold zcv at e
 replace e:=Option.bind_eq_some_iff.mp e;obtain ⟨p,hp,e⟩:=e
 cases p<;>first | cases e | skip
 rename_i kb
 rw [show yC (.bl kb)=some kb from rfl,Option.bind_some] at e
 refine (.in I hp fun x H1 A s1 r1 _=>⟨kb,r1.B.1,?_⟩)
 cases kb with
 | true=>exact ite_tt (.in (I.grow s1) (by simpa using e) fun v H' A s2 r2 h=>k v H' A (s1.trans s2) r2 ⟨h.1,fun a ha=>(h.2 a ha).elim (fun z=>.inl (s1.free z)) .inr⟩)
 | false=>cases e;exact ite_ff (k _ H1 [] s1 (.mkB false) (Cat.nil _ _ _))
theorem zmJ{xW:List Expr}(h:VE X κ G c1 a fa)(h2:VE X κ G (.mv []) (.BoolOp .Or (b::xW) pos) fb):VE X κ G (.mv []) (.BoolOp .Or (a::b::xW) pos) (ziW fa fb):=(zni h h2).imp fun σ H Q hq_=>by
 refine hq_.elim fun own env z I e k=>?_
 unfold ziW at e
 replace e:=Option.bind_eq_some_iff.mp e;obtain ⟨p,hp,e⟩:=e
 cases p<;>first | cases e | skip
 rename_i kb
 rw [show yC (.bl kb)=some kb from rfl,Option.bind_some] at e
 refine (.in I hp fun x H1 A s1 r1 _=>⟨kb,r1.B.1,?_⟩)
 cases kb with
 | false=>exact ite_ff (.in (I.grow s1) (by simpa using e) fun v H' A s2 r2 h=>k v H' A (s1.trans s2) r2 ⟨h.1,fun a ha=>(h.2 a ha).elim (fun z=>.inl (s1.free z)) .inr⟩)
 | true=>cases e;exact ite_tt (k _ H1 [] s1 (.mkB true) (Cat.nil _ _ _))
theorem zlh(h:VE X κ G c1 a fa):VE X κ G (.mv []) (.UnaryOp .Not a pos) (zgd fa):=(zlO h).imp fun σ H Q hq_=>by
 refine hq_.elim fun own env z I e k=>?_
 unfold zgd at e
 replace e:=Option.bind_eq_some_iff.mp e;obtain ⟨p,hp,e⟩:=e
 cases p<;>first | cases e | skip
 rename_i kb
 exact (.in I hp fun x H1 A s1 r1 _=>⟨_,r1.B.1,k _ H1 [] s1 (.mkB _) (Cat.nil _ _ _)⟩)
theorem Cat.back{L:List Nat}{H H1:Hp}{own:Addr->Option Nat}{A:List Addr}(c:Cat)(s:Same H H1)(h:c.ok H1 own A):c.ok H own A:=by
 cases c with
 | mv L=>exact ⟨h.1,fun a ha=>(h.2 a ha).elim (fun z=>.inl (s.free z)) .inr⟩
 | sh=>exact h
 | bo=>trivial
theorem zmK{cc:Expr}(hc:VT X κ G cc t)(ha:VE X κ G c a fa)(hb:VE X κ G c b fb):VE X κ G c (.IfExp cc a b pos) (fIf t fa fb):=(zif hc ha hb).imp fun σ H Q hq_=>by
 refine hq_.elim fun own env z I e k=>?_
 unfold fIf at e
 replace e:=Option.bind_eq_some_iff.mp e;obtain ⟨p,hp,e⟩:=e
 refine (.in I hp fun H1 s1=>?_)
 cases p with
 | true=>exact ite_tt (.in (I.grow s1) (by simpa using e) fun v H' A s2 r2 h=>k v H' A (s1.trans s2) r2 (Cat.back (L:=[]) c s1 h))
 | false=>exact ite_ff (.in (I.grow s1) (by simpa using e) fun v H' A s2 r2 h=>k v H' A (s1.trans s2) r2 (Cat.back (L:=[]) c s1 h))
theorem zE:VA X κ G c [] zI:=⟨pa_nil.imp fun σ H Q hq_=>by
 refine hq_.elim fun own env ps I e k=>?_
 cases e
 exact k [] H [] (Same.refl _) .nil (Cat.nil _ _ _),fun env ps e=>by cases e;rfl⟩
theorem uw{env:En}{ps:List PV}(e:zC f fs env=some ps):∃ p r,f env=some p/\fs env=some r/\ps=p::r:=by
 unfold zC at e
 replace e:=Option.bind_eq_some_iff.mp e;obtain ⟨p,hp,e⟩:=e
 cases hr:fs env with
 | none=>rw [hr] at e;cases e
 | some r=>rw [hr] at e;cases e;exact ⟨p,r,hp,rfl,rfl⟩
theorem qb(hr:∀ env ps,fs env=some ps->ps.length=es.length):∀ env ps,zC f fs env=some ps->ps.length=(e::es).length:=fun env ps hf=>by
 obtain ⟨p,r,_,h2,rfl⟩:=uw hf
 rw [List.length_cons,List.length_cons,hr env r h2]
theorem zG(h:VE X κ G c1 e f)(hr:VA X κ G .bo es fs)(hs:starEach (e::es) X.env=(false,eval e X.env)::starEach es X.env:=by rfl):VA X κ G .bo (e::es) (zC f fs):=⟨(zw h hr.1 hs).imp fun σ H Q hq_=>by
 refine hq_.elim fun own env ps I hf k=>?_
 obtain ⟨p,r,h1,h2,rfl⟩:=uw hf
 exact (.in I h1 fun v H1 A s1 r1 _=>(.in (I.grow s1) h2 fun vs H2 B s2 r2 _=>k _ H2 (A++B) (s1.trans s2) (.cons (Rp.same s2 p r1) r2) trivial)),qb hr.2⟩
theorem xF(h:VE X κ G .sh e f)(hr:VA X κ G .sh es fs)(hs:starEach (e::es) X.env=(false,eval e X.env)::starEach es X.env:=by rfl):VA X κ G .sh (e::es) (zC f fs):=⟨(zw h hr.1 hs).imp fun σ H Q hq_=>by
 refine hq_.elim fun own env ps I hf k=>?_
 obtain ⟨p,r,h1,h2,rfl⟩:=uw hf
 exact (.in I h1 fun v H1 A s1 r1 c1=>(.in (I.grow s1) h2 fun vs H2 B s2 r2 c2=>k _ H2 (A++B) (s1.trans s2) (.cons (Rp.same s2 p r1) r2) fun a ha=>(List.mem_append.mp ha).elim (c1 a) (c2 a))),qb hr.2⟩
theorem zx{L1 L2:List Nat}(h:VE X κ G (.mv L1) e f)(hr:VA X κ G (.mv L2) es fs)(hL:∀ l ∈ L1,l ∉ L2:=by decide)(hs:starEach (e::es) X.env=(false,eval e X.env)::starEach es X.env:=by rfl):VA X κ G (.mv (L1++L2)) (e::es) (zC f fs):=⟨(zw h hr.1 hs).imp fun σ H Q hq_=>by
 refine hq_.elim fun own env ps I hf k=>?_
 obtain ⟨p,r,h1,h2,rfl⟩:=uw hf
 refine (.in I h1 fun v H1 A s1 r1 c1=>(.in (I.grow s1) h2 fun vs H2 B s2 r2 c2=>k _ H2 (A++B) (s1.trans s2) (.cons (Rp.same s2 p r1) r2) ⟨?_,fun a ha=>?_⟩))
 ·refine List.nodup_append.mpr ⟨c1.1,c2.1,fun a ha b hb=>?_⟩
  rintro rfl
  obtain ⟨o,ho⟩:=r1.alloc ha
  rcases c2.2 a hb with z | ⟨l,hl,z⟩
  ·rw [ho] at z;cases z
  ·rcases c1.2 a ha with z' | ⟨l',hl',z'⟩
   ·obtain ⟨_,m⟩:=I.own a l z
    obtain ⟨o',h'⟩:=m.some
    rw [z'] at h';cases h'
   ·rw [z] at z';cases z';exact hL _ hl' hl
 ·rcases List.mem_append.mp ha with ha | ha
  ·exact (c1.2 a ha).elim .inl fun ⟨l,hl,z⟩=>.inr ⟨l,List.mem_append_left _ hl,z⟩
  ·exact (c2.2 a ha).elim (fun z=>.inl (s1.free z)) fun ⟨l,hl,z⟩=>.inr ⟨l,List.mem_append_right _ hl,z⟩,qb hr.2⟩
theorem Cat.push{L:List Nat}{K:PySem.W.Frag}{own:Addr->Option Nat}{env:En}{σ:St}{H H1:Hp}{A:List Addr}{p:Addr}{vs:List V}{ps:List PV}(c:Cat)(I:VI K κ G own env σ H)(s:Same H H1)(r:Rps K H1 ps vs A)(hp:H1 p=none)(h:c.ok H own A):c.ok H own (p::A):=by
 cases c with
 | mv L=>
  refine ⟨List.nodup_cons.mpr ⟨fun z=>?_,h.1⟩,fun a ha=>?_⟩
  ·obtain ⟨o,ho⟩:=(Rps.mut ps r p z).some
   rw [hp] at ho;cases ho
  ·rcases List.mem_cons.mp ha with rfl | ha
   ·exact .inl (s.free hp)
   ·exact h.2 a ha
 | sh=>
  intro a ha
  rcases List.mem_cons.mp ha with rfl | ha
  ·exact k5 (A:=[a]) I (fun b hb=>by rw [List.mem_singleton.mp hb];exact s.free hp) a (List.mem_singleton.mpr rfl)
  ·exact h a ha
 | bo=>trivial
theorem z7{x1}(h:VA X κ G c es fs)(hn:es.length≤100000:=by first | decide | simp):VE X κ G c (.Tuple es x1 pos) (xJ fs):=(zlL h.1).imp fun σ H Q hq_=>by
 refine hq_.elim fun own env z I e k=>?_
 unfold xJ at e
 cases hp:fs env with
 | none=>rw [hp] at e;cases e
 | some ps=>
  rw [hp] at e
  cases e
  have hl:=h.2 env ps hp
  refine (.in I hp fun vs H1 A s1 r1 c1=>⟨by rw [← r1.length,hl,sizeLine_eq];omega,fun p hn=>?_⟩)
  exact k _ _ A (z0 s1 (s1.free hn)) (.mkT (SqT.of zW) (Rps.same (z0 (Same.refl _) hn) ps r1)) c1
theorem yE(h:VA X κ G c es fs)(hn:es.length≤100000:=by first | decide | simp):VE X κ G c (.List es pos) (xA fs):=(zlQ h.1).imp fun σ H Q hq_=>by
 refine hq_.elim fun own env z I e k=>?_
 unfold xA at e
 cases hp:fs env with
 | none=>rw [hp] at e;cases e
 | some ps=>
  rw [hp] at e
  cases e
  have hl:=h.2 env ps hp
  refine (.in I hp fun vs H1 A s1 r1 c1=>⟨by rw [← r1.length,hl,sizeLine_eq];omega,fun p hn=>?_⟩)
  exact k _ _ (p::A) (z0 s1 (s1.free hn)) (.mkL zW (Rps.same (z0 (Same.refl _) hn) ps r1)) (Cat.push (L:=[]) c I s1 r1 hn c1)
end
inductive Out where
 | nx (e:En) | rt (p:PV) (e:En) | bk (e:En) | ct (e:En)
noncomputable abbrev FS:=En->Option Out
noncomputable def ko(O:List Nat):Nat->Option Nat:=fun i=>if i ∈ O then some i else none
theorem kq{O:List Nat}{i:Nat}(h:i ∈ O):ko O i=some i:=if_pos h
theorem qT{O:List Nat}{i:Nat}(h:i ∉ O):ko O i=none:=if_neg h
theorem kn{O:List Nat}{i l:Nat}(h:ko O i=some l):l=i:=by
 unfold ko at h
 split at h
 ·cases h;rfl
 ·cases h
noncomputable def OutK(K:PySem.W.Frag)(κ:Nat->Option Nat)(G:Hp)(own:Addr->Option Nat)(H:Hp)(D:Ends):Out->Prop
 | .nx e=>∀ own' σ' H',VI K κ G own' e σ' H'->Ext own H own' H'->D.nx σ' H'
 | .bk e=>∀ own' σ' H',VI K κ G own' e σ' H'->Ext own H own' H'->D.bk σ' H'
 | .ct e=>∀ own' σ' H',VI K κ G own' e σ' H'->Ext own H own' H'->D.ct σ' H'
 | .rt p e=>∀ v H' A own' σ',VI K κ G own' e σ' H'->Rp K H' p v A->A.Nodup->(∀ a ∈ A,G a=none/\own' a≠some 0)->D.rt v H'
theorem OutK.ext{K:PySem.W.Frag}{κ:Nat->Option Nat}{G:Hp}{own own':Addr->Option Nat}{H H':Hp}{D:Ends}{o:Out}(h:OutK K κ G own H D o)(x:Ext own H own' H'):OutK K κ G own' H' D o:=by
 cases o with
 | nx e=>exact fun o2 σ2 H2 I2 x2=>h o2 σ2 H2 I2 (x.trans x2)
 | bk e=>exact fun o2 σ2 H2 I2 x2=>h o2 σ2 H2 I2 (x.trans x2)
 | ct e=>exact fun o2 σ2 H2 I2 x2=>h o2 σ2 H2 I2 (x.trans x2)
 | rt p e=>exact h
noncomputable def tVS(K:PySem.W.Frag)(κ:Nat->Option Nat)(G:Hp)(g:FS):TS:=fun D σ H=>∃ own env o,VI K κ G own env σ H/\g env=some o/\OutK K κ G own H D o
theorem tVS.elim{K:PySem.W.Frag}{κ:Nat->Option Nat}{G:Hp}{g:FS}{D:Ends}{σ:St}{H:Hp}{C:Prop}(h:tVS K κ G g D σ H)(k:∀ own env o,VI K κ G own env σ H->g env=some o->OutK K κ G own H D o->C):C:=
 let ⟨own,env,o,I,hf,q⟩:=h
 k own env o I hf q
noncomputable def VS(X:Cx)(κ:Nat->Option Nat)(G:Hp)(st:Stmt)(g:FS):Prop:=PS X st (tVS X.K κ G g)
noncomputable def VSs(X:Cx)(κ:Nat->Option Nat)(G:Hp)(st:List Stmt)(g:FS):Prop:=PSs X st (tVS X.K κ G g)
noncomputable def fNx:FS:=fun env=>some (.nx env)
noncomputable def fBk:FS:=fun env=>some (.bk env)
noncomputable def fCt:FS:=fun env=>some (.ct env)
noncomputable def zU(g h:FS):FS:=fun env=>(g env).bind fun o=>match o with | .nx e=>h e | o=>some o
noncomputable def yM(f:FE):FS:=fun env=>(f env).map fun p=>.rt p env
noncomputable def y7(t:FT)(g h:FS):FS:=fun env=>(t env).bind fun b=>if b=true then g env else h env
noncomputable def zh(i:Nat)(f:FE):FS:=fun env=>(f env).map fun p=>.nx (env.set i (some p))
noncomputable def zff(bnd:PV->En->Option En)(f:FE):FS:=fun env=>(f env).bind fun p=>(bnd p env).map .nx
noncomputable def zbo(bnd:PV->En->Option En)(body:FS):List PV->En->Option Out
 | [],env=>some (.nx env)
 | p::ps,env=>(bnd p env).bind fun e1=>(body e1).bind fun o=>match o with | .nx e=>zbo bnd body ps e | .ct e=>zbo bnd body ps e | .bk e=>some (.nx e) | .rt p e=>some (.rt p e)
noncomputable def xu(src:FA)(bnd:PV->En->Option En)(body:FS):FS:=fun env=>(src env).bind fun ps=>zbo bnd body ps env
noncomputable def fWh(t:FT)(body:FS):Nat->En->Option Out
 | 0,_=>none
 | n+1,env=>(t env).bind fun b=>if b=true then (body env).bind fun o=>match o with | .nx e=>fWh t body n e | .ct e=>fWh t body n e | .bk e=>some (.nx e) | .rt p e=>some (.rt p e) else some (.nx env)
section
variable {X:Cx} {κ:Nat->Option Nat} {G:Hp} {c c1 c2:Cat} {a b e:Expr} {es:List Expr} {fa fb f:FE} {t u:FT} {fs:FA} {pos:Pos} {g h:FS} {st:Stmt} {xW:List Stmt}
theorem zj:VSs X κ G [] fNx:=pss_nil.imp fun D σ H hq_=>by
 refine hq_.elim fun own env o I hf k=>?_
 cases hf
 exact k own σ H I (Ext.refl _ _)
theorem zD(h1:VS X κ G st g)(h2:VSs X κ G xW h):VSs X κ G (st::xW) (zU g h):=(zdJ h1 h2).imp fun D σ H hq_=>by
 refine hq_.elim fun own env o I hf k=>?_
 unfold zU at hf
 replace hf:=Option.bind_eq_some_iff.mp hf;obtain ⟨o1,hg,hf⟩:=hf
 refine ⟨own,env,o1,I,hg,?_⟩
 cases o1 with
 | nx e1=>exact fun own' σ' H' I' x=>⟨own',e1,o,I',hf,k.ext x⟩
 | bk e1=>cases hf;exact k
 | ct e1=>cases hf;exact k
 | rt p e1=>cases hf;exact k
theorem zK(h1:VS X κ G st g):VSs X κ G [st] g:=(zdJ h1 pss_nil).imp fun D σ H h=>h
noncomputable def qa:FS:=fun _=>none
theorem jD:VS X κ G st qa:=ps_never.imp fun D σ H ⟨own,env,o,I,hf,k⟩=>nomatch hf
theorem zb{L:List Nat}(he:VE X κ G (.mv L) e f)(h0:0 ∉ L:=by decide):VS X κ G (.Return (some e) pos) (yM f):=(zlD he).imp fun D σ H hq_=>by
 refine hq_.elim fun own env o I hf k=>?_
 unfold yM at hf
 cases hp:f env with
 | none=>rw [hp] at hf;cases hf
 | some p=>
  rw [hp] at hf;cases hf
  refine (.in I hp fun v H' A s r hc=>k v H' A own σ (I.grow s) r hc.1 fun a ha=>?_)
  rcases hc.2 a ha with z | ⟨l,hl,z⟩
  ·refine ⟨I.same.free z,fun y=>?_⟩
   obtain ⟨o,ho⟩:=(I.own a 0 y).2.some
   rw [z] at ho;cases ho
  ·exact ⟨(I.own a l z).1,fun y=>h0 (by rw [z] at y;cases y;exact hl)⟩
noncomputable def znz:FS:=fun env=>some (.rt .non env)
theorem yV{cc:Expr}{bs1 bs2:List Stmt}(hc:VT X κ G cc t)(h1:VSs X κ G bs1 g)(h2:VSs X κ G bs2 h):VS X κ G (.If cc bs1 bs2 pos) (y7 t g h):=(zng hc h1 h2).imp fun D σ H hq_=>by
 refine hq_.elim fun own env o I hf k=>?_
 unfold y7 at hf
 replace hf:=Option.bind_eq_some_iff.mp hf;obtain ⟨p,hp,hf⟩:=hf
 refine (.in I hp fun H1 s1=>?_)
 cases p with
 | true=>exact ite_tt ⟨own,env,o,I.grow s1,by simpa using hf,k.ext (Ext.grow s1)⟩
 | false=>exact ite_ff ⟨own,env,o,I.grow s1,by simpa using hf,k.ext (Ext.grow s1)⟩
theorem VI.set_sh{K:PySem.W.Frag}{own:Addr->Option Nat}{env:En}{σ:St}{H:Hp}{i:Nat}{p:PV}{v:V}{A:List Addr}(I:VI K κ G own env σ H)(hk:κ i=none)(r:Rp K H p v A)(hA:∀ a ∈ A,own a=none):VI K κ G own (env.set i (some p)) (σ.set i (some v)) H:=by
 refine ⟨by simp [I.len],fun j q e=>?_,I.own,I.same⟩
 rw [List.getElem?_set] at e ⊢
 by_cases hij:i=j
 ·subst hij
  rw [if_pos rfl] at e ⊢
  by_cases hl:i<env.length
  ·rw [if_pos hl] at e
   rw [if_pos (by rw [← I.len];exact hl)]
   cases e
   exact ⟨v,A,rfl,r,fun _=>hA,fun l z=>by rw [hk] at z;cases z⟩
  ·rw [if_neg hl] at e;cases e
 ·rw [if_neg hij] at e ⊢
  exact I.slot j q e
noncomputable def acq(own:Addr->Option Nat)(i:Nat)(A:List Addr):Addr->Option Nat:=fun a=>if a ∈ A then some i else if own a=some i then none else own a
theorem VI.take{O:List Nat}{K:PySem.W.Frag}{own:Addr->Option Nat}{env:En}{σ:St}{H0 H2:Hp}{i:Nat}{p:PV}{v:V}{A:List Addr}(hi:i ∈ O)(I:VI K (ko O) G own env σ H0)
  (keep:∀ j q w B,j≠i->env[j]?=some (some q)->Rp K H0 q w B->(∀ b ∈ B,own b≠some i)->Rp K H2 q w B)
  (hx:∀ b o,own b≠some i->H0 b=some o->H2 b=some o)
  (r:Rp K H2 p v A)(nd:A.Nodup)(hA:∀ a ∈ A,own a=some i∨H0 a=none):
  VI K (ko O) G (acq own i A) (env.set i (some p)) (σ.set i (some v)) H2/\Ext own H0 (acq own i A) H2:=by
 have notin:∀ b o,own b≠some i->H0 b=some o->b ∉ A:=fun b o h1 h2 hb=>by
  rcases hA b hb with z | z
  ·exact h1 z
  ·rw [h2] at z;cases z
 have stay:∀ b o,own b≠some i->H0 b=some o->acq own i A b=own b:=fun b o h1 h2=>by
  unfold acq;rw [if_neg (notin b o h1 h2),if_neg h1]
 refine ⟨⟨by simp [I.len],fun j q e=>?_,fun b l e=>?_,fun b o e=>?_⟩,fun b o h1 h2=>?_⟩
 ·rw [List.getElem?_set] at e ⊢
  by_cases hij:i=j
  ·subst hij
   rw [if_pos rfl] at e ⊢
   by_cases hl:i<env.length
   ·rw [if_pos hl] at e
    rw [if_pos (by rw [← I.len];exact hl)]
    cases e
    refine ⟨v,A,rfl,r,fun z=>(by rw [kq hi] at z;cases z),fun l z=>?_⟩
    rw [kq hi] at z;cases z
    exact ⟨nd,fun a ha=>by unfold acq;rw [if_pos ha]⟩
   ·rw [if_neg hl] at e;cases e
  ·rw [if_neg hij] at e ⊢
   obtain ⟨w,B,h1,h2,h3,h4⟩:=I.slot j q e
   have no:∀ b ∈ B,own b≠some i:=fun b hb z=>by
    cases hk:ko O j with
    | none=>rw [h3 hk b hb] at z;cases z
    | some l=>
     have:=(h4 l hk).2 b hb
     rw [z] at this
     have e1:=kn hk
     cases this
     exact hij e1
   refine ⟨w,B,h1,keep j q w B (fun z=>hij z.symm) e h2 no,fun hk b hb=>?_,fun l hk=>⟨(h4 l hk).1,fun b hb=>?_⟩⟩
   ·obtain ⟨o,ho⟩:=h2.alloc hb
    rw [stay b o (no b hb) ho];exact h3 hk b hb
   ·obtain ⟨o,ho⟩:=h2.alloc hb
    rw [stay b o (no b hb) ho];exact (h4 l hk).2 b hb
 ·unfold acq at e
  split at e
  ·rename_i hb
   refine ⟨?_,Rp.mut p r b hb⟩
   rcases hA b hb with z | z
   ·exact (I.own b i z).1
   ·exact I.same.free z
  ·split at e
   ·cases e
   ·rename_i hb hn
    obtain ⟨h1,h2⟩:=I.own b l e
    refine ⟨h1,?_⟩
    rcases h2 with ⟨xs,h2⟩ | ⟨xs,h2⟩
    ·exact .inl ⟨xs,hx b _ hn h2⟩
    ·exact .inr ⟨xs,hx b _ hn h2⟩
 ·have h0:=I.same b o e
  refine hx b o (fun z=>?_) h0
  rw [(I.own b i z).1] at e;cases e
 ·have hn:own b≠some i:=by rw [h1];exact fun z=>nomatch z
  exact ⟨by rw [stay b o hn h2];exact h1,hx b o hn h2⟩
theorem zM{i:Nat}(hk:κ i=none)(h:PS X st (jF (tV X.K κ G .sh f) (uM i))):VS X κ G st (zh i f):=h.imp fun D σ H hq_=>by
 refine hq_.elim fun own env o I hf k=>?_
 unfold zh at hf
 cases hp:f env with
 | none=>rw [hp] at hf;cases hf
 | some p=>
  rw [hp] at hf;cases hf
  exact (.in I hp fun v H' A s r hc=>k own _ H' ((I.grow s).set_sh hk r hc) (Ext.grow s))
theorem zc{O:List Nat}{i:Nat}(hi:i ∈ O)(h:PS X st (jF (tV X.K (ko O) G (.mv []) f) (uM i))):VS X (ko O) G st (zh i f):=h.imp fun D σ H hq_=>by
 refine hq_.elim fun own env o I hf k=>?_
 unfold zh at hf
 cases hp:f env with
 | none=>rw [hp] at hf;cases hf
 | some p=>
  rw [hp] at hf;cases hf
  refine (.in I hp fun v H' A s r hc=>?_)
  obtain ⟨h1,h2⟩:=I.take hi (fun j q w B _ _ z _=>Rp.same s q z) (fun b o _ z=>s b o z) r hc.1 fun a ha=>.inr ((hc.2 a ha).elim id fun ⟨_,hl,_⟩=>nomatch hl)
  exact k _ _ H' h1 h2
noncomputable def tVG(K:PySem.W.Frag)(κ:Nat->Option Nat)(G:Hp)(Bs:List Nat)(bnd:PV->En->Option En):TG:=fun v σ H Q=>∃ own env p A e,VI K κ G own env σ H/\Rp K H p v A/\(∀ a ∈ A,own a=none)/\bnd p env=some e/\∀ σ',VI K κ G own e σ' H->(∀ i,i ∉ Bs->σ'[i]?=σ[i]?)->σ'.length=σ.length->Q σ' H
noncomputable def VG(X:Cx)(κ:Nat->Option Nat)(G:Hp)(Bs:List Nat)(tg:Expr)(bnd:PV->En->Option En):Prop:=PG X tg (tVG X.K κ G Bs bnd)
noncomputable def zoa(K:PySem.W.Frag)(κ:Nat->Option Nat)(G:Hp)(Bs:List Nat)(bnd:List PV->En->Option En):TGs:=fun vs σ H Q=>∃ own env ps A e,VI K κ G own env σ H/\Rps K H ps vs A/\(∀ a ∈ A,own a=none)/\bnd ps env=some e/\∀ σ',VI K κ G own e σ' H->(∀ i,i ∉ Bs->σ'[i]?=σ[i]?)->σ'.length=σ.length->Q σ' H
noncomputable def VGs(X:Cx)(κ:Nat->Option Nat)(G:Hp)(Bs:List Nat)(tg:List Expr)(bnd:List PV->En->Option En):Prop:=PGs X tg (zoa X.K κ G Bs bnd)
noncomputable def zP(i:Nat):PV->En->Option En:=fun p env=>some (env.set i (some p))
noncomputable def kN:List PV->En->Option En:=fun ps env=>match ps with | []=>some env | _=>none
noncomputable def yu(b1:PV->En->Option En)(b2:List PV->En->Option En):List PV->En->Option En:=fun ps env=>match ps with | p::r=>(b1 p env).bind fun e=>b2 r e | []=>none
noncomputable def kM(n:Nat)(b:List PV->En->Option En):PV->En->Option En:=fun p env=>match p with
 | .tup ps=>if ps.length=n then b ps env else none
 | .lst ps=>if ps.length=n then b ps env else none
 | _=>none
end
end F
namespace L2
theorem PG.imp{X:Cx}{e:PySem.Expr}{t t':TG}(h:PG X e t)(i:∀ v σ H Q,t' v σ H Q->t v σ H Q):PG X e t':=fun pins s σ H v u Q I r hw=>h pins s σ H v u Q I r (i _ _ _ _ hw)
theorem PGs.imp{X:Cx}{e:List PySem.Expr}{t t':TGs}(h:PGs X e t)(i:∀ v σ H Q,t' v σ H Q->t v σ H Q):PGs X e t':=fun pins s σ H v u Q I r hw=>h pins s σ H v u Q I r (i _ _ _ _ hw)
theorem PG.or{X:Cx}{e:PySem.Expr}{t t':TG}(h:PG X e t)(h':PG X e t'):PG X e (fun v σ H Q=>t v σ H Q∨t' v σ H Q):=fun pins s σ H v u Q I r hw=>hw.elim (h pins s σ H v u Q I r) (h' pins s σ H v u Q I r)
theorem PI.imp{X:Cx}{tg e:PySem.Expr}{t t':TI}(h:PI X tg e t)(i:∀ σ H R,t' σ H R->t σ H R):PI X tg e t':=fun pins s σ H R I hw=>h pins s σ H R I (i _ _ _ hw)
end L2
namespace F
open PySem PySem.Spec PyProof.Rows L2
section
variable {X:Cx} {κ:Nat->Option Nat} {G:Hp} {c c1 c2:Cat} {a b e:Expr} {es:List Expr} {fa fb f:FE} {t u:FT} {fs:FA} {pos:Pos} {g h:FS} {st:Stmt} {xW:List Stmt} {bnd:PV->En->Option En} {bnds:List PV->En->Option En}
theorem zR(i:Nat){tg:Expr}(hk:κ i=none)(h:PG X tg (uM i)):VG X κ G [i] tg (zP i):=h.imp fun v σ H Q hq_=>by
 obtain ⟨own,env,p,A,e,I,r,hA,hb,k⟩:=hq_
 cases hb
 refine k _ (I.set_sh hk r hA) (fun j hj=>?_) (by simp)
 rw [List.getElem?_set,if_neg (fun z=>hj (by simp [z]))]
theorem jj:VGs X κ G [] [] kN:=pgs_nil.imp fun vs σ H Q hq_=>by
 obtain ⟨own,env,ps,A,e,I,r,hA,hb,k⟩:=hq_
 unfold kN at hb
 cases ps with
 | nil=>cases hb;exact ⟨r.inv0.1,k σ I (fun _ _=>rfl) rfl⟩
 | cons p ps=>cases hb
theorem yn{Bs1 Bs2:List Nat}(h1:VG X κ G Bs1 e bnd)(h2:VGs X κ G Bs2 es bnds)(hs:(assignEach (e::es) X.env).map (·.2)=assign e X.env::(assignEach es X.env).map (·.2):=by rfl):VGs X κ G (Bs1++Bs2) (e::es) (yu bnd bnds):=(zib h1 h2 hs).imp fun vs σ H Q hq_=>by
 obtain ⟨own,env,ps,A,e,I,r,hA,hb,k⟩:=hq_
 unfold yu at hb
 cases ps with
 | nil=>cases hb
 | cons p ps=>
  dsimp only at hb
  obtain ⟨v,r',A1,A2,h1,h2,h3,h4⟩:=r.inv
  replace hb:=Option.bind_eq_some_iff.mp hb;obtain ⟨e1,hp,hb⟩:=hb
  subst h2
  refine ⟨v,r',h1,own,env,p,A1,e1,I,h3,fun a ha=>hA a (List.mem_append_left _ ha),hp,fun σ1 I1 q1 l1=>?_⟩
  exact ⟨own,e1,ps,A2,e,I1,h4,fun a ha=>hA a (List.mem_append_right _ ha),hb,fun σ2 I2 q2 l2=>k σ2 I2 (fun i hi=>(q2 i fun z=>hi (List.mem_append_right _ z)).trans (q1 i fun z=>hi (List.mem_append_left _ z))) (l2.trans l1)⟩
theorem qE{Bs:List Nat}{k:Nat}(n:Nat)(hc:X.calm=true)(h:VGs X κ G Bs es bnds)(hn:(assignEach es X.env).length=n:=by rfl)(hst:(assignEach es X.env).findIdx? (·.1)=none:=by rfl):VG X κ G Bs (.Tuple es k pos) (kM n bnds):=
 ((zlI hc h hn hst).or (zlJ hc h hn hst)).imp fun v σ H Q hq_=>by
 obtain ⟨own,env,p,A,e,I,r,hA,hb,k⟩:=hq_
 unfold kM at hb
 cases p with
 | tup ps=>
  dsimp only at hb
  split at hb
  ·rename_i hl
   obtain ⟨a,xs,h1,h2,h3⟩:=r.T
   exact .inl ⟨a,xs,h1,h2,by rw [← h3.length];exact hl,own,env,ps,A,e,I,h3,hA,hb,k⟩
  ·cases hb
 | lst ps=>
  dsimp only at hb
  split at hb
  ·rename_i hl
   obtain ⟨a,xs,B,h1,h2,h3,h4⟩:=r.L
   subst h3
   exact .inr ⟨a,xs,h1,SqL.of h2,by rw [← h4.length];exact hl,own,env,ps,B,e,I,h4,fun a ha=>hA a (List.mem_cons_of_mem _ ha),hb,k⟩
  ·cases hb
 | _=>cases hb
theorem zeu{Bs:List Nat}{tg:Expr}(he:VE X κ G .sh e f)(hg:VG X κ G Bs tg bnd)(hs:swapsWithSole [tg] e pos.line X.env=pure false:=by rfl)(hw:swappedStores [tg] e X.env=pure none:=by rfl)
  (h1:(assignEach [tg] X.env).map (·.2)=[assign tg X.env]:=by rfl):VS X κ G (.Assign [tg] e pos) (zff bnd f):=(ud he hg hs hw h1).imp fun D σ H hq_=>by
 refine hq_.elim fun own env o I hf k=>?_
 unfold zff at hf
 replace hf:=Option.bind_eq_some_iff.mp hf;obtain ⟨p,hp,hf⟩:=hf
 cases hb:bnd p env with
 | none=>rw [hb] at hf;cases hf
 | some e1=>
  rw [hb] at hf;cases hf
  exact (.in I hp fun v H' A s r hc=>⟨own,env,p,A,e1,I.grow s,r,hc,hb,fun σ' I' _ _=>k own σ' H' I' (Ext.grow s)⟩)
noncomputable def Stay(own:Addr->Option Nat)(H1 H2:Hp):Prop:=∀ b o,own b=none->H1 b=some o->H2 b=some o
theorem Stay.ext{own own':Addr->Option Nat}{H1 H2:Hp}(s:Ext own H1 own' H2):Stay own H1 H2:=fun b o h e=>(s b o h e).2
theorem Stay.tup{K:PySem.W.Frag}{own:Addr->Option Nat}{H1 H2:Hp}{a:Addr}{xs:List V}(s:Stay own H1 H2)(hm:∀ a l,own a=some l->MutH H1 a)(h:SqT K H1 a xs):SqT K H2 a xs:=by
 have no:∀ o,H1 a=some o->(∀ z,o≠.lst z)->(∀ z,o≠.dK z)->own a=none:=fun o e n1 n2=>by
  cases q:own a with
  | none=>rfl
  | some l=>
   rcases hm a l q with ⟨z,m⟩ | ⟨z,m⟩
   ·rw [e] at m;exact absurd (Option.some.inj m) (n1 z)
   ·rw [e] at m;exact absurd (Option.some.inj m) (n2 z)
 rcases h with (h | ⟨u,h⟩) | h
 ·exact .inl (.inl (s _ _ (no _ h (fun _ z=>nomatch z) fun _ z=>nomatch z) h))
 ·exact .inl (.inr ⟨u,s _ _ (no _ h (fun _ z=>nomatch z) fun _ z=>nomatch z) h⟩)
 ·exact .inr h
theorem Stay.fz{K:PySem.W.Frag}{own:Addr->Option Nat}{H1 H2:Hp}{a:Addr}{xs:List V}(s:Stay own H1 H2)(hm:∀ a l,own a=some l->MutH H1 a)(h:Fz K H1 a xs):Fz K H2 a xs:=by
 rcases h with ⟨u,h⟩ | h
 ·refine .inl ⟨u,s _ _ ?_ h⟩
  cases q:own a with
  | none=>rfl
  | some l=>rcases hm a l q with ⟨z,m⟩ | ⟨z,m⟩<;>(rw [h] at m;cases m)
 ·exact .inr h
mutual
theorem Rp.stay{K:PySem.W.Frag}{own:Addr->Option Nat}{H1 H2:Hp}(s:Stay own H1 H2)(hm:∀ a l,own a=some l->MutH H1 a):∀ (p:PV) {v:V} {A:List Addr},(∀ a ∈ A,own a=none)->Rp K H1 p v A->Rp K H2 p v A
 | .non,_,_,_,h=>by unfold Rp at h ⊢;exact h
 | .bl _,_,_,_,h=>by unfold Rp at h ⊢;exact h
 | .int _,_,_,_,h=>by unfold Rp at h ⊢;exact h
 | .str _,_,_,_,h=>by unfold Rp at h ⊢;exact h
 | .ty _,_,_,_,h=>by unfold Rp at h ⊢;exact h
 | .any,_,_,_,h=>by unfold Rp at h ⊢;exact h
 | .pen a _,_,_,hA,h=>by
  unfold Rp at h ⊢
  exact ⟨h.1,h.2.1,s _ _ (hA a (by rw [h.2.1];exact List.mem_cons_self)) h.2.2⟩
 | .tup ps,_,_,hA,h=>by
  unfold Rp at h ⊢
  obtain ⟨a,xs,h1,h2,h3⟩:=h
  exact ⟨a,xs,h1,s.tup hm h2,Rps.stay s hm ps hA h3⟩
 | .lst ps,_,_,hA,h=>by
  unfold Rp at h ⊢
  obtain ⟨a,xs,B,h1,h2,rfl,h4⟩:=h
  exact ⟨a,xs,B,h1,s _ _ (hA a List.mem_cons_self) h2,rfl,Rps.stay s hm ps (fun b hb=>hA b (List.mem_cons_of_mem _ hb)) h4⟩
 | .fls ps,_,_,hA,h=>by
  unfold Rp at h ⊢
  obtain ⟨a,xs,h1,h2,h3⟩:=h
  exact ⟨a,xs,h1,s.fz hm h2,Rps.stay s hm ps hA h3⟩
 | .dct ks ps,_,_,hA,h=>by
  unfold Rp at h ⊢
  obtain ⟨a,xs,B,h1,h2,h3,rfl,h5⟩:=h
  exact ⟨a,xs,B,h1,s _ _ (hA a List.mem_cons_self) h2,h3,rfl,Rps.stay s hm ps (fun b hb=>hA b (List.mem_cons_of_mem _ hb)) h5⟩
theorem Rps.stay{K:PySem.W.Frag}{own:Addr->Option Nat}{H1 H2:Hp}(s:Stay own H1 H2)(hm:∀ a l,own a=some l->MutH H1 a):∀ (ps:List PV) {vs:List V} {A:List Addr},(∀ a ∈ A,own a=none)->Rps K H1 ps vs A->Rps K H2 ps vs A
 | [],_,_,_,h=>by unfold Rps at h ⊢;exact h
 | p::ps,_,_,hA,h=>by
  unfold Rps at h ⊢
  obtain ⟨v,r,A1,A2,h1,rfl,h3,h4⟩:=h
  exact ⟨v,r,A1,A2,h1,rfl,Rp.stay s hm p (fun a ha=>hA a (List.mem_append_left _ ha)) h3,Rps.stay s hm ps (fun a ha=>hA a (List.mem_append_right _ ha)) h4⟩
end
noncomputable def Walks(K:PySem.W.Frag)(own:Addr->Option Nat)(H1:Hp)(R:Hp->Prop)(J:It)(ps:List PV):Prop:=∀ i H2,R H2->
 (∀ p,ps[i]?=some p->J.go i H2/\∀ x H3,J.yld i H2 x H3->Same H2 H3/\∃ A,Rp K H3 p x A/\∀ a ∈ A,own a=none/\∃ o,H1 a=some o)/\(ps.length≤i->J.stop i H2)
noncomputable def tVI(K:PySem.W.Frag)(κ:Nat->Option Nat)(G:Hp)(lp:Bool)(f:FA):TI:=fun σ H R=>∃ own env ps,VI K κ G own env σ H/\f env=some ps/\∀ J H1,Same H H1->Walks K own H1 (fun H2=>if lp=true then Stay own H1 H2 else Same H1 H2) J ps->R J H1
theorem tVI.in{K:PySem.W.Frag}{κ:Nat->Option Nat}{G:Hp}{lp:Bool}{f:FA}{σ:St}{H:Hp}{R:It->Hp->Prop}{own:Addr->Option Nat}{env:En}{p:List PV}(I:VI K κ G own env σ H)(hf:f env=some p)(k:∀ J H1,Same H H1->Walks K own H1 (fun H2=>if lp=true then Stay own H1 H2 else Same H1 H2) J p->R J H1):tVI K κ G lp f σ H R:=⟨own,env,p,I,hf,k⟩
theorem tVI.elim{K:PySem.W.Frag}{κ:Nat->Option Nat}{G:Hp}{lp:Bool}{f:FA}{σ:St}{H:Hp}{R:It->Hp->Prop}{C:Prop}(h:tVI K κ G lp f σ H R)(k:∀ own env (p:List PV),VI K κ G own env σ H->f env=some p->(∀ J H1,Same H H1->Walks K own H1 (fun H2=>if lp=true then Stay own H1 H2 else Same H1 H2) J p->R J H1)->C):C:=
 let ⟨own,env,p,I,hf,q⟩:=h
 k own env p I hf q
noncomputable def VIt(X:Cx)(κ:Nat->Option Nat)(G:Hp)(lp:Bool)(tg iter:Expr)(f:FA):Prop:=PI X tg iter (tVI X.K κ G lp f)
noncomputable def wW:PV->Option (List PV)
 | .lst ps=>some ps
 | .fls ps=>some ps
 | .tup ps=>some ps
 | _=>none
noncomputable def zY(f:FE):FA:=fun env=>(f env).bind wW
noncomputable def zny(f:FE):FA:=fun env=>(f env).bind fun p=>(wW p).bind fun ps=>if isDatas ps=true then some ps else none
theorem zkU{X:Cx}{tg iter:Expr}{t t':TI}(h:PI X tg iter t)(h':PI X tg iter t'):PI X tg iter (fun σ H R=>t σ H R∨t' σ H R):=fun pins s σ H R I hw=>hw.elim (h pins s σ H R I) (h' pins s σ H R I)
theorem zfv{K:PySem.W.Frag}{own:Addr->Option Nat}{H1:Hp}{R:Hp->Prop}{a:Addr}{ps:List PV}{xs:List V}{A:List Addr}(h1':Rps K H1 ps xs A)(hA:∀ a ∈ A,own a=none)(hl:∀ H2,R H2->SqL K H2 a xs/\Rps K H2 ps xs A):Walks K own H1 R (Itl K a) ps:=by
 intro i H2 hR
 obtain ⟨hq,hr⟩:=hl H2 hR
 refine ⟨fun p hp=>?_,fun hi=>⟨xs,hq,by rw [← hr.length];exact hi⟩⟩
 obtain ⟨v,C,h1,h2,h3⟩:=hr.get hp
 refine ⟨⟨xs,v,hq,h1⟩,fun x H3 ⟨e,hy⟩=>?_⟩
 subst e
 have:=hy xs hq
 rw [h1] at this;cases this
 exact ⟨Same.refl _,C,h2,fun a ha=>⟨hA a (h3.subset ha),(Rps.mut _ h1' a (h3.subset ha)).some⟩⟩
theorem zjv{K:PySem.W.Frag}{own:Addr->Option Nat}{H1:Hp}{R:Hp->Prop}{a:Addr}{ps:List PV}{xs:List V}{A:List Addr}(h1':Rps K H1 ps xs A)(hA:∀ a ∈ A,own a=none)(hl:∀ H2,R H2->SqT K H2 a xs/\Rps K H2 ps xs A):Walks K own H1 R (Itt K a) ps:=by
 intro i H2 hR
 obtain ⟨hq,hr⟩:=hl H2 hR
 refine ⟨fun p hp=>?_,fun hi=>⟨xs,hq,by rw [← hr.length];exact hi⟩⟩
 obtain ⟨v,C,h1,h2,h3⟩:=hr.get hp
 refine ⟨⟨xs,v,hq,h1⟩,fun x H3 ⟨e,hy⟩=>?_⟩
 subst e
 have:=hy xs hq
 rw [h1] at this;cases this
 exact ⟨Same.refl _,C,h2,fun a ha=>⟨hA a (h3.subset ha),(Rps.mut _ h1' a (h3.subset ha)).some⟩⟩
theorem zg{tg l:Expr}(lp:Bool)(hl:VE X κ G .sh l f):VIt X κ G lp tg l (zY f):=(zkU (zjT hl) (zlH hl)).imp fun σ H R hq_=>by
 refine hq_.elim fun own env ps I hf k=>?_
 unfold zY at hf
 replace hf:=Option.bind_eq_some_iff.mp hf;obtain ⟨p,hp,hf⟩:=hf
 cases p<;>first | cases hf | skip
 ·refine .inr (.in I hp fun v H1 A s r hc=>?_)
  obtain ⟨a,xs,h1,h2,h3⟩:=r.T
  have hm:∀ a l,own a=some l->MutH H1 a:=fun a l e=>((I.grow s).own a l e).2
  refine ⟨a,h1,⟨xs,h2⟩,k _ H1 s (zjv (xs:=xs) h3 hc fun H2 hR=>?_)⟩
  cases lp with
  | true=>exact ⟨Stay.tup hR hm h2,Rps.stay hR hm _ hc h3⟩
  | false=>exact ⟨Same.tup hR h2,Rps.same hR _ h3⟩
 ·refine .inl (.in I hp fun v H1 A s r hc=>?_)
  obtain ⟨a,xs,B,h1,h2,rfl,h3⟩:=r.L
  have hm:∀ a l,own a=some l->MutH H1 a:=fun a l e=>((I.grow s).own a l e).2
  refine ⟨a,h1,⟨xs,SqL.of h2⟩,k _ H1 s (zfv (xs:=xs) h3 (fun b hb=>hc b (List.mem_cons_of_mem _ hb)) fun H2 hR=>?_)⟩
  cases lp with
  | true=>exact ⟨SqL.of (hR _ _ (hc a List.mem_cons_self) h2),Rps.stay hR hm _ (fun b hb=>hc b (List.mem_cons_of_mem _ hb)) h3⟩
  | false=>exact ⟨SqL.of (hR _ _ h2),Rps.same hR _ h3⟩
 ·refine .inl (.in I hp fun v H1 A s r hc=>?_)
  obtain ⟨a,xs,h1,h2,h3⟩:=r.Fl
  have hm:∀ a l,own a=some l->MutH H1 a:=fun a l e=>((I.grow s).own a l e).2
  refine ⟨a,h1,⟨xs,h2.seq⟩,k _ H1 s (zfv (xs:=xs) h3 hc fun H2 hR=>?_)⟩
  cases lp with
  | true=>exact ⟨(Stay.fz hR hm h2).seq,Rps.stay hR hm _ hc h3⟩
  | false=>exact ⟨(h2.same hR).seq,Rps.same hR _ h3⟩
noncomputable def j9(lo:Int)(n:Nat):List PV:=(List.range n).map fun (i:Nat)=>PV.int (lo+i)
theorem zdI(lo:Int)(n:Nat):(j9 lo n).length=n:=by simp [j9]
theorem zjw{K:PySem.W.Frag}{own:Addr->Option Nat}{H1:Hp}{R:Hp->Prop}(lo:Int)(n:Nat):Walks K own H1 R (Itr lo n) (j9 lo n):=by
 intro i H2 _
 refine ⟨fun p hp=>?_,fun hi=>by rw [zdI] at hi;exact hi⟩
 unfold j9 at hp
 rw [List.getElem?_map] at hp
 by_cases hi:i<n
 ·rw [List.getElem?_range hi] at hp
  cases hp
  refine ⟨hi,fun x H3 ⟨e,hx⟩=>?_⟩
  subst e
  exact ⟨Same.refl _,[],by rw [hx];exact .mkI _,by simp⟩
 ·rw [List.getElem?_eq_none (by simpa using hi)] at hp
  cases hp
noncomputable def u8(f:FA):FA:=fun env=>(f env).bind fun ps=>match ps with | [.int j]=>if -(2 ^ 62)≤j/\j<2 ^ 62 then some (j9 0 j.toNat) else none | _=>none
theorem zcI{tg:Expr}{p:Pos}(lp:Bool)(hg:Gl X "range")(hm:X.mg "range"=none)(ha:VA X κ G c [a] fs)(hs:starEach [a] X.env=[(false,eval a X.env)]:=by rfl):VIt X κ G lp tg (.Call (.Name "range" p) [a] [] pos) (u8 fs):=(zgO hg hm ha.1 hs).imp fun σ H R hq_=>by
 refine hq_.elim fun own env ps I hf k=>?_
 unfold u8 at hf
 replace hf:=Option.bind_eq_some_iff.mp hf;obtain ⟨qs,hp,hf⟩:=hf
 refine (.in I hp fun vs H1 A s r _=>?_)
 split at hf
 ·split at hf
  ·rename_i j hj
   cases hf
   obtain ⟨v,r',A1,A2,h1,h2,h3,h4⟩:=r.inv
   exact ⟨j,by rw [h1,h4.inv0.1,h3.I.1],hj.1,hj.2,k _ H1 s (zjw 0 j.toNat)⟩
  ·cases hf
 ·cases hf
theorem xR{Bs:List Nat}{tg iter:Expr}{body:List Stmt}(hp:PassesOwn (model X.prog X.w) X.A X.env X.xe)(hc:X.calm=true)(hi:VIt X κ G true tg iter fs)(hg:VG X κ G Bs tg bnd)(hb:VSs X κ G body g)
  (hs:∀ x,foldedSetIterable iter X.env x=pure x:=by intro _;rfl):VS X κ G (.For tg iter body [] pos) (xu fs bnd g):=(zlF hp hc hi hg hb hs).imp fun D σ H hq_=>by
 refine hq_.elim fun own env o I hf k=>?_
 unfold xu at hf
 replace hf:=Option.bind_eq_some_iff.mp hf;obtain ⟨ps,hp,hf⟩:=hf
 refine (.in I hp fun J H1 s hw=>?_)
 have k1:=k.ext (Ext.grow s)
 refine ⟨fun i m σ2 H2=>∃ own2 e2,VI X.K κ G own2 e2 σ2 H2/\Ext own H1 own2 H2/\i≤ps.length/\m=ps.length - i/\zbo bnd g (ps.drop i) e2=some o,⟨ps.length,own,env,I.grow s,Ext.refl _ _,Nat.zero_le _,by simp,by simpa using hf⟩,?_⟩
 rintro i m σ2 H2 ⟨own2,e2,I2,x2,hi,rfl,h2⟩
 have W:=hw i H2 (by simpa using Stay.ext x2)
 by_cases hlt:i<ps.length
 ·have hpi:ps[i]?=some ps[i]:=List.getElem?_eq_getElem hlt
  obtain ⟨go,yl⟩:=W.1 _ hpi
  rw [List.drop_eq_getElem_cons hlt] at h2
  unfold zbo at h2
  replace h2:=Option.bind_eq_some_iff.mp h2;obtain ⟨e3,hb1,h2⟩:=h2
  replace h2:=Option.bind_eq_some_iff.mp h2;obtain ⟨o1,ho,h2⟩:=h2
  refine .inr ⟨go,fun σ' H'=>∃ own',∃ e',VI X.K κ G own' e' σ' H'/\Ext own H1 own' H'/\zbo bnd g (ps.drop (i+1)) e'=some o,?_,?_⟩
  ·rintro σ' H' ⟨own',e',I',x',h'⟩
   exact ⟨ps.length - (i+1),by omega,own',e',I',x',hlt,rfl,h'⟩
  ·intro x H3 hy
   obtain ⟨s3,A,r3,hA⟩:=yl x H3 hy
   have hA2:∀ a ∈ A,own2 a=none:=fun a ha=>let ⟨h1,o,h2⟩:=hA a ha;(x2 a o h1 h2).1
   refine ⟨own2,e2,ps[i],A,e3,I2.grow s3,r3,hA2,hb1,fun σ3 I3 _ _=>⟨own2,e3,o1,I3,ho,?_⟩⟩
   have x3:Ext own H1 own2 H3:=x2.trans (Ext.grow s3)
   cases o1 with
   | nx e4=>exact fun own4 σ4 H4 I4 x4=>⟨own4,e4,I4,x3.trans x4,h2⟩
   | ct e4=>exact fun own4 σ4 H4 I4 x4=>⟨own4,e4,I4,x3.trans x4,h2⟩
   | bk e4=>cases h2;exact k1.ext x3
   | rt p e4=>cases h2;exact k1.ext x3
 ·have e:i=ps.length:=by omega
  subst e
  rw [List.drop_length] at h2
  cases h2
  exact .inl ⟨W.2 (Nat.le_refl _),k1 own2 σ2 H2 I2 x2⟩
theorem wq(n:Nat){cc:Expr}{body:List Stmt}(hp:PassesOwn (model X.prog X.w) X.A X.env X.xe)(hc:VT X κ G cc t)(hb:VSs X κ G body g):VS X κ G (.While cc body [] pos) (fWh t g n):=(zhW hp hc hb).imp fun D σ H hq_=>by
 refine hq_.elim fun own env o I hf k=>?_
 refine ⟨fun m σ2 H2=>∃ own2 e2,VI X.K κ G own2 e2 σ2 H2/\Ext own H own2 H2/\fWh t g m e2=some o,⟨n,own,env,I,Ext.refl _ _,hf⟩,?_⟩
 rintro m σ2 H2 ⟨own2,e2,I2,x2,h2⟩
 cases m with
 | zero=>cases h2
 | succ m=>
  unfold fWh at h2
  replace h2:=Option.bind_eq_some_iff.mp h2;obtain ⟨b,ht,h2⟩:=h2
  refine ⟨own2,e2,b,I2,ht,fun H3 s3=>?_⟩
  have x3:Ext own H own2 H3:=x2.trans (Ext.grow s3)
  cases b with
  | false=>
   simp only [Bool.false_eq_true,if_false] at h2
   cases h2
   exact ite_ff (k own2 σ2 H3 (I2.grow s3) x3)
  | true=>
   simp only [if_true] at h2
   replace h2:=Option.bind_eq_some_iff.mp h2;obtain ⟨o1,ho,h2⟩:=h2
   refine ite_tt ⟨fun σ' H'=>∃ own',∃ e',VI X.K κ G own' e' σ' H'/\Ext own H own' H'/\fWh t g m e'=some o,fun σ' H' ⟨own',e',I',x',h'⟩=>⟨m,Nat.lt_succ_self m,own',e',I',x',h'⟩,own2,e2,o1,I2.grow s3,ho,?_⟩
   cases o1 with
   | nx e4=>exact fun own4 σ4 H4 I4 x4=>⟨own4,e4,I4,x3.trans x4,h2⟩
   | ct e4=>exact fun own4 σ4 H4 I4 x4=>⟨own4,e4,I4,x3.trans x4,h2⟩
   | bk e4=>cases h2;exact k.ext x3
   | rt p e4=>cases h2;exact k.ext x3
noncomputable def cE(n:Nat)(js:List Nat)(env:En):En:=List.replicate n none++js.map fun j=>(env[j]?).join
noncomputable def cK(n:Nat)(js:List Nat)(κ:Nat->Option Nat):Nat->Option Nat:=fun i=>if i<n then none else match js[i - n]? with | some j=>κ j | none=>none
noncomputable def yO(bnd:PV->En->Option En)(t:FT)(f:FE):List PV->En->Option (List PV)
 | [],_=>some []
 | p::ps,env=>(bnd p env).bind fun e=>(t e).bind fun b=>if b=true then (f e).bind fun q=>(yO bnd t f ps env).map fun r=>q::r else yO bnd t f ps env
noncomputable def fLC(src:FA)(n:Nat)(js:List Nat)(bnd:PV->En->Option En)(t:FT)(f:FE):FE:=fun env=>(src env).bind fun ps=>if ps.length≤100000 then (yO bnd t f ps (cE n js env)).map .lst else none
theorem VI.block {K : PySem.W.Frag} {own : Addr → Option Nat} {env : En} {σ : St} {H : Hp} {ow : List Str} {js : List Nat} (I : VI K κ G own env σ H) : VI K (cK ow.length js κ) G own (cE ow.length js env) (cS ow js σ) H := by
  refine ⟨by simp [cE, cS], fun i p e => ?_, I.own, I.same⟩
  unfold cE at e
  unfold cS cK
  by_cases hi : i < ow.length
  · rw [List.getElem?_append_left (by simpa using hi), List.getElem?_replicate, if_pos hi] at e
    cases e
  · have hi' : ow.length ≤ i := Nat.le_of_not_lt hi
    rw [List.getElem?_append_right (by simpa using hi'), List.getElem?_map, List.length_replicate] at e
    rw [List.getElem?_append_right (by simpa using hi'), List.getElem?_map, List.length_map, if_neg hi]
    cases q : js[i - ow.length]? with
    | none => rw [q] at e; cases e
    | some j =>
      rw [q] at e
      have e' : (env[j]?).join = some p := Option.some.inj e
      have e2 : env[j]? = some (some p) := by
        cases z : env[j]? with
        | none => rw [z] at e'; cases e'
        | some w => rw [z] at e'; have : w = some p := by simpa using e'
                    rw [this]
      obtain ⟨v, A, h1, h2, h3⟩ := I.slot j p e2
      exact ⟨v, A, by simp [h1], h2, h3⟩
theorem VI.again{K:PySem.W.Frag}{own:Addr->Option Nat}{env:En}{σ σ':St}{H:Hp}{n:Nat}{js:List Nat}{Bs:List Nat}(I:VI K (cK n js κ) G own (cE n js env) σ H)(hB:∀ i ∈ Bs,i<n)(hs:∀ i,i ∉ Bs->σ'[i]?=σ[i]?)(hl:σ'.length=σ.length):VI K (cK n js κ) G own (cE n js env) σ' H:=by
 refine ⟨I.len.trans hl.symm,fun i p e=>?_,I.own,I.same⟩
 have hi:¬ i<n:=fun hi=>by
  unfold cE at e
  rw [List.getElem?_append_left (by simpa using hi),List.getElem?_replicate,if_pos hi] at e
  cases e
 obtain ⟨v,A,h1,h2⟩:=I.slot i p e
 exact ⟨v,A,(hs i fun z=>hi (hB i z)).trans h1,h2⟩
noncomputable def VTs(X:Cx)(κ:Nat->Option Nat)(G:Hp)(ifs:List Expr)(t:FT):Prop:=PTs X ifs (tVT X.K κ G t)
noncomputable def ja:FT:=fun _=>some true
theorem wN:VTs X κ G [] ja:=fun pins s σ H Q I ⟨own,env,b,I',e,k⟩=>by
 cases e
 exact zjO pins s σ H Q I (k H (Same.refl _))
theorem yK(h:VT X κ G e t):VTs X κ G [e] t:=zfK h
noncomputable def kj(own:Addr->Option Nat)(D:Addr):Addr->Option Nat:=fun a=>if a=D then some 1000000 else own a
theorem zaX{own:Addr->Option Nat}{D a:Addr}(h:kj own D a=none):a≠D/\own a=none:=by
 unfold kj at h
 split at h
 ·cases h
 ·rename_i n;exact ⟨n,h⟩
theorem ki{own:Addr->Option Nat}{D a:Addr}(h:a≠D):kj own D a=own a:=if_neg h
theorem VI.mark{K:PySem.W.Frag}{own:Addr->Option Nat}{env:En}{σ:St}{H1 H2:Hp}{D:Addr}{ys:List V}(I:VI K κ G own env σ H1)(hD:H1 D=none)(s:Same H1 H2)(hy:H2 D=some (.lst ys)):VI K κ G (kj own D) env σ H2:=by
 have J:=I.grow s
 refine ⟨I.len,fun i p e=>?_,fun a l e=>?_,J.same⟩
 ·obtain ⟨v,A,h1,h2,h3,h4⟩:=I.slot i p e
  have ne:∀ a ∈ A,a≠D:=fun a ha z=>by
   obtain ⟨o,ho⟩:=h2.alloc ha
   rw [z,hD] at ho;cases ho
  exact ⟨v,A,h1,Rp.same s p h2,fun hk a ha=>(ki (ne a ha)).trans (h3 hk a ha),fun l hk=>⟨(h4 l hk).1,fun a ha=>(ki (ne a ha)).trans ((h4 l hk).2 a ha)⟩⟩
 ·unfold kj at e
  split at e
  ·rename_i z
   rw [z]
   exact ⟨I.same.free hD,.inl ⟨ys,hy⟩⟩
  ·exact J.own a l e
section
variable {ow:List Str} {js Bs:List Nat} {tg elt iter:Expr} {ifs:List Expr} {scope:Scope}
theorem zdC{K:PySem.W.Frag}{cc:Cat}(hcc:cc=.mv []∨cc=.sh)(hB:∀ i ∈ Bs,i<ow.length)(σ:St)(H:Hp)(Q:VK)
  (hq:tV K κ G cc (fLC fs ow.length js bnd t f) σ H Q):
  zfD (tVI K κ G false fs) ow js (fun _ _ _ _=>tVG K (cK ow.length js κ) G Bs bnd) (fun _ _ _ _=>tVT K (cK ow.length js κ) G t) (fun _ _ _ _=>tV K (cK ow.length js κ) G cc f) σ H Q:=by
 refine Classical.byContradiction fun hno=>?_
 obtain ⟨own,env,z,I,e,k⟩:=hq
 unfold fLC at e
 replace e:=Option.bind_eq_some_iff.mp e;obtain ⟨ps,hp,e⟩:=e
 split at e
 case isFalse=>cases e
 rename_i hlen
 cases hr:yO bnd t f ps (cE ow.length js env) with
 | none=>rw [hr] at e;cases e
 | some rs=>
  rw [hr] at e;cases e
  refine hno (.in I hp fun J H1 s1 hw C s₀ H₀ fp D hD=>?_)
  clear hno
  have I1:VI K (cK ow.length js κ) G own (cE ow.length js env) (cS ow js σ) H1:=(I.grow s1).block
  have sD:Same H1 (upd H1 D (.lst [])):=z0 (Same.refl _) hD
  refine ⟨fun i m σ1 H2=>∃ ys qs B r2,VI K (cK ow.length js κ) G own (cE ow.length js env) σ1 H1/\Same H1 H2/\H2 D=some (.lst ys)/\Rps K H2 qs ys B/\cc.ok H1 own B/\D ∉ B/\i≤ps.length/\ys.length≤i/\m=ps.length - i/\yO bnd t f (ps.drop i) (cE ow.length js env)=some r2/\rs=qs++r2,
   ⟨ps.length,[],[],[],rs,I1,sD,zW,.nil,Cat.nil _ _ _,by simp,Nat.zero_le _,Nat.le_refl _,by simp,by simpa using hr,rfl⟩,?_⟩
  intro i m σ1 H2 hI
  refine Classical.byContradiction fun hno=>?_
  obtain ⟨ys,qs,B,r2,I2,s2,hy,ry,cB,nB,hi,hyl,rfl,h2,hrs⟩:=hI
  have Wk:=hw i H2 (by simpa using s2)
  by_cases hlt:i<ps.length
  ·have hpi:ps[i]?=some ps[i]:=List.getElem?_eq_getElem hlt
   obtain ⟨go,yl⟩:=Wk.1 _ hpi
   refine hno (.inr ⟨go,fun x H3 hyl'=>?_⟩)
   clear hno
   refine Classical.byContradiction fun hno=>?_
   obtain ⟨s3,A,r3,hA⟩:=yl x H3 hyl'
   rw [List.drop_eq_getElem_cons hlt] at h2
   unfold yO at h2
   replace h2:=Option.bind_eq_some_iff.mp h2;obtain ⟨e3,hb1,h2⟩:=h2
   replace h2:=Option.bind_eq_some_iff.mp h2;obtain ⟨bb,ht,h2⟩:=h2
   have neA:∀ a ∈ A,a≠D:=fun a ha z=>by
    obtain ⟨_,o,ho⟩:=hA a ha
    rw [z,hD] at ho;cases ho
   refine hno ⟨kj own D,_,ps[i],A,e3,I2.mark hD (s2.trans s3) (s3 _ _ hy),r3,fun a ha=>(ki (neA a ha)).trans (hA a ha).1,hb1,fun σ3 I3 q3 l3=>?_⟩
   have I3':=I2.again hB q3 l3
   refine ⟨kj own D,e3,bb,I3,ht,fun H5 s5=>?_⟩
   have s25:Same H2 H5:=s3.trans s5
   have hy5:=s25 _ _ hy
   cases bb with
   | false=>
    simp only [Bool.false_eq_true,if_false] at h2
    refine ite_ff ⟨ps.length - (i+1),by omega,ys,qs,B,r2,I3',s2.trans s25,hy5,Rps.same s25 qs ry,cB,nB,hlt,by omega,rfl,h2,hrs⟩
   | true=>
    simp only [if_true] at h2
    replace h2:=Option.bind_eq_some_iff.mp h2;obtain ⟨q,hf,h2⟩:=h2
    cases hr2:yO bnd t f (ps.drop (i+1)) (cE ow.length js env) with
    | none=>rw [hr2] at h2;cases h2
    | some r4=>
     rw [hr2] at h2;cases h2
     refine ite_tt ⟨kj own D,e3,q,I3.grow s5,hf,fun y H6 C6 s6 r6 c6=>?_⟩
     have s26:Same H2 H6:=s25.trans s6
     have hy6:=s26 _ _ hy
     have nC:D ∉ C6:=fun z=>by
      rcases hcc with rfl | rfl
      ·rcases c6.2 D z with w | ⟨_,w,_⟩
       ·rw [hy5] at w;cases w
       ·cases w
      ·exact (zaX (c6 D z)).1 rfl
     refine ⟨ys,hy6,by rw [sizeLine_eq];omega,ps.length - (i+1),by omega,ys++[y],qs++[q],B++C6,r4,I3',z0 (s2.trans s26) hD,zW,?_,?_,?_,hlt,by rw [List.length_append,List.length_singleton];omega,rfl,hr2,by rw [hrs,List.append_assoc];rfl⟩
     ·exact (Rps.upd (.inl ⟨ys,hy6⟩) qs nB (Rps.same s26 qs ry)).append (Rps.one (Rp.upd (.inl ⟨ys,hy6⟩) q nC r6))
     ·rcases hcc with rfl | rfl
      ·refine ⟨List.nodup_append.mpr ⟨cB.1,c6.1,fun x hx y' hy' hxy=>?_⟩,fun x hx=>?_⟩
       ·subst hxy
        rcases c6.2 x hy' with w | ⟨_,w,_⟩
        ·obtain ⟨o,ho⟩:=(Rps.mut qs (Rps.same s25 qs ry) x hx).some
         rw [ho] at w;cases w
        ·cases w
       ·rcases List.mem_append.mp hx with hx | hx
        ·exact cB.2 x hx
        ·exact (c6.2 x hx).elim (fun w=>.inl ((s2.trans s25).free w)) fun ⟨_,w,_⟩=>nomatch w
      ·intro x hx
       rcases List.mem_append.mp hx with hx | hx
       ·exact cB x hx
       ·exact (zaX (c6 x hx)).2
     ·exact fun z=>(List.mem_append.mp z).elim nB nC
  ·have ei:i=ps.length:=by omega
   subst ei
   rw [List.drop_length] at h2
   cases h2
   refine hno (.inl ⟨Wk.2 (Nat.le_refl _),?_⟩)
   rw [List.append_nil] at hrs
   subst hrs
   refine k (.ref D) H2 (D::B) (s1.trans s2) (.mkL hy ry) ?_
   have hDH:H D=none:=s1.free hD
   rcases hcc with rfl | rfl
   ·refine ⟨List.nodup_cons.mpr ⟨nB,cB.1⟩,fun a ha=>?_⟩
    rcases List.mem_cons.mp ha with rfl | ha
    ·exact .inl hDH
    ·exact (cB.2 a ha).elim (fun w=>.inl (s1.free w)) .inr
   ·intro a ha
    rcases List.mem_cons.mp ha with rfl | ha
    ·exact k5 (A:=[a]) I (fun b hb=>by rw [List.mem_singleton.mp hb];exact hDH) a (List.mem_singleton.mpr rfl)
    ·exact cB a ha
variable {wi:TI}
theorem xE(cc:Cat)(hcc:cc=.mv []∨cc=.sh)(hB:∀ i ∈ Bs,i<ow.length)(hc:X.calm=true)(hi:VIt X κ G false tg iter fs)(hg:∀ C s₀ H₀ fp,VG (yg X ow js scope C s₀ H₀ fp) (cK ow.length js κ) G Bs tg bnd)
  (ht:∀ C s₀ H₀ fp,VTs (yg X ow js scope C s₀ H₀ fp) (cK ow.length js κ) G ifs t)(he:∀ C s₀ H₀ fp,VE (yg X ow js scope C s₀ H₀ fp) (cK ow.length js κ) G cc elt f)
  (ok:zbA js scope X.env.kindOf X.N=true:=by first | rfl | decide +kernel)(hs:∀ x,foldedSetIterable iter X.env x=pure x:=by intro _;rfl):
  VE X κ G cc (.ListComp elt [⟨tg,iter,ifs,0⟩] scope pos) (fLC fs ow.length js bnd t f):=
 (znj (own:=ow) (js:=js) hc hi hg ht he ok hs).imp fun σ H Q h=>zdC hcc hB σ H Q h
theorem qk{i:Nat}{y:Str}{py spos:Pos}(cc:Cat)(hN:X.N.Nodup)(hi':X.N[i]?=some y)(hx:Loc X.env.scope y)(hcc:cc=.mv []∨cc=.sh)(hB:∀ i ∈ Bs,i<ow.length)(hc:X.calm=true)(hi:VIt X κ G false tg iter fs)(hg:∀ C s₀ H₀ fp,VG (yg X ow js scope C s₀ H₀ fp) (cK ow.length js κ) G Bs tg bnd)
  (ht:∀ C s₀ H₀ fp,VTs (yg X ow js scope C s₀ H₀ fp) (cK ow.length js κ) G ifs t)(he:∀ C s₀ H₀ fp,VE (yg X ow js scope C s₀ H₀ fp) (cK ow.length js κ) G cc elt f)
  (ok:zbA js scope X.env.kindOf X.N=true:=by first | rfl | decide +kernel)(hs:∀ x,foldedSetIterable iter X.env x=pure x:=by intro _;rfl)
  (hsw:swapsWith (.ListComp elt [⟨tg,iter,ifs,0⟩] scope pos) (some (.Name y py)) spos.line X.env=pure true:=by rfl)(hf:X.fn y=true∨X.env.scope.names.lookup y=some .local:=by first | exact .inl rfl | exact .inr rfl | assumption):
  PS X (.Assign [.Name y py] (.ListComp elt [⟨tg,iter,ifs,0⟩] scope pos) spos) (jF (tV X.K κ G cc (fLC fs ow.length js bnd t f)) (uM i)):=
 (zfM (own:=ow) (js:=js) hN hi' hx hc hi hg ht he ok hs hsw hf).imp fun D σ H h=>zdC hcc hB σ H _ h
end
theorem qO{tg:TG}(h:PS X st (jF (tV X.K κ G (.mv []) f) tg)):PS X st (jF (tV X.K κ G .sh f) tg):=h.imp fun D σ H hq_=>by
 refine hq_.elim fun own env p I hf k=>?_
 exact (.in I hf fun v H' A s r hc=>k v H' A s r (k5 I fun a ha=>(hc.2 a ha).elim id fun ⟨_,hl,_⟩=>nomatch hl))
noncomputable def spV(K:PySem.W.Frag)(n:Nat)(Φ:List PV->Option PV):Sp:=fun vs H Q _=>∃ ps A z,Rps K H ps vs A/\ps.length=n/\Φ ps=some z/\∀ v H' C,Same H H'->Rp K H' z v C->C.Nodup->(∀ a ∈ C,H a=none)->Q v H'
theorem zV{x:Str}{k n:Nat}{ps:List Str}{Φ:List PV->Option PV}{p:Pos}(hF:Fn X.prog X.w X.K X.mg X.base x k ps (spV X.K n Φ))(hr:Room k X.A)(hg:Gl X x)(ha:VA X κ G c (e::es) fs)(hl:(e::es).length=n:=by rfl)
  (hdb:(x == ("__debug__":Str))=false:=by decide)(he:starEach (e::es) X.env=(false,eval e X.env)::starEach es X.env:=by rfl)(hpl:(backTo pos (starEach es X.env)).any (·.1)=false:=by rfl):
  VE X κ G (.mv []) (.Call (.Name x p) (e::es) [] pos) (zJ Φ fs):=(zig hF hr hg ha.1 hdb he hpl).imp fun σ H Q hq_=>by
 refine hq_.elim fun own env z I hf k=>?_
 unfold zJ at hf
 replace hf:=Option.bind_eq_some_iff.mp hf;obtain ⟨qs,hp,hf⟩:=hf
 refine (.in I hp fun vs H1 A s1 r1 _=>⟨qs,A,z,by rw [List.append_nil];exact r1,(ha.2 env qs hp).trans hl,hf,fun v H' C s2 r2 nd fr=>k v H' C (s1.trans s2) r2 ⟨nd,fun a ha=>.inl (s1.free (fr a ha))⟩⟩)
noncomputable def fnV(m:Nat)(g:FS):List PV->Option PV:=fun ps=>(g (ps.map some++List.replicate (m - ps.length) none)).bind fun o=>match o with | .rt p _=>some p | .nx _=>some .non | _=>none
theorem VI.start{K:PySem.W.Frag}{H:Hp}{N:List Str}{ps:List PV}{vs:List V}{A:List Addr}(hk:∀ i,i<ps.length->κ i=none)(r:Rps K H ps vs A):VI K κ H (fun _=>none) (ps.map some++List.replicate (N.length - ps.length) none) (L2.start N vs) H:=by
 have hl:=r.length
 refine ⟨by simp [L2.start,hl],fun i p e=>?_,(fun _ _ z=>nomatch z),Same.refl _⟩
 by_cases hi:i<ps.length
 ·rw [List.getElem?_append_left (by simpa using hi),List.getElem?_map] at e
  cases q:ps[i]? with
  | none=>rw [q] at e;cases e
  | some p'=>
   rw [q] at e
   have:p'=p:=by simpa using e
   subst this
   obtain ⟨v,C,h1,h2,h3⟩:=r.get q
   refine ⟨v,C,?_,h2,fun _ _ _=>rfl,fun l z=>?_⟩
   ·unfold L2.start
    rw [List.getElem?_append_left (by rw [List.length_map,← hl];exact hi),List.getElem?_map,h1];rfl
   ·rw [hk i hi] at z;cases z
 ·rw [List.getElem?_append_right (by simpa using hi),List.getElem?_replicate] at e
  split at e<;>cases e
theorem xS{P:Program}{w:World}{K:PySem.W.Frag}{mg:Str->Option Value}{base:Heap}{x qual:Str}{st:Stmt}{f:Addr}{fd:FuncData}{N ps:List Str}{k n m:Nat}(O:List Nat)(hn:ps.length=n)(hm:N.length=m)(hO:∀ i ∈ O,n≤i)(hF:Fun K x qual st f fd)(S:FnScope N ps (zN st))
  (body:∀ (cdv:Value) (A:Around) (outer:List PySem.Env) (s:Shared) (H:Hp) (E:XK),Room k (A.deeper (envOfC qual (zN st) s.heap.objs.size f cdv))->VSs (zep CX0 P w K mg base N qual (zN st) f cdv A outer s H E).nox (ko O) H (wQ st) g):
  FnOk P w K mg base CX0 (k+1) f fd ps (spV K n (fnV m g)):=by
 subst hn hm
 refine hF.ok S (fun vs H Q E ⟨qs,A,z,r,hl,_⟩=>by rw [← r.length,hl]) fun cdv A outer s H vs Q E hr ⟨qs,B,z,r,hl,hΦ,k⟩=>⟨_,body cdv A outer s H E hr,?_⟩
 unfold fnV at hΦ
 replace hΦ:=Option.bind_eq_some_iff.mp hΦ;obtain ⟨o,ho,hΦ⟩:=hΦ
 refine ⟨fun _=>none,_,o,VI.start (N:=N) (fun i hi=>qT fun z=>absurd (hO i z) (by omega)) r,ho,?_⟩
 cases o with
 | rt p e=>cases hΦ;exact fun v H' C own' σ' I' r' nd fr=>k v H' C I'.same r' nd fun a ha=>(fr a ha).1
 | nx e=>cases hΦ;exact fun own' σ' H' I' _=>k .non H' [] I'.same .mkN .nil (by simp)
 | bk e=>cases hΦ
 | ct e=>cases hΦ
end
end F
namespace L2
open PySem PySem.Spec PyProof.Rows
noncomputable def zeJ(K:PySem.W.Frag):R2:=fun x y H Q=>∃ a b ys,x=.ref a/\y=.ref b/\SqT K H a []/\SqT K H b ys/\Q (.ref b) H
theorem zjk{prog:Program}{w:World}{A:Around}{E:Value->Shared->Prop}{s:Shared}{t b:Addr}{us:List Value}{Q:Value->Shared->Prop}(ht:IsTup s.heap t #[])(hb:IsTup s.heap b us.toArray)(k:Q (.ref b) s):wpAny (model prog w) A (binaryOp .Add (.ref t) (.ref b)) Q E s:=by
 obtain ⟨⟨c1,o1,a1,z1⟩,g1,hc1,n1,hd1⟩:=id ht
 obtain ⟨⟨c2,o2,a2,z2⟩,g2,hc2,n2,hd2⟩:=id hb
 simp only at hc1 hd1 hc2 hd2
 subst hc1 hd1 hc2 hd2
 exact concat_meets ⟨_,g1,rfl⟩ ⟨_,g2,rfl⟩ noFill_tuple_add seq_tuple_add PySem.F.slot_tuple_add PySem.F.entry_tuple_add (PySem.F.args_tuple_add_2 _ _) (tuple_addW0 t b #[] us.toArray n1 n2 o1 o2 z1 z2 rfl) ⟨g1,g2,k⟩
theorem op_catT0{X:Cx}:OpR X (binaryOp .Add) (zeJ X.K):=by
 intro pins s σ H x y v u Q I rx ry h
 obtain ⟨a,b,ys,rfl,rfl,ha,hb,q⟩:=h
 cases rx
 cases ry
 obtain ⟨its,r1,p1,_⟩:=I.tuple ha
 obtain ⟨its2,r2,p2,_⟩:=I.tuple hb
 have:=r1.nil_iff.mpr rfl
 subst this
 exact zjk p1 p2 ⟨.ref b,H,I,rfl,q⟩
end L2
namespace F
open PySem PySem.Spec PyProof.Rows L2
noncomputable def yX:PV->PV->Option PV
 | .int i,.int j=>some (.int (i+j))
 | .str x,.str y=>if x.length+y.length≤100000 then some (.str (x++y)) else none
 | .tup xs,.tup ys=>if (isDatas xs && isDatas ys && decide (xs.length+ys.length≤100000))=true then some (.tup (xs++ys)) else none
 | .lst xs,.lst ys=>if (isDatas xs && isDatas ys && decide (xs.length+ys.length≤100000))=true then some (.lst (xs++ys)) else none
 | _,_=>none
noncomputable def xi:PV->PV->Option PV
 | .int i,.int j=>some (.int (i - j))
 | _,_=>none
instance (a b:Int):Decidable (IntMulOk a b):=by unfold IntMulOk;infer_instance
noncomputable def wa:PV->PV->Option PV
 | .int i,.int j=>if IntMulOk i j then some (.int (i * j)) else none
 | .lst xs,.int k=>if (isDatas xs=true/\-(2 ^ 63)≤k/\k<2 ^ 63/\xs.length * k.toNat≤100000) then some (.lst (List.replicate k.toNat xs).flatten) else none
 | _,_=>none
noncomputable def uH:PV->PV->Option PV
 | .int i,.int j=>if 0<j/\j<1073741824 then some (.int (i / j)) else none
 | _,_=>none
noncomputable def wB:PV->PV->Option PV
 | .int i,.int j=>if 0<j then some (.int (i % j)) else none
 | _,_=>none
noncomputable def vLt:PV->PV->Option PV
 | .int i,.int j=>some (.bl (decide (i<j)))
 | _,_=>none
noncomputable def vLe:PV->PV->Option PV
 | .int i,.int j=>some (.bl (decide (i≤j)))
 | _,_=>none
noncomputable def vGt:PV->PV->Option PV
 | .int i,.int j=>some (.bl (decide (j<i)))
 | _,_=>none
noncomputable def vGe:PV->PV->Option PV
 | .int i,.int j=>some (.bl (decide (j≤i)))
 | _,_=>none
noncomputable def zlj:PV->Option PV
 | .int i=>some (.int (-i))
 | _=>none
mutual
noncomputable def y6:PV->PyData
 | .non=>.none
 | .bl b=>.bool b
 | .int i=>.int i
 | .str x=>.str x
 | .ty _=>.none
 | .any=>.none
 | .pen _ _=>.none
 | .tup xs=>.tuple (toPys xs)
 | .lst xs=>.list (toPys xs)
 | .fls xs=>.list (toPys xs)
 | .dct _ _=>.none
noncomputable def toPys:List PV->List PyData
 | []=>[]
 | x::r=>y6 x::toPys r
end
mutual
noncomputable def ug:PV->Bool
 | .ty _=>false
 | .any=>false
 | .pen _ _=>false
 | .dct _ _=>false
 | .tup xs=>okPys xs
 | .lst xs=>okPys xs
 | .fls xs=>okPys xs
 | _=>true
noncomputable def okPys:List PV->Bool
 | []=>true
 | x::r=>ug x && okPys r
end
noncomputable def k7(p:PV):Bool:=ug p && (y6 p).canLay0 && decide ((y6 p).depth≤64)
noncomputable def eqP(p q:PV):Bool:=PyData.eqv (y6 p) (y6 q)
noncomputable def vEq(p q:PV):Option PV:=if (k7 p && k7 q)=true then some (.bl (eqP p q)) else none
noncomputable def vNe(p q:PV):Option PV:=if (k7 p && k7 q)=true then some (.bl (!eqP p q)) else none
section
variable {K:PySem.W.Frag} {H:Hp}
mutual
theorem Rp.rep:∀ (p:PV) {v:V} {A:List Addr},ug p=true->Rp K H p v A->Rep K H v (y6 p)
 | .non,_,_,_,h=>by rw [h.N.1];unfold y6;exact .non
 | .bl b,_,_,_,h=>by rw [h.B.1];unfold y6;exact .bl b
 | .int i,_,_,_,h=>by rw [h.I.1];unfold y6;exact .int i
 | .str x,_,_,_,h=>by rw [h.S.1];unfold y6;exact .str x
 | .ty _,_,_,d,_=>by simp [ug] at d
 | .any,_,_,d,_=>by simp [ug] at d
 | .pen _ _,_,_,d,_=>by simp [ug] at d
 | .dct _ _,_,_,d,_=>by simp [ug] at d
 | .tup ps,_,_,d,h=>by
  unfold ug at d
  obtain ⟨a,xs,rfl,h2,h3⟩:=h.T
  unfold y6
  exact .tuple h2 (Rps.rep ps d h3)
 | .lst ps,_,_,d,h=>by
  unfold ug at d
  obtain ⟨a,xs,B,rfl,h2,rfl,h3⟩:=h.L
  unfold y6
  exact .list (SqL.of h2) (Rps.rep ps d h3)
 | .fls ps,_,_,d,h=>by
  unfold ug at d
  obtain ⟨a,xs,rfl,h2,h3⟩:=h.Fl
  unfold y6
  exact .list h2.seq (Rps.rep ps d h3)
theorem Rps.rep:∀ (ps:List PV) {vs:List V} {A:List Addr},okPys ps=true->Rps K H ps vs A->Reps K H vs (toPys ps)
 | [],_,_,_,h=>by rw [h.inv0.1];unfold toPys;exact .nil
 | p::ps,_,_,d,h=>by
  unfold okPys at d
  rw [Bool.and_eq_true] at d
  obtain ⟨v,r,A1,A2,rfl,h2,h3,h4⟩:=h.inv
  unfold toPys
  exact .cons (Rp.rep p d.1 h3) (Rps.rep ps d.2 h4)
end
end
noncomputable def vE:PV->Bool
 | .non=>true
 | .bl _=>true
 | .int _=>true
 | .str _=>true
 | _=>false
noncomputable def eqS:PV->PV->Bool
 | .non,.non=>true
 | .bl a,.bl b=>a == b
 | .bl a,.int b=>(if a then 1 else 0) == b
 | .int a,.bl b=>a == (if b then 1 else 0)
 | .int a,.int b=>a == b
 | .str a,.str b=>a == b
 | _,_=>false
noncomputable def inP(p:PV)(xs:List PV):Bool:=xs.any fun y=>eqS y p
noncomputable def ul(ks:List Key)(k:Key):Bool:=ks.any fun x=>decide (x=k)
theorem ziO(ks:List Key)(k:Key):ul ks k=true ↔ k ∈ ks:=by
 unfold ul
 rw [List.any_eq_true]
 constructor
 ·rintro ⟨x,hx,e⟩
  rw [← of_decide_eq_true e];exact hx
 ·intro h;exact ⟨k,h,by simp⟩
noncomputable def vIn(p:PV):PV->Option Bool
 | .lst xs=>if (vE p && xs.all vE)=true then some (inP p xs) else none
 | .fls xs=>if (vE p && xs.all vE)=true then some (inP p xs) else none
 | .tup xs=>if (vE p && xs.all vE)=true then some (inP p xs) else none
 | .dct ks _=>match p with | .non=>some false | .int i=>some (ul ks (.inl i)) | .str x=>some (ul ks (.inr x)) | _=>none
 | _=>none
noncomputable def xz(p q:PV):Option PV:=(vIn p q).map .bl
noncomputable def z4(p q:PV):Option PV:=(vIn p q).map fun b=>.bl (!b)
section
variable {X:Cx} {K:PySem.W.Frag}
theorem OpV.int{r:R2}{g:PV->PV->Option PV}(h:∀ p q z,g p q=some z->∃ i j,p=.int i/\q=.int j/\∃ w,(∀ K H,Rp K H z w [])/\∀ H Q,Q w H->r (.int i) (.int j) H Q):OpV K r g:=by
 intro H p q x y A B z Q r1 r2 e k
 obtain ⟨i,j,rfl,rfl,w,hw,hr⟩:=h p q z e
 rw [r1.I.1,r2.I.1]
 exact hr H Q (k w H [] (Same.refl _) (hw _ _) .nil (by simp))
theorem yw:OpV K (rI0 fun i j=>.int (i - j)) xi:=OpV.int fun p q z e=>by
 unfold xi at e
 split at e
 case h_2=>cases e
 cases e
 exact ⟨_,_,rfl,rfl,_,fun _ _=>.mkI _,fun H Q h=>⟨_,_,rfl,rfl,h⟩⟩
theorem ue:OpV K (rI znN fun i j=>.int (i / j)) uH:=OpV.int fun p q z e=>by
 unfold uH at e
 split at e
 case h_2=>cases e
 split at e
 ·rename_i hc;cases e
  exact ⟨_,_,rfl,rfl,_,fun _ _=>.mkI _,fun H Q h=>⟨_,_,rfl,rfl,hc,h⟩⟩
 ·cases e
theorem xq:OpV K (rI (fun _ j=>0<j) fun i j=>.int (i % j)) wB:=OpV.int fun p q z e=>by
 unfold wB at e
 split at e
 case h_2=>cases e
 split at e
 ·rename_i hc;cases e
  exact ⟨_,_,rfl,rfl,_,fun _ _=>.mkI _,fun H Q h=>⟨_,_,rfl,rfl,hc,h⟩⟩
 ·cases e
theorem ke:OpV K (rI0 fun i j=>.bl (decide (i<j))) vLt:=OpV.int fun p q z e=>by
 unfold vLt at e
 split at e
 case h_2=>cases e
 cases e
 exact ⟨_,_,rfl,rfl,_,fun _ _=>.mkB _,fun H Q h=>⟨_,_,rfl,rfl,h⟩⟩
theorem zdN:OpV K (rI0 fun i j=>.bl (decide (i≤j))) vLe:=OpV.int fun p q z e=>by
 unfold vLe at e
 split at e
 case h_2=>cases e
 cases e
 exact ⟨_,_,rfl,rfl,_,fun _ _=>.mkB _,fun H Q h=>⟨_,_,rfl,rfl,h⟩⟩
theorem zcj:OpV K (rI0 fun i j=>.bl (decide (j<i))) vGt:=OpV.int fun p q z e=>by
 unfold vGt at e
 split at e
 case h_2=>cases e
 cases e
 exact ⟨_,_,rfl,rfl,_,fun _ _=>.mkB _,fun H Q h=>⟨_,_,rfl,rfl,h⟩⟩
theorem znn:OpV K (rI0 fun i j=>.bl (decide (j≤i))) vGe:=OpV.int fun p q z e=>by
 unfold vGe at e
 split at e
 case h_2=>cases e
 cases e
 exact ⟨_,_,rfl,rfl,_,fun _ _=>.mkB _,fun H Q h=>⟨_,_,rfl,rfl,h⟩⟩
theorem zlk:UnV K (rU fun i=>.int (-i)) zlj:=by
 intro H p x A z Q r e k
 cases p<;>first | cases e | skip
 exact ⟨_,r.I.1,k _ H [] (Same.refl _) (.mkI _) .nil (by simp)⟩
theorem vU{H:Hp}{ps:List PV}{xs:List V}{z:PV}{Q:VK}(hd:isDatas ps=true){A:List Addr}(r:Rps K H ps xs A)(k:∀ v H' C,Same H H'->Rp K H' (.lst ps) v C->C.Nodup->(∀ a ∈ C,H a=none)->Q v H'):∀ p,H p=none->Q (.ref p) (upd H p (.lst xs)):=fun p hp=>by
 have e:=Rps.data ps hd r
 subst e
 have s:Same H (upd H p (.lst xs)):=z0 (Same.refl _) hp
 exact k _ _ [p] s (.mkL zW (Rps.same s ps r)) (by simp) (by simpa using hp)
theorem zaf{H:Hp}{ps:List PV}{xs:List V}{z:PV}{Q:VK}(hd:isDatas ps=true){A:List Addr}(r:Rps K H ps xs A)(k:∀ v H' C,Same H H'->Rp K H' (.tup ps) v C->C.Nodup->(∀ a ∈ C,H a=none)->Q v H'):∀ p,H p=none->Q (.ref p) (upd H p (.tup xs)):=fun p hp=>by
 have e:=Rps.data ps hd r
 subst e
 have s:Same H (upd H p (.tup xs)):=z0 (Same.refl _) hp
 exact k _ _ [] s (.mkT (SqT.of zW) (Rps.same s ps r)) (by simp) (by simp)
theorem yS:OpR X (binaryOp .Add) (fun x y H Q=>(rI0 fun i j=>.int (i+j)) x y H Q∨(zlz x y H Q∨(zhS X.K x y H Q∨(zeJ X.K x y H Q∨∃ i j,x=.str i/\y=.str j/\i.length+j.length≤sizeLine/\Q (.str (i++j)) H)))):=op_add.or (op_cat.or (op_catT.or (op_catT0.or zeP)))
theorem yR:OpV K (fun x y H Q=>(rI0 fun i j=>.int (i+j)) x y H Q∨(zlz x y H Q∨(zhS K x y H Q∨(zeJ K x y H Q∨∃ i j,x=.str i/\y=.str j/\i.length+j.length≤sizeLine/\Q (.str (i++j)) H)))) yX:=by
 intro H p q x y A B z Q r1 r2 e k
 unfold yX at e
 split at e
 case h_5=>cases e
 ·cases e
  exact .inl ⟨_,_,r1.I.1,r2.I.1,k _ H [] (Same.refl _) (.mkI _) .nil (by simp)⟩
 ·split at e
  ·rename_i hc;cases e
   exact .inr (.inr (.inr (.inr ⟨_,_,r1.S.1,r2.S.1,by rw [sizeLine_eq];omega,k _ H [] (Same.refl _) (.mkS _) .nil (by simp)⟩)))
  ·cases e
 ·split at e
  ·rename_i hc;cases e
   simp only [Bool.and_eq_true,decide_eq_true_eq] at hc
   obtain ⟨⟨d1,d2⟩,hl⟩:=hc
   obtain ⟨a,xs,e1,h1,g1⟩:=r1.T
   obtain ⟨b,ys,e2,h2,g2⟩:=r2.T
   have l1:=g1.length
   have l2:=g2.length
   by_cases hx0:xs=[]
   ·subst hx0
    rename_i ps qs
    have:ps=[]:=by cases ps with | nil=>rfl | cons _ _=>simp at l1
    subst this
    rw [List.nil_append] at k
    have e:=Rps.data qs d2 g2
    subst e
    exact .inr (.inr (.inr (.inl ⟨a,b,ys,e1,e2,h1,h2,k _ H [] (Same.refl _) (.mkT h2 g2) .nil (by simp)⟩)))
   refine .inr (.inr (.inl ⟨a,b,xs,ys,e1,e2,h1,h2,hx0,by rw [sizeLine_eq];omega,fun z=>?_,fun _=>?_⟩))
   ·subst z
    rename_i ps qs
    have:qs=[]:=by cases qs with | nil=>rfl | cons _ _=>simp at l2
    subst this
    rw [List.append_nil] at k
    have e:=Rps.data ps d1 g1
    subst e
    exact k _ H [] (Same.refl _) (.mkT h1 g1) .nil (by simp)
   ·exact zaf (by rw [xb,d1,d2];rfl) (g1.append g2) k (z:=.non)
  ·cases e
 ·split at e
  ·rename_i hc;cases e
   simp only [Bool.and_eq_true,decide_eq_true_eq] at hc
   obtain ⟨⟨d1,d2⟩,hl⟩:=hc
   obtain ⟨a,xs,B1,e1,h1,_,g1⟩:=r1.L
   obtain ⟨b,ys,B2,e2,h2,_,g2⟩:=r2.L
   have l1:=g1.length
   have l2:=g2.length
   exact .inr (.inl ⟨a,b,xs,ys,e1,e2,h1,h2,by rw [sizeLine_eq];omega,vU (by rw [xb,d1,d2];rfl) (g1.append g2) k (z:=.non)⟩)
  ·cases e
theorem vp:OpR X (binaryOp .Mult) (fun x y H Q=>(rI IntMulOk fun i j=>.int (i * j)) x y H Q∨zlx x y H Q):=op_mulB.or zlT
theorem Rps.rep_{H:Hp}{ps:List PV}{xs:List V}(r:Rps K H ps xs []):∀ k:Nat,Rps K H (List.replicate k ps).flatten (List.replicate k xs).flatten []
 | 0=>.nil
 | k+1=>by
  rw [List.replicate_succ,List.replicate_succ,List.flatten_cons,List.flatten_cons]
  exact r.append (Rps.rep_ r k)
theorem qt{ps:List PV}(h:isDatas ps=true):∀ k:Nat,isDatas (List.replicate k ps).flatten=true
 | 0=>rfl
 | k+1=>by rw [List.replicate_succ,List.flatten_cons,xb,h,qt h k];rfl
theorem vo:OpV K (fun x y H Q=>(rI IntMulOk fun i j=>.int (i * j)) x y H Q∨zlx x y H Q) wa:=by
 intro H p q x y A B z Q r1 r2 e k
 unfold wa at e
 split at e
 case h_3=>cases e
 ·split at e
  ·rename_i hc;cases e
   exact .inl ⟨_,_,r1.I.1,r2.I.1,hc,k _ H [] (Same.refl _) (.mkI _) .nil (by simp)⟩
  ·cases e
 ·split at e
  ·rename_i hc;cases e
   obtain ⟨d,h1,h2,h3⟩:=hc
   obtain ⟨a,xs,B1,e1,g0,_,g1⟩:=r1.L
   have e:=Rps.data _ d g1
   subst e
   have l1:=g1.length
   exact .inr ⟨a,_,xs,e1,r2.I.1,g0,h1,h2,by rw [sizeLine_eq,← l1];omega,vU (qt d _) (Rps.rep_ g1 _) k (z:=.non)⟩
  ·cases e
theorem qm:OpV K (fun x y H Q=>∃ d e,Rep K H x d/\Rep K H y e/\d.canLay0=true/\e.canLay0=true/\d.depth≤64/\Q (.bl (PyData.eqv d e)) H) vEq:=by
 intro H p q x y A B z Q r1 r2 e k
 unfold vEq at e
 split at e
 ·rename_i hc;cases e
  unfold k7 at hc
  simp only [Bool.and_eq_true,decide_eq_true_eq] at hc
  obtain ⟨⟨⟨a1,a2⟩,a3⟩,⟨b1,b2⟩,b3⟩:=hc
  exact ⟨_,_,Rp.rep p a1 r1,Rp.rep q b1 r2,a2,b2,a3,k _ H [] (Same.refl _) (.mkB _) .nil (by simp)⟩
 ·cases e
theorem jw:OpV K (fun x y H Q=>∃ d e,Rep K H x d/\Rep K H y e/\d.canLay0=true/\e.canLay0=true/\d.depth≤64/\Q (.bl (!PyData.eqv d e)) H) vNe:=by
 intro H p q x y A B z Q r1 r2 e k
 unfold vNe at e
 split at e
 ·rename_i hc;cases e
  unfold k7 at hc
  simp only [Bool.and_eq_true,decide_eq_true_eq] at hc
  obtain ⟨⟨⟨a1,a2⟩,a3⟩,⟨b1,b2⟩,b3⟩:=hc
  exact ⟨_,_,Rp.rep p a1 r1,Rp.rep q b1 r2,a2,b2,a3,k _ H [] (Same.refl _) (.mkB _) .nil (by simp)⟩
 ·cases e
theorem zaj{H:Hp}{p:PV}{v:V}{A:List Addr}(h:vE p=true)(r:Rp K H p v A):u7 v=true:=by
 cases p<;>first | (simp [vE] at h;done) | skip
 ·rw [r.N.1];rfl
 ·rw [r.B.1];rfl
 ·rw [r.I.1];rfl
 ·rw [r.S.1];rfl
theorem znA{H:Hp}{p q:PV}{v w:V}{A B:List Addr}(h:vE p=true)(h':vE q=true)(r:Rp K H p v A)(r':Rp K H q w B):eqV v w=eqS p q:=by
 cases p<;>cases q<;>first | (simp [vE] at h;done) | (simp [vE] at h';done) | skip
 all_goals first
  | rw [r.N.1,r'.N.1];rfl
  | rw [r.N.1,r'.B.1];rfl
  | rw [r.N.1,r'.I.1];rfl
  | rw [r.N.1,r'.S.1];rfl
  | rw [r.B.1,r'.N.1];rfl
  | rw [r.B.1,r'.B.1];rfl
  | rw [r.B.1,r'.I.1];rfl
  | rw [r.B.1,r'.S.1];rfl
  | rw [r.I.1,r'.N.1];rfl
  | rw [r.I.1,r'.B.1];rfl
  | rw [r.I.1,r'.I.1];rfl
  | rw [r.I.1,r'.S.1];rfl
  | rw [r.S.1,r'.N.1];rfl
  | rw [r.S.1,r'.B.1];rfl
  | rw [r.S.1,r'.I.1];rfl
  | rw [r.S.1,r'.S.1];rfl
theorem zfW{H:Hp}{p:PV}{v:V}{A:List Addr}(h:vE p=true)(r:Rp K H p v A):∀ {ps:List PV} {xs:List V} {B:List Addr},ps.all vE=true->Rps K H ps xs B->xs.all u7=true/\inV v xs=inP p ps
 | [],_,_,_,g=>by rw [g.inv0.1];exact ⟨rfl,rfl⟩
 | q::ps,_,_,hq,g=>by
  obtain ⟨w,r',A1,A2,rfl,_,h3,h4⟩:=g.inv
  rw [List.all_cons,Bool.and_eq_true] at hq
  obtain ⟨i1,i2⟩:=zfW h r hq.2 h4
  refine ⟨by rw [List.all_cons,zaj hq.1 h3,i1];rfl,?_⟩
  unfold inV inP at i2 ⊢
  rw [List.any_cons,List.any_cons,znA hq.1 h h3 r,i2]
theorem zac:∀ {ks:List Key} {xs:List V} (h:ks.length=xs.length) (k:Key),(wU (ks.zip xs) k).isSome=ul ks k
 | [],[],_,_=>rfl
 | [],_::_,h,_=>by simp at h
 | _::_,[],h,_=>by simp at h
 | k'::ks,x::xs,h,k=>by
  have ih:=zac (ks:=ks) (xs:=xs) (by simpa using h) k
  rw [← kU] at ih ⊢
  unfold ul at ih ⊢
  rw [List.zip_cons_cons,List.any_cons,List.any_cons,ih]
noncomputable def zjJ(K:PySem.W.Frag)(neg:Bool):R2:=fun x y H Q=>∃ b,(zkO K H y x b∨∃ a kvs,x=.non/\y=.ref a/\H a=some (.dK kvs)/\b=false)/\Q (.bl (if neg then !b else b)) H
theorem vT(hu:X.A.units+1<cLine):OpR X (compareOp .In) (zjJ X.K false):=by
 intro pins s σ H x y v u Q I rx ry h
 obtain ⟨b,h | ⟨a,kvs,rfl,rfl,h,rfl⟩,q⟩:=h
 ·exact zgQ hu pins s σ H x y v u Q I rx ry ⟨b,h,q⟩
 ·exact zdR hu pins s σ H _ _ v u Q I rx ry ⟨a,rfl,.inr ⟨kvs,rfl,h,q⟩⟩
theorem yq(hu:X.A.units+1<cLine):OpR X (compareOp .NotIn) (zjJ X.K true):=by
 intro pins s σ H x y v u Q I rx ry h
 obtain ⟨b,h | ⟨a,kvs,rfl,rfl,h,rfl⟩,q⟩:=h
 ·exact zcS hu pins s σ H x y v u Q I rx ry ⟨b,h,q⟩
 ·cases ry
  cases rx
  obtain ⟨z,hd,vs,rel,dd⟩:=k9 I.hok h
  exact wpAny_notIn_of (knd:=zcQ X.prog X.w) (k:=none) rfl hd (zec dd.mapOf) ⟨.bl true,H,I.tok _,rfl,q⟩
theorem zkZ{H:Hp}{p q:PV}{x y:V}{A B:List Addr}{b:Bool}(r1:Rp K H p x A)(r2:Rp K H q y B)(e:vIn p q=some b):zkO K H y x b∨∃ a kvs,x=.non/\y=.ref a/\H a=some (.dK kvs)/\b=false:=by
 cases q<;>first | (cases e;done) | skip
 ·simp only [vIn] at e
  split at e
  ·rename_i hc;cases e
   rw [Bool.and_eq_true] at hc
   obtain ⟨a,xs,e1,g0,g1⟩:=r2.T
   obtain ⟨i1,i2⟩:=zfW hc.1 r1 hc.2 g1
   exact .inl (.inl ⟨a,xs,e1,.inr g0,zaj hc.1 r1,i1,i2.symm⟩)
  ·cases e
 ·simp only [vIn] at e
  split at e
  ·rename_i hc;cases e
   rw [Bool.and_eq_true] at hc
   obtain ⟨a,xs,B1,e1,g0,_,g1⟩:=r2.L
   obtain ⟨i1,i2⟩:=zfW hc.1 r1 hc.2 g1
   exact .inl (.inl ⟨a,xs,e1,.inl (SqL.of g0),zaj hc.1 r1,i1,i2.symm⟩)
  ·cases e
 ·simp only [vIn] at e
  split at e
  ·rename_i hc;cases e
   rw [Bool.and_eq_true] at hc
   obtain ⟨a,xs,e1,g0,g1⟩:=r2.Fl
   obtain ⟨i1,i2⟩:=zfW hc.1 r1 hc.2 g1
   exact .inl (.inl ⟨a,xs,e1,.inl g0.seq,zaj hc.1 r1,i1,i2.symm⟩)
  ·cases e
 ·obtain ⟨a,xs,B1,e1,g0,gl,_,g1⟩:=r2.D
  have hl:=g1.length
  cases p<;>first | (cases e;done) | skip
  ·cases e
   exact .inr ⟨a,_,r1.N.1,e1,g0,rfl⟩
  ·cases e
   refine .inl (.inr ⟨a,_,e1,by rw [r1.I.1];exact DGet.k (k:=Sum.inl _) g0,?_⟩)
   rw [zac (by omega)]
  ·cases e
   refine .inl (.inr ⟨a,_,e1,by rw [r1.S.1];exact DGet.k (k:=Sum.inr _) g0,?_⟩)
   rw [zac (by omega)]
theorem vS:OpV K (zjJ K false) xz:=by
 intro H p q x y A B z Q r1 r2 e k
 unfold xz at e
 cases hb:vIn p q with
 | none=>rw [hb] at e;cases e
 | some b=>rw [hb] at e;cases e;exact ⟨b,zkZ r1 r2 hb,k _ H [] (Same.refl _) (.mkB _) .nil (by simp)⟩
theorem yp:OpV K (zjJ K true) z4:=by
 intro H p q x y A B z Q r1 r2 e k
 unfold z4 at e
 cases hb:vIn p q with
 | none=>rw [hb] at e;cases e
 | some b=>rw [hb] at e;cases e;exact ⟨b,zkZ r1 r2 hb,k _ H [] (Same.refl _) (.mkB _) .nil (by simp)⟩
end
end F
namespace L2
theorem PE.or{X:Cx}{e:PySem.Expr}{t t':TE}(h:PE X e t)(h':PE X e t'):PE X e (fun σ H Q=>t σ H Q∨t' σ H Q):=fun pins s σ H Q I hw=>hw.elim (h pins s σ H Q I) (h' pins s σ H Q I)
theorem PS.or{X:Cx}{e:PySem.Stmt}{t t':TS}(h:PS X e t)(h':PS X e t'):PS X e (fun D σ H=>t D σ H∨t' D σ H):=fun pins s σ H D I hw=>hw.elim (h pins s σ H D I) (h' pins s σ H D I)
end L2
namespace F
open PySem PySem.Spec PyProof.Rows L2
noncomputable def u0(ks:List Key)(vs:List PV)(k:Key):Option PV:=((ks.zip vs).find? fun kv=>decide (kv.1=k)).map (·.2)
noncomputable def vIx:PV->PV->Option PV
 | .lst xs,.int i=>atI xs i
 | .fls xs,.int i=>atI xs i
 | .tup xs,.int i=>atI xs i
 | .str z,.int i=>if z.length≤100000 then (atI z.cps.toList i).map fun c=>.str ⟨#[c]⟩ else none
 | .dct ks vs,.int i=>u0 ks vs (.inl i)
 | .dct ks vs,.str x=>u0 ks vs (.inr x)
 | _,_=>none
theorem Cat.sub{c:Cat}{H:Hp}{own:Addr->Option Nat}{A C:List Addr}(h:c.ok H own A)(s:C.Sublist A):c.ok H own C:=by
 cases c with
 | mv L=>exact ⟨h.1.sublist s,fun a ha=>h.2 a (s.subset ha)⟩
 | sh=>exact fun a ha=>h a (s.subset ha)
 | bo=>trivial
section
variable {K:PySem.W.Frag} {H:Hp}
theorem Rps.atI{ps:List PV}{xs:List V}{A:List Addr}{i:Int}{p:PV}(r:Rps K H ps xs A)(h:L2.atI ps i=some p):∃ v C,L2.atI xs i=some v/\Rp K H p v C/\C.Sublist A:=by
 unfold L2.atI at h ⊢
 rw [← r.length]
 cases e:ixN ps.length i with
 | none=>rw [e] at h;cases h
 | some j=>
  rw [e] at h
  exact r.get h
theorem kQ:∀ {ks:List Key} {ps:List PV} {xs:List V} {A:List Addr} {k:Key} {p:PV},Rps K H ps xs A->u0 ks ps k=some p->∃ v C,wU (ks.zip xs) k=some v/\Rp K H p v C/\C.Sublist A
 | [],_,_,_,_,_,_,h=>by simp [u0] at h
 | k'::ks,[],_,_,_,_,_,h=>by simp [u0] at h
 | k'::ks,q::ps,_,_,k,p,r,h=>by
  obtain ⟨w,r',A1,A2,rfl,rfl,h3,h4⟩:=r.inv
  unfold u0 at h
  rw [List.zip_cons_cons,List.find?_cons] at h
  by_cases hk:k'=k
  ·subst hk
   simp at h
   subst h
   exact ⟨w,A1,by rw [List.zip_cons_cons];exact kT rfl,h3,List.sublist_append_left _ _⟩
  ·have:decide (k'=k)=false:=decide_eq_false hk
   rw [show decide ((k',q).1=k)=false from this] at h
   obtain ⟨v,C,g1,g2,g3⟩:=kQ (ks:=ks) h4 h
   refine ⟨v,C,?_,g2,g3.trans (List.sublist_append_right _ _)⟩
   rw [List.zip_cons_cons]
   unfold wU at g1 ⊢
   rw [List.find?_cons,show decide ((k',w).1=k)=false from this]
   exact g1
end
section
variable {X:Cx} {κ:Nat->Option Nat} {G:Hp} {c c1 c2:Cat} {a b e:Expr} {es:List Expr} {fa fb f:FE} {t u:FT} {fs:FA} {pos:Pos} {g h:FS} {st:Stmt} {xW:List Stmt}
theorem ziX{gg:PV->PV->Option PV}{env:En}{z:PV}(e:fOp gg fa fb env=some z):∃ p q,fa env=some p/\fb env=some q/\gg p q=some z:=by
 unfold fOp at e
 replace e:=Option.bind_eq_some_iff.mp e;obtain ⟨p,hp,e⟩:=e
 replace e:=Option.bind_eq_some_iff.mp e;obtain ⟨q,hq,e⟩:=e
 exact ⟨p,q,hp,hq,e⟩
theorem za(hu:X.A.units+1<cLine)(ha:VE X κ G c a fa)(hb:VE X κ G c2 b fb)(hs:zgr b):VE X κ G c (.Subscript a b pos) (fOp vIx fa fb):=
 ((zkW ziG ha hb hs).or (zkb hu ha hb hs)).imp fun σ H Q hq_=>by
 refine hq_.elim fun own env z I e k=>?_
 obtain ⟨p,q,hp,hq,e⟩:=ziX e
 have go:∀ x H1 A,Same H H1->Rp X.K H1 p x A->c.ok H own A->∀ (R:V->Hp->Prop),(∀ y H2 B,Same H1 H2->Rp X.K H2 q y B->R y H2)->tV X.K κ G c2 fb σ H1 R:=fun x H1 A s1 r1 _ R hR=>(.in (I.grow s1) hq fun y H2 B s2 r2 _=>hR y H2 B s2 r2)
 unfold vIx at e
 split at e
 ·refine .inl (.in I hp fun x H1 A s1 r1 c1=>go x H1 A s1 r1 c1 _ fun y H2 B s2 r2=>.inl ?_)
  obtain ⟨ad,xs,B1,e1,h1,rfl,g1⟩:=(Rp.same s2 _ r1).L
  obtain ⟨v,C,h3,h4,h5⟩:=g1.atI e
  exact ⟨ad,xs,_,v,e1,r2.I.1,SqL.of h1,h3,k v H2 C (s1.trans s2) h4 (Cat.sub c1 (h5.trans (List.sublist_cons_self _ _)))⟩
 ·refine .inl (.in I hp fun x H1 A s1 r1 c1=>go x H1 A s1 r1 c1 _ fun y H2 B s2 r2=>.inl ?_)
  obtain ⟨ad,xs,e1,h1,g1⟩:=(Rp.same s2 _ r1).Fl
  obtain ⟨v,C,h3,h4,h5⟩:=g1.atI e
  exact ⟨ad,xs,_,v,e1,r2.I.1,h1.seq,h3,k v H2 C (s1.trans s2) h4 (Cat.sub c1 h5)⟩
 ·refine .inl (.in I hp fun x H1 A s1 r1 c1=>go x H1 A s1 r1 c1 _ fun y H2 B s2 r2=>.inr (.inl ?_))
  obtain ⟨ad,xs,e1,h1,g1⟩:=(Rp.same s2 _ r1).T
  obtain ⟨v,C,h3,h4,h5⟩:=g1.atI e
  exact ⟨ad,xs,_,v,e1,r2.I.1,h1,h3,k v H2 C (s1.trans s2) h4 (Cat.sub c1 h5)⟩
 ·rename_i zz ii
  split at e
  case isFalse=>cases e
  rename_i hl
  cases hc:atI zz.cps.toList ii with
  | none=>rw [hc] at e;cases e
  | some ch=>
   rw [hc] at e
   have ez:z=.str ⟨#[ch]⟩:=(Option.some.inj e).symm
   refine .inl (.in I hp fun x H1 A s1 r1 c1=>go x H1 A s1 r1 c1 _ fun y H2 B s2 r2=>.inr (.inr ?_))
   exact ⟨_,_,ch,r1.S.1,r2.I.1,by rw [sizeLine_eq];omega,hc,k _ H2 [] (s1.trans s2) (by rw [ez];exact .mkS _) (Cat.nil _ _ _)⟩
 ·refine .inr (.in I hp fun x H1 A s1 r1 c1=>go x H1 A s1 r1 c1 _ fun y H2 B s2 r2=>?_)
  obtain ⟨ad,xs,B1,e1,h1,hl,rfl,g1⟩:=(Rp.same s2 _ r1).D
  obtain ⟨v,C,h3,h4,h5⟩:=kQ g1 e
  exact ⟨ad,v,e1,by rw [r2.I.1,← h3];exact DGet.k (k:=Sum.inl _) h1,k v H2 C (s1.trans s2) h4 (Cat.sub c1 (h5.trans (List.sublist_cons_self _ _)))⟩
 ·refine .inr (.in I hp fun x H1 A s1 r1 c1=>go x H1 A s1 r1 c1 _ fun y H2 B s2 r2=>?_)
  obtain ⟨ad,xs,B1,e1,h1,hl,rfl,g1⟩:=(Rp.same s2 _ r1).D
  obtain ⟨v,C,h3,h4,h5⟩:=kQ g1 e
  exact ⟨ad,v,e1,by rw [r2.S.1,← h3];exact DGet.k (k:=Sum.inr _) h1,k v H2 C (s1.trans s2) h4 (Cat.sub c1 (h5.trans (List.sublist_cons_self _ _)))⟩
 ·cases e
noncomputable def j2(K:PySem.W.Frag)(r:List V->Hp->VK->Prop)(gg:List PV->Option PV):Prop:=∀ (H:Hp) (ps:List PV) (vs:List V) (A:List Addr) (z:PV) (Q:VK),Rps K H ps vs A->gg ps=some z->
 (∀ v H' C,Same H H'->Rp K H' z v C->C.Nodup->(∀ a ∈ C,H a=none)->Q v H')->r vs H Q
theorem zhI{K:PySem.W.Frag}{r:List V->Hp->VK->Prop}{gg:List PV->Option PV}(hv:j2 K r gg)(σ:St)(H:Hp)(Q:VK)(h:tV K κ G (.mv []) (zJ gg fs) σ H Q):tCB r (tVA K κ G c fs) σ H Q:=by
 obtain ⟨own,env,z,I,hf,k⟩:=h
 unfold zJ at hf
 replace hf:=Option.bind_eq_some_iff.mp hf;obtain ⟨qs,hp,hf⟩:=hf
 exact (.in I hp fun vs H1 A s1 r1 _=>hv H1 qs vs A z Q r1 hf fun v H' C s2 r2 nd fr=>k v H' C (s1.trans s2) r2 ⟨nd,fun a ha=>.inl (s1.free (fr a ha))⟩)
theorem zf{x:Str}{p:Pos}{id:String}{r:List V->Hp->VK->Prop}{gg:List PV->Option PV}(hv:j2 X.K r gg)(hc:CallR X (.builtin id) r)(hg:Gl X x)(hm:X.mg x=none)(hb:bootBuiltins x=some (.builtin id))(ha:VA X κ G c (e::es) fs)(hn:x≠"__name__":=by decide)(hdb:(x == ("__debug__":Str))=false:=by decide)
  (he:starEach (e::es) X.env=(false,eval e X.env)::starEach es X.env:=by rfl)(hpl:(backTo pos (starEach es X.env)).any (·.1)=false:=by rfl):VE X κ G (.mv []) (.Call (.Name x p) (e::es) [] pos) (zJ gg fs):=(zii hc hg hm hb ha.1 hn hdb he hpl).imp (zhI hv)
theorem yN{x:Str}{p:Pos}{T:String}{r:List V->Hp->VK->Prop}{gg:List PV->Option PV}(hv:j2 X.K r gg)(hc:CallR X (.type T) r)(hg:Gl X x)(hm:X.mg x=none)(hb:bootBuiltins x=some (.type T))(ha:VA X κ G c (e::es) fs)(hn:x≠"__name__":=by decide)(hdb:(x == ("__debug__":Str))=false:=by decide)
  (he:starEach (e::es) X.env=(false,eval e X.env)::starEach es X.env:=by rfl)(hpl:(backTo pos (starEach es X.env)).any (·.1)=false:=by rfl):VE X κ G (.mv []) (.Call (.Name x p) (e::es) [] pos) (zJ gg fs):=(zcg hc hg hm hb ha.1 hn hdb he hpl).imp (zhI hv)
noncomputable def yo:List PV->Option PV
 | [.lst xs]=>some (.int xs.length)
 | [.fls xs]=>some (.int xs.length)
 | [.tup xs]=>some (.int xs.length)
 | [.dct ks _]=>some (.int ks.length)
 | [.str z]=>if z.length≤100000 then some (.int z.length) else none
 | _=>none
theorem xM:CallR X (.builtin "len") (fun xs H Q=>(∃ p ys,xs=[.ref p]/\(SqL X.K H p ys∨SqT X.K H p ys)/\Q (.int ys.length) H)∨((∃ a kvs,xs=[V.ref a]/\H a=some (.dK kvs)/\Q (.int kvs.length) H)∨∃ z,xs=[.str z]/\z.length≤sizeLine/\Q (.int z.length) H)):=call_len_seq.or (call_lenD.or zdo)
theorem yy{K:PySem.W.Frag}{H:Hp}{p:PV}{vs:List V}{A:List Addr}(r:Rps K H [p] vs A):∃ v,vs=[v]/\Rp K H p v A:=by
 obtain ⟨v,r',A1,A2,h1,h2,h3,h4⟩:=r.inv
 obtain ⟨h5,h6⟩:=h4.inv0
 exact ⟨v,by rw [h1,h5],by rw [h2,h6,List.append_nil];exact h3⟩
theorem zex{K:PySem.W.Frag}{H:Hp}{p q:PV}{vs:List V}{A:List Addr}(r:Rps K H [p,q] vs A):∃ v w A1 A2,vs=[v,w]/\A=A1++A2/\Rp K H p v A1/\Rp K H q w A2:=by
 obtain ⟨v,r',A1,A2,h1,h2,h3,h4⟩:=r.inv
 obtain ⟨w,h5,h6⟩:=yy h4
 exact ⟨v,w,A1,A2,by rw [h1,h5],h2,h3,h6⟩
theorem xL{K:PySem.W.Frag}:j2 K (fun xs H Q=>(∃ p ys,xs=[.ref p]/\(SqL K H p ys∨SqT K H p ys)/\Q (.int ys.length) H)∨((∃ a kvs,xs=[V.ref a]/\H a=some (.dK kvs)/\Q (.int kvs.length) H)∨∃ z,xs=[.str z]/\z.length≤sizeLine/\Q (.int z.length) H)) yo:=by
 intro H ps vs A z Q r e k
 have fin:∀ n:Int,z=.int n->Q (.int n) H:=fun n e=>k _ H [] (Same.refl _) (by rw [e];exact .mkI n) .nil (by simp)
 unfold yo at e
 split at e
 ·rename_i xs
  obtain ⟨v,rfl,rr⟩:=yy r
  obtain ⟨a,ys,B,e1,h1,_,g⟩:=rr.L
  exact .inl ⟨a,ys,by rw [e1],.inl (SqL.of h1),fin _ (by rw [← g.length];exact (Option.some.inj e).symm)⟩
 ·rename_i xs
  obtain ⟨v,rfl,rr⟩:=yy r
  obtain ⟨a,ys,e1,h1,g⟩:=rr.Fl
  exact .inl ⟨a,ys,by rw [e1],.inl h1.seq,fin _ (by rw [← g.length];exact (Option.some.inj e).symm)⟩
 ·rename_i xs
  obtain ⟨v,rfl,rr⟩:=yy r
  obtain ⟨a,ys,e1,h1,g⟩:=rr.T
  exact .inl ⟨a,ys,by rw [e1],.inr h1,fin _ (by rw [← g.length];exact (Option.some.inj e).symm)⟩
 ·rename_i ks xs
  obtain ⟨v,rfl,rr⟩:=yy r
  obtain ⟨a,ys,B,e1,h1,hl,_,g⟩:=rr.D
  refine .inr (.inl ⟨a,_,by rw [e1],h1,fin _ ?_⟩)
  rw [List.length_zip,← g.length,← hl,Nat.min_self]
  exact (Option.some.inj e).symm
 ·rename_i y
  obtain ⟨v,rfl,rr⟩:=yy r
  split at e
  ·rename_i hl
   exact .inr (.inr ⟨y,by rw [rr.S.1],by rw [sizeLine_eq];omega,fin _ (Option.some.inj e).symm⟩)
  ·cases e
 ·cases e
noncomputable def xH:List PV->Option PV
 | [.lst xs]=>if isDatas xs=true then some (.lst xs) else none
 | [.fls xs]=>if isDatas xs=true then some (.lst xs) else none
 | [.tup xs]=>if isDatas xs=true then some (.lst xs) else none
 | [.dct ks _]=>some (.lst (ks.map fun k=>match k with | .inl i=>.int i | .inr x=>.str x))
 | _=>none
noncomputable def jE:List PV->Option PV
 | [.lst xs]=>if isDatas xs=true then some (.tup xs) else none
 | [.fls xs]=>if isDatas xs=true then some (.tup xs) else none
 | [.tup xs]=>if isDatas xs=true then some (.tup xs) else none
 | _=>none
theorem zba{K:PySem.W.Frag}{H:Hp}:∀ (ks:List Key),Rps K H (ks.map fun k=>match k with | .inl i=>.int i | .inr x=>.str x) (ks.map kV) []
 | []=>.nil
 | .inl i::ks=>by
  have:=Rps.cons (K:=K) (H:=H) (.mkI i) (zba ks)
  exact this
 | .inr x::ks=>by
  have:=Rps.cons (K:=K) (H:=H) (.mkS x) (zba ks)
  exact this
theorem wS(hc:X.calm=true):CallR X (.type "list") (fun xs H Q=>(∃ p ys,xs=[.ref p]/\(SqL X.K H p ys∨SqT X.K H p ys)/\∀ l,H l=none->Q (.ref l) (upd H l (.lst ys)))∨∃ p kvs,xs=[.ref p]/\H p=some (.dK kvs)/\∀ l,H l=none->Q (.ref l) (upd H l (.lst (kvs.map fun kv=>kV kv.1)))):=call_list_of.or (zbE hc)
theorem wR{K:PySem.W.Frag}:j2 K (fun xs H Q=>(∃ p ys,xs=[.ref p]/\(SqL K H p ys∨SqT K H p ys)/\∀ l,H l=none->Q (.ref l) (upd H l (.lst ys)))∨∃ p kvs,xs=[.ref p]/\H p=some (.dK kvs)/\∀ l,H l=none->Q (.ref l) (upd H l (.lst (kvs.map fun kv=>kV kv.1)))) xH:=by
 intro H ps vs A z Q r e k
 unfold xH at e
 split at e
 ·rename_i xs
  obtain ⟨v,rfl,rr⟩:=yy r
  split at e
  ·rename_i hd;cases e
   obtain ⟨a,ys,B,e1,h1,_,g⟩:=rr.L
   exact .inl ⟨a,ys,by rw [e1],.inl (SqL.of h1),vU hd g k (z:=.non)⟩
  ·cases e
 ·rename_i xs
  obtain ⟨v,rfl,rr⟩:=yy r
  split at e
  ·rename_i hd;cases e
   obtain ⟨a,ys,e1,h1,g⟩:=rr.Fl
   exact .inl ⟨a,ys,by rw [e1],.inl h1.seq,vU hd g k (z:=.non)⟩
  ·cases e
 ·rename_i xs
  obtain ⟨v,rfl,rr⟩:=yy r
  split at e
  ·rename_i hd;cases e
   obtain ⟨a,ys,e1,h1,g⟩:=rr.T
   exact .inl ⟨a,ys,by rw [e1],.inr h1,vU hd g k (z:=.non)⟩
  ·cases e
 ·rename_i ks xs
  obtain ⟨v,rfl,rr⟩:=yy r
  obtain ⟨a,ys,B,e1,h1,hl,_,g⟩:=rr.D
  cases e
  refine .inr ⟨a,_,by rw [e1],h1,?_⟩
  have e2:(ks.zip ys).map (fun kv=>kV kv.1)=ks.map kV:=by
   have:(ks.zip ys).map (fun kv=>kV kv.1)=((ks.zip ys).map Prod.fst).map kV:=by rw [List.map_map];rfl
   rw [this,List.map_fst_zip (by rw [← g.length,hl];exact Nat.le_refl _)]
  rw [e2]
  exact vU (ye _ (fun k=>by cases k<;>rfl) ks) (zba ks) k (z:=.non)
 ·cases e
theorem zbw{K:PySem.W.Frag}:j2 K (fun xs H Q=>∃ p ys,xs=[.ref p]/\((SqL K H p ys/\∀ l,H l=none->Q (.ref l) (upd H l (.tup ys)))∨(SqT K H p ys/\Q (.ref p) H))) jE:=by
 intro H ps vs A z Q r e k
 unfold jE at e
 split at e
 ·rename_i xs
  obtain ⟨v,rfl,rr⟩:=yy r
  split at e
  ·rename_i hd;cases e
   obtain ⟨a,ys,B,e1,h1,_,g⟩:=rr.L
   exact ⟨a,ys,by rw [e1],.inl ⟨SqL.of h1,zaf hd g k (z:=.non)⟩⟩
  ·cases e
 ·rename_i xs
  obtain ⟨v,rfl,rr⟩:=yy r
  split at e
  ·rename_i hd;cases e
   obtain ⟨a,ys,e1,h1,g⟩:=rr.Fl
   exact ⟨a,ys,by rw [e1],.inl ⟨h1.seq,zaf hd g k (z:=.non)⟩⟩
  ·cases e
 ·rename_i xs
  obtain ⟨v,rfl,rr⟩:=yy r
  split at e
  ·rename_i hd;cases e
   obtain ⟨a,ys,e1,h1,g⟩:=rr.T
   have:=Rps.data xs hd g
   subst this
   exact ⟨a,ys,by rw [e1],.inr ⟨h1,k _ H [] (Same.refl _) (.mkT h1 g) .nil (by simp)⟩⟩
  ·cases e
 ·cases e
noncomputable def znY:List PV->Option PV
 | [.int i]=>some (.int i)
 | [.bl b]=>some (.int (if b then 1 else 0))
 | _=>none
noncomputable def zeq(xs:List PV)(lo hi:Option Int):List PV:=(xs.drop (HT.sIx xs.length 0 lo)).take (HT.sIx xs.length xs.length hi - HT.sIx xs.length 0 lo)
noncomputable def vSl:PV->Option Int->Option Int->Option PV
 | .lst xs,lo,hi=>if isDatas xs=true then some (.lst (zeq xs lo hi)) else none
 | .fls xs,lo,hi=>if isDatas xs=true then some (.lst (zeq xs lo hi)) else none
 | .tup xs,lo,hi=>if isDatas xs=true then some (.tup (zeq xs lo hi)) else none
 | _,_,_=>none
noncomputable abbrev FO:=En->Option (Option Int)
noncomputable def vZ:FO:=fun _=>some none
noncomputable def qv(f:FE):FO:=fun env=>(f env).bind fun p=>match p with | .int i=>some (some i) | _=>none
noncomputable def tVO(K:PySem.W.Frag)(κ:Nat->Option Nat)(G:Hp)(f:FO):TO:=fun σ H Q=>∃ own env o,VI K κ G own env σ H/\f env=some o/\∀ H',Same H H'->Q o H'
theorem tVO.in{K:PySem.W.Frag}{κ:Nat->Option Nat}{G:Hp}{f:FO}{σ:St}{H:Hp}{Q:Option Int->Hp->Prop}{own:Addr->Option Nat}{env:En}{p:Option Int}(I:VI K κ G own env σ H)(hf:f env=some p)(k:∀ H',Same H H'->Q p H'):tVO K κ G f σ H Q:=⟨own,env,p,I,hf,k⟩
theorem tVO.elim{K:PySem.W.Frag}{κ:Nat->Option Nat}{G:Hp}{f:FO}{σ:St}{H:Hp}{Q:Option Int->Hp->Prop}{C:Prop}(h:tVO K κ G f σ H Q)(k:∀ own env (p:Option Int),VI K κ G own env σ H->f env=some p->(∀ H',Same H H'->Q p H')->C):C:=
 let ⟨own,env,p,I,hf,q⟩:=h
 k own env p I hf q
noncomputable def VO(X:Cx)(κ:Nat->Option Nat)(G:Hp)(e:Option Expr)(f:FO):Prop:=PO X e (tVO X.K κ G f)
theorem zfx:VO X κ G none vZ:=fun pins s σ H Q I ⟨own,env,o,I',e,k⟩=>by
 cases e
 exact zjS pins s σ H Q I (k H (Same.refl _))
theorem zfw(h:VE X κ G c e f):VO X κ G (some e) (qv f):=fun pins s σ H Q I ⟨own,env,o,I',hf,k⟩=>by
 refine zjR h pins s σ H Q I ?_
 unfold qv at hf
 replace hf:=Option.bind_eq_some_iff.mp hf;obtain ⟨p,hp,hf⟩:=hf
 refine (.in I' hp fun v H' A s r _=>?_)
 cases p<;>first | (cases hf;done) | skip
 cases hf
 exact ⟨_,r.I.1,k H' s⟩
theorem Rps.take_{K:PySem.W.Frag}{H:Hp}:∀ {ps:List PV} {xs:List V} (n:Nat),Rps K H ps xs []->Rps K H (ps.take n) (xs.take n) []
 | _,_,0,_=>by simpa using Rps.nil
 | [],_,n+1,r=>by rw [r.inv0.1];simpa using Rps.nil
 | p::ps,_,n+1,r=>by
  obtain ⟨v,r',A1,A2,rfl,h2,h3,h4⟩:=r.inv
  obtain ⟨rfl,rfl⟩:=List.append_eq_nil_iff.mp h2.symm
  exact Rps.cons h3 (Rps.take_ n h4)
theorem Rps.drop_{K:PySem.W.Frag}{H:Hp}:∀ {ps:List PV} {xs:List V} (n:Nat),Rps K H ps xs []->Rps K H (ps.drop n) (xs.drop n) []
 | _,_,0,r=>r
 | [],_,n+1,r=>by rw [r.inv0.1];simpa using Rps.nil
 | p::ps,_,n+1,r=>by
  obtain ⟨v,r',A1,A2,rfl,h2,h3,h4⟩:=r.inv
  obtain ⟨rfl,rfl⟩:=List.append_eq_nil_iff.mp h2.symm
  exact Rps.drop_ n h4
theorem Rps.cut{K:PySem.W.Frag}{H:Hp}{ps:List PV}{xs:List V}{lo hi:Option Int}(r:Rps K H ps xs []):Rps K H (zeq ps lo hi) (zbx xs lo hi) []:=by
 unfold zeq zbx
 rw [r.length]
 exact Rps.take_ _ (Rps.drop_ _ r)
theorem jU{xs ys:List PV}(h:isDatas xs=true)(s:∀ y ∈ ys,y ∈ xs):isDatas ys=true:=by
 rw [wX] at h ⊢
 exact fun y hy=>h y (s y hy)
theorem zby{xs:List PV}{lo hi:Option Int}:∀ y ∈ zeq xs lo hi,y ∈ xs:=fun y hy=>List.mem_of_mem_drop (List.mem_of_mem_take hy)
noncomputable def fSl(f:FE)(l h:FO):FE:=fun env=>(f env).bind fun p=>(l env).bind fun lo=>(h env).bind fun hi=>vSl p lo hi
theorem zdx{lo hi:Option Expr}{fl fh:FO}{p2:Pos}(he:VE X κ G c e f)(hl:VO X κ G lo fl)(hh:VO X κ G hi fh):VE X κ G (.mv []) (.Subscript e (.Slice lo hi none p2) pos) (fSl f fl fh):=
 (zid (sl_list.or zjG) he hl hh).imp fun σ H Q hq_=>by
 refine hq_.elim fun own env z I e k=>?_
 unfold fSl at e
 replace e:=Option.bind_eq_some_iff.mp e;obtain ⟨p,hp,e⟩:=e
 replace e:=Option.bind_eq_some_iff.mp e;obtain ⟨l,h1,e⟩:=e
 replace e:=Option.bind_eq_some_iff.mp e;obtain ⟨u,h2,e⟩:=e
 refine (.in I hp fun x H1 A s1 r1 _=>(.in (I.grow s1) h1 fun H2 s2=>(.in (I.grow (s1.trans s2)) h2 fun H3 s3=>?_)))
 have sA:=s1.trans (s2.trans s3)
 have k':∀ v H' C,Same H3 H'->Rp X.K H' z v C->C.Nodup->(∀ a ∈ C,H3 a=none)->Q v H':=fun v H' C s r nd fr=>k v H' C (sA.trans s) r ⟨nd,fun a ha=>.inl (sA.free (fr a ha))⟩
 have r3:=Rp.same (s2.trans s3) p r1
 unfold vSl at e
 split at e
 ·split at e
  case isFalse=>cases e
  rename_i hd
  cases e
  obtain ⟨a,xs,B1,e1,g0,_,g1⟩:=r3.L
  have:=Rps.data _ hd g1
  subst this
  exact .inl ⟨a,xs,e1,SqL.of g0,vU (jU hd zby) g1.cut k' (z:=.non)⟩
 ·split at e
  case isFalse=>cases e
  rename_i hd
  cases e
  obtain ⟨a,xs,e1,g0,g1⟩:=r3.Fl
  have:=Rps.data _ hd g1
  subst this
  exact .inl ⟨a,xs,e1,g0.seq,vU (jU hd zby) g1.cut k' (z:=.non)⟩
 ·split at e
  case isFalse=>cases e
  rename_i hd
  cases e
  obtain ⟨a,xs,e1,g0,g1⟩:=r3.T
  have:=Rps.data _ hd g1
  subst this
  refine .inr ⟨a,xs,e1,g0,fun hw=>?_,zaf (jU hd zby) g1.cut k' (z:=.non)⟩
  have gc:=g1.cut (lo:=l) (hi:=u)
  rw [hw] at gc
  exact k' _ H3 [] (Same.refl _) (.mkT g0 gc) .nil (by simp)
 ·cases e
end
section
variable {X:Cx} {κ:Nat->Option Nat} {G:Hp} {c c1 c2:Cat} {a b e:Expr} {es:List Expr} {fa fb f:FE} {t u:FT} {fs:FA} {pos:Pos} {g h:FS} {st:Stmt} {xW:List Stmt} {O:List Nat}
theorem wE {i : Nat} {env : En} {p : PV} (hf : zA i env = some p) : env[i]? = some (some p) := by
  unfold zA at hf
  cases q : env[i]? with
  | none => rw [q] at hf; cases hf
  | some z => rw [q] at hf; have : z = some p := by simpa using hf
              rw [this]
theorem kZ{i:Nat}{σ:St}{v:V}(h:σ[i]?=some (some v)):σ.set i (some v)=σ:=by
 apply List.ext_getElem?
 intro j
 rw [List.getElem?_set]
 by_cases hij:i=j
 ·subst hij
  rw [if_pos rfl,if_pos (List.getElem?_eq_some_iff.mp h).1,h]
 ·rw [if_neg hij]
theorem VI.turn{K:PySem.W.Frag}{own:Addr->Option Nat}{env:En}{σ:St}{H0 H1:Hp}{i:Nat}{p:PV}{a:Addr}{o:HO}{B:List Addr}(hi:i ∈ O)(I:VI K (ko O) G own env σ H0)(s:Same H0 H1)(hσ:σ[i]?=some (some (.ref a)))(ho:own a=some i)
  (hm:MutH H0 a)(r:Rp K (upd H1 a o) p (.ref a) (a::B))(nd:(a::B).Nodup)(hB:∀ b ∈ B,own b=some i∨H0 b=none):
  VI K (ko O) G (acq own i (a::B)) (env.set i (some p)) σ (upd H1 a o)/\Ext own H0 (acq own i (a::B)) (upd H1 a o):=by
 have:=I.take (H2:=upd H1 a o) (v:=.ref a) hi (fun j q w C hj _ z hC=>Rp.upd (hm.same s) q (fun z'=>hC a z' ho) (Rp.same s q z)) (fun b u hb z=>by
  rw [zd (by rintro rfl;exact hb ho)];exact s b u z) r nd (fun b hb=>(List.mem_cons.mp hb).elim (fun z=>.inl (z ▸ ho)) (hB b))
 rw [kZ hσ] at this
 exact this
noncomputable def zt(i:Nat)(f:FE):FS:=fun env=>(zA i env).bind fun l=>(f env).bind fun q=>match l with | .lst ps=>if ps.length<100000 then some (.nx (env.set i (some (.lst (ps++[q]))))) else none | _=>none
theorem uC{K:PySem.W.Frag}{own:Addr->Option Nat}{env:En}{σ:St}{H:Hp}{i:Nat}{ps:List PV}(hi:i ∈ O)(I:VI K (ko O) G own env σ H)(hf:zA i env=some (.lst ps)):
  ∃ a xs B,σ[i]?=some (some (.ref a))/\H a=some (.lst xs)/\Rps K H ps xs B/\(a::B).Nodup/\own a=some i/\∀ b ∈ B,own b=some i:=by
 obtain ⟨v,A,h1,h2,_,h3⟩:=I.slot i _ (wE hf)
 obtain ⟨nd,ho⟩:=h3 i (kq hi)
 obtain ⟨a,xs,B,rfl,h4,rfl,h5⟩:=h2.L
 exact ⟨a,xs,B,h1,h4,h5,nd,ho a List.mem_cons_self,fun b hb=>ho b (List.mem_cons_of_mem _ hb)⟩
theorem yc(i:Nat)(hi:i ∈ O)(hp:PS X st (zax (tBM X.K "list" kd (vg i) (kY (tV X.K (ko O) G (.mv []) f) zcJ)))):VS X (ko O) G st (zt i f):=hp.imp fun D σ H hq_=>by
 refine hq_.elim fun own env o I hf k=>?_
 unfold zt at hf
 replace hf:=Option.bind_eq_some_iff.mp hf;obtain ⟨l,hl,hf⟩:=hf
 replace hf:=Option.bind_eq_some_iff.mp hf;obtain ⟨q,hq,hf⟩:=hf
 cases l<;>first | (cases hf;done) | skip
 rename_i ps
 dsimp only at hf
 split at hf
 case isFalse=>cases hf
 rename_i hlen
 cases hf
 obtain ⟨a,xs,B,hσ,ha,hr,nd,ho,hB⟩:=uC hi I hl
 refine ⟨.ref a,hσ,.inl ⟨rfl,xs,SqL.of ha⟩,.in I hq fun y H1 C s1 r1 c1=>⟨a,xs,y,rfl,rfl,s1 _ _ ha,by rw [← hr.length,sizeLine_eq];omega,?_⟩⟩
 have fr:∀ b ∈ C,H b=none:=fun b hb=>(c1.2 b hb).elim id fun ⟨_,z,_⟩=>nomatch z
 have nC:a ∉ C:=fun z=>by rw [fr a z] at ha;cases ha
 have nB:a ∉ B:=(List.nodup_cons.mp nd).1
 have m1:MutH H1 a:=.inl ⟨xs,s1 _ _ ha⟩
 have hnd:(a::(B++C)).Nodup:=by
  rw [← List.cons_append]
  refine List.nodup_append.mpr ⟨nd,c1.1,fun x hx y' hy' hxy=>?_⟩
  subst hxy
  have hn:=fr x hy'
  rcases List.mem_cons.mp hx with rfl | hx
  ·exact nC hy'
  ·obtain ⟨o,ho⟩:=(Rps.mut ps hr x hx).some
   rw [hn] at ho;cases ho
 have hBC:∀ b ∈ B++C,own b=some i∨H b=none:=by
  intro b hb
  rcases List.mem_append.mp hb with hb | hb
  ·exact .inl (hB b hb)
  ·exact .inr (fr b hb)
 obtain ⟨h1,h2⟩:=I.turn (p:=.lst (ps++[q])) (o:=.lst (xs++[y])) (B:=B++C) hi s1 hσ ho (.inl ⟨xs,ha⟩)
  (.mkL zW ((Rps.upd m1 ps nB (Rps.same s1 ps hr)).append (Rps.one (Rp.upd m1 q nC r1)))) hnd hBC
 exact k _ _ _ h1 h2
noncomputable def ziV(k i:Nat):FS:=fun env=>(zA i env).bind fun l=>match l with | .lst ps=>(ps.getLast?).bind fun q=>if isDatas ps=true then some (.nx ((env.set i (some (.lst ps.dropLast))).set k (some q))) else none | _=>none
theorem Rps.dropLast{K:PySem.W.Frag}{H:Hp}:∀ {ps:List PV} {xs:List V},Rps K H ps xs []->Rps K H ps.dropLast xs.dropLast []
 | [],_,r=>by rw [r.inv0.1];exact .nil
 | [p],_,r=>by
  obtain ⟨v,h1,_⟩:=yy r
  rw [h1];exact .nil
 | p::q::ps,_,r=>by
  obtain ⟨v,r',A1,A2,rfl,h2,h3,h4⟩:=r.inv
  obtain ⟨rfl,rfl⟩:=List.append_eq_nil_iff.mp h2.symm
  obtain ⟨w,r'',_,_,rfl,_,_,_⟩:=id h4.inv
  exact Rps.cons h3 (Rps.dropLast h4)
theorem zlf(k i:Nat)(hi:i ∈ O)(hk:k ∉ O)(hp:PS X st (jF (zmS X.K "list" znb (vg i)) (uM k))):VS X (ko O) G st (ziV k i):=hp.imp fun D σ H hq_=>by
 refine hq_.elim fun own env o I hf kk=>?_
 unfold ziV at hf
 replace hf:=Option.bind_eq_some_iff.mp hf;obtain ⟨l,hl,hf⟩:=hf
 cases l<;>first | (cases hf;done) | skip
 rename_i ps
 dsimp only at hf
 replace hf:=Option.bind_eq_some_iff.mp hf;obtain ⟨q,hq,hf⟩:=hf
 split at hf
 case isFalse=>cases hf
 rename_i hd
 cases hf
 obtain ⟨a,xs,B,hσ,ha,hr,nd,ho,hB⟩:=uC hi I hl
 have eB:=Rps.data ps hd hr
 subst eB
 have hq':ps[xs.length - 1]?=some q:=by rw [← hr.length,← hq,List.getLast?_eq_getElem?]
 obtain ⟨y,C,hy,r1,hC⟩:=hr.get hq'
 have eC:C=[]:=List.sublist_nil.mp hC
 subst eC
 have m1:MutH H a:=.inl ⟨xs,ha⟩
 refine ⟨.ref a,hσ,.inl ⟨rfl,xs,SqL.of ha⟩,a,xs,y,rfl,rfl,ha,hy,?_⟩
 obtain ⟨h1,h2⟩:=I.turn (p:=.lst ps.dropLast) (o:=.lst xs.dropLast) (B:=[]) hi (Same.refl _) hσ ho m1 (.mkL zW (Rps.upd m1 _ (by simp) hr.dropLast)) (by simp) (by simp)
 exact kk _ _ _ (h1.set_sh (qT hk) (Rp.upd m1 q (by simp) r1) (by simp)) h2
noncomputable def wY{α:Type}(ks:List Key)(vs:List α)(k:Key)(p:α):List Key × List α:=if ul ks k=true then (ks,List.zipWith (fun k' v=>if k'=k then p else v) ks vs) else (ks++[k],vs++[p])
theorem zbv{ks:List Key}{xs:List V}(hl:ks.length=xs.length)(k:Key)(v:V):wA (ks.zip xs) k v=(wY ks xs k v).1.zip (wY ks xs k v).2:=by
 have h:=zac hl k
 rw [← kU] at h
 unfold wA wY
 by_cases hk:ul ks k=true
 ·rw [if_pos hk,h,hk,if_pos rfl]
  clear h hk
  induction ks generalizing xs with
  | nil=>simp
  | cons k' ks ih=>
   cases xs with
   | nil=>simp at hl
   | cons x xs=>
    simp only [List.zip_cons_cons,List.map_cons,List.zipWith_cons_cons]
    rw [ih (by simpa using hl)]
    by_cases e:k'=k<;>simp [e]
 ·rw [if_neg hk,h,if_neg hk]
  show ks.zip xs++[(k,v)]=(ks++[k]).zip (xs++[v])
  rw [List.zip_append hl]
  rfl
theorem zjf{α:Type}{ks:List Key}{vs:List α}(hl:ks.length=vs.length)(k:Key)(p:α):(wY ks vs k p).1.length=(wY ks vs k p).2.length:=by
 unfold wY
 split
 ·simp [hl]
 ·simp [hl]
theorem zhk{α β:Type}{ks:List Key}{vs:List α}{ws:List β}(k:Key)(p:α)(q:β):(wY ks vs k p).1=(wY ks ws k q).1:=by
 unfold wY
 split<;>rfl
theorem zje{K:PySem.W.Frag}{H:Hp}{ks:List Key}{k:Key}{p:PV}{v:V}(rp:Rp K H p v []):∀ {ps:List PV} {xs:List V},Rps K H ps xs []->Rps K H (wY ks ps k p).2 (wY ks xs k v).2 []:=by
 intro ps xs r
 unfold wY
 split
 ·rename_i hk
  clear hk
  induction ks generalizing ps xs with
  | nil=>exact .nil
  | cons k' ks ih=>
   cases ps with
   | nil=>rw [r.inv0.1];exact .nil
   | cons q ps=>
    obtain ⟨w,r',A1,A2,rfl,h2,h3,h4⟩:=r.inv
    obtain ⟨rfl,rfl⟩:=List.append_eq_nil_iff.mp h2.symm
    simp only [List.zipWith_cons_cons]
    by_cases e:k'=k
    ·rw [if_pos e,if_pos e];exact Rps.cons rp (ih h4)
    ·rw [if_neg e,if_neg e];exact Rps.cons h3 (ih h4)
 ·exact r.append (Rps.one rp)
noncomputable def zas(l:PV)(k q:PV):Option PV:=match l,k with
 | .lst ps,.int i=>if (isDatas ps && zl q)=true then (ixN ps.length i).map fun j=>.lst (ps.set j q) else none
 | .dct ks vs,.int i=>if (isDatas vs && zl q && decide (ks.length<100000))=true then some (.dct (wY ks vs (.inl i) q).1 (wY ks vs (.inl i) q).2) else none
 | .dct ks vs,.str x=>if (isDatas vs && zl q && decide (ks.length<100000))=true then some (.dct (wY ks vs (.inr x) q).1 (wY ks vs (.inr x) q).2) else none
 | _,_=>none
noncomputable def vY(i:Nat)(fk f:FE):FS:=fun env=>(f env).bind fun q=>(zA i env).bind fun l=>(fk env).bind fun k=>(zas l k q).map fun l'=>.nx (env.set i (some l'))
theorem Rps.set_{K:PySem.W.Frag}{H:Hp}{q:PV}{y:V}(rq:Rp K H q y []):∀ {ps:List PV} {xs:List V} (j:Nat),Rps K H ps xs []->Rps K H (ps.set j q) (xs.set j y) []
 | [],_,_,r=>by rw [r.inv0.1];exact .nil
 | p::ps,_,0,r=>by
  obtain ⟨v,r',A1,A2,rfl,h2,h3,h4⟩:=r.inv
  obtain ⟨rfl,rfl⟩:=List.append_eq_nil_iff.mp h2.symm
  exact Rps.cons rq h4
 | p::ps,_,j+1,r=>by
  obtain ⟨v,r',A1,A2,rfl,h2,h3,h4⟩:=r.inv
  obtain ⟨rfl,rfl⟩:=List.append_eq_nil_iff.mp h2.symm
  exact Rps.cons h3 (Rps.set_ rq j h4)
theorem zbH{K:PySem.W.Frag}{own:Addr->Option Nat}{env:En}{σ:St}{H:Hp}{i:Nat}{ks:List Key}{ps:List PV}(hi:i ∈ O)(I:VI K (ko O) G own env σ H)(hf:zA i env=some (.dct ks ps)):
  ∃ a xs B,σ[i]?=some (some (.ref a))/\H a=some (.dK (ks.zip xs))/\ks.length=ps.length/\Rps K H ps xs B/\(a::B).Nodup/\own a=some i/\∀ b ∈ B,own b=some i:=by
 obtain ⟨v,A,h1,h2,_,h3⟩:=I.slot i _ (wE hf)
 obtain ⟨nd,ho⟩:=h3 i (kq hi)
 obtain ⟨a,xs,B,rfl,h4,hl,rfl,h5⟩:=h2.D
 exact ⟨a,xs,B,h1,h4,hl,h5,nd,ho a List.mem_cons_self,fun b hb=>ho b (List.mem_cons_of_mem _ hb)⟩
theorem ji(i:Nat)(hi:i ∈ O){fk:FE}(hp:PS X st (jF (tV X.K (ko O) G c f) (zmn (vg i) (tV X.K (ko O) G c2 fk) zhQ)))(hd:PS X st (zfG (vg i) (tV X.K (ko O) G c2 fk) (tV X.K (ko O) G c f))):VS X (ko O) G st (vY i fk f):=(hp.or hd).imp fun D σ H hq_=>by
 refine hq_.elim fun own env o I hf k=>?_
 unfold vY at hf
 replace hf:=Option.bind_eq_some_iff.mp hf;obtain ⟨q,hq,hf⟩:=hf
 replace hf:=Option.bind_eq_some_iff.mp hf;obtain ⟨l,hl,hf⟩:=hf
 replace hf:=Option.bind_eq_some_iff.mp hf;obtain ⟨kk,hk,hf⟩:=hf
 cases hv:zas l kk q with
 | none=>rw [hv] at hf;cases hf
 | some l'=>
  rw [hv] at hf;cases hf
  unfold zas at hv
  have dput:∀ (ks:List Key) (ps:List PV) (key:Key),l=.dct ks ps->(∀ (H2:Hp) (y:V) (B:List Addr),Rp X.K H2 kk y B->y=kV key)->(isDatas ps && zl q && decide (ks.length<100000))=true->l'=.dct (wY ks ps key q).1 (wY ks ps key q).2->zfG (vg i) (tV X.K (ko O) G c2 fk) (tV X.K (ko O) G c f) D σ H:=by
   rintro ks ps key rfl hy hc rfl
   simp only [Bool.and_eq_true,decide_eq_true_eq] at hc
   obtain ⟨⟨d1,d2⟩,hlen⟩:=hc
   obtain ⟨a,xs,B,hσ,ha,hkl,hr,nd,ho,hB⟩:=zbH hi I hl
   have eB:=Rps.data ps d1 hr
   subst eB
   refine (.in I hq fun v H1 A s1 r1 _=>⟨.ref a,hσ,.in (I.grow s1) hk fun y H2 B s2 r2 _=>?_⟩)
   have eA:=Rp.data q d2 r1
   subst eA
   have s12:=s1.trans s2
   have hxl:=hr.length
   refine ⟨a,_,rfl,by rw [hy H2 y B r2];exact DPut.k (s12 _ _ ha) (by rw [List.length_zip,sizeLine_eq];omega),?_⟩
   rw [zbv (by omega)]
   have m0:MutH H a:=.inr ⟨_,ha⟩
   have m2:=m0.same s12
   have rq:=Rp.same s2 q r1
   obtain ⟨h1,h2⟩:=I.turn (p:=.dct (wY ks ps key q).1 (wY ks ps key q).2) (o:=.dK ((wY ks xs key v).1.zip (wY ks xs key v).2)) (B:=[]) hi s12 hσ ho m0
    (.mkD (by rw [zhk (ws:=xs) key q v];exact zW) (zjf hkl key q) (Rps.upd m2 _ (by simp) (zje rq (Rps.same s12 ps hr)))) (by simp) (by simp)
   exact k _ _ _ h1 h2
  split at hv
  ·rename_i ps j
   split at hv
   case isFalse=>cases hv
   rename_i hc
   rw [Bool.and_eq_true] at hc
   obtain ⟨a,xs,B,hσ,ha,hr,nd,ho,hB⟩:=uC hi I hl
   have eB:=Rps.data ps hc.1 hr
   subst eB
   cases hj:ixN ps.length j with
   | none=>rw [hj] at hv;cases hv
   | some jn=>
    rw [hj] at hv;cases hv
    refine .inl (.in I hq fun v H1 A s1 r1 _=>⟨.ref a,hσ,.in (I.grow s1) hk fun y H2 B s2 r2 _=>?_⟩)
    have eA:=Rp.data q hc.2 r1
    subst eA
    have s12:=s1.trans s2
    refine ⟨a,xs,j,jn,rfl,r2.I.1,s12 _ _ ha,by rw [← hr.length];exact hj,?_⟩
    have m0:MutH H a:=.inl ⟨_,ha⟩
    have m2:=m0.same s12
    obtain ⟨h1,h2⟩:=I.turn (p:=.lst (ps.set jn q)) (o:=.lst (xs.set jn v)) (B:=[]) hi s12 hσ ho m0 (.mkL zW (Rps.upd m2 _ (by simp) (Rps.set_ (Rp.same s2 q r1) jn (Rps.same s12 ps hr)))) (by simp) (by simp)
    exact k _ _ _ h1 h2
  ·split at hv
   case isFalse=>cases hv
   rename_i hc
   cases hv
   exact .inr (dput _ _ (Sum.inl _) rfl (fun H2 y B r=>r.I.1) hc rfl)
  ·split at hv
   case isFalse=>cases hv
   rename_i hc
   cases hv
   exact .inr (dput _ _ (Sum.inr _) rfl (fun H2 y B r=>r.S.1) hc rfl)
  ·cases hv
noncomputable def jc:FE:=fun _=>some (.dct [] [])
theorem uG(h:PE X e zhH):VE X κ G (.mv []) e jc:=h.imp fun σ H Q hq_=>by
 refine hq_.elim fun own env z I hf k=>?_
 cases hf
 intro p hp
 exact k _ _ [p] (z0 (Same.refl _) hp) (.mkD (by simpa using zW) rfl .nil) ⟨by simp,fun a ha=>.inl (by rw [List.mem_singleton.mp ha];exact hp)⟩
noncomputable def zkQ:PV->Option Bool
 | .non=>some false
 | .bl b=>some b
 | .int i=>some (i != 0)
 | .str y=>if y.length≤100000 then some ((y.length:Int) != 0) else none
 | .lst xs=>some (!xs.isEmpty)
 | .fls xs=>some (!xs.isEmpty)
 | .tup xs=>some (!xs.isEmpty)
 | .dct ks _=>some (!ks.isEmpty)
 | .ty _=>none
 | .any=>none
 | .pen _ _=>none
noncomputable def yr(f:FE):FT:=fun env=>(f env).bind zkQ
theorem zbr{K:PySem.W.Frag}{H:Hp}{ps:List PV}{xs:List V}{A:List Addr}(r:Rps K H ps xs A):(!ps.isEmpty)=!xs.isEmpty:=by
 have:=r.length
 cases ps<;>cases xs<;>simp_all
theorem yW(ha:VE X κ G c a fa)(he:∀ whole,isTrue a X.env whole=(do let v ← whole;standAt a.pos;holding [v] (truthy v))):VT X κ G a (yr fa):=(zhU ha he).imp fun σ H Q hq_=>by
 refine hq_.elim fun own env z I hf k=>?_
 unfold yr at hf
 replace hf:=Option.bind_eq_some_iff.mp hf;obtain ⟨p,hp,hf⟩:=hf
 refine (.in I hp fun x H1 A s1 r1 _=>⟨z,?_,k H1 s1⟩)
 cases p
 case non=>cases hf;rw [r1.N.1];exact rfl
 case bl=>cases hf;rw [r1.B.1];exact rfl
 case int=>cases hf;rw [r1.I.1];exact rfl
 case str=>
  simp only [zkQ] at hf
  split at hf
  ·rename_i hl;cases hf;rw [r1.S.1];exact ⟨by rw [sizeLine_eq];omega,rfl⟩
  ·cases hf
 case ty=>cases hf
 case any=>cases hf
 case pen=>cases hf
 case tup=>cases hf;obtain ⟨a,xs,e1,h1,g⟩:=r1.T;rw [e1];exact .inr (.inl ⟨xs,h1,zbr g⟩)
 case lst=>cases hf;obtain ⟨a,xs,B,e1,h1,_,g⟩:=r1.L;rw [e1];exact .inl ⟨xs,SqL.of h1,zbr g⟩
 case fls=>cases hf;obtain ⟨a,xs,e1,h1,g⟩:=r1.Fl;rw [e1];exact .inl ⟨xs,h1.seq,zbr g⟩
 case dct ks ps=>
  cases hf;obtain ⟨a,xs,B,e1,h1,hl,_,g⟩:=r1.D;rw [e1];refine .inr (.inr ⟨_,h1,?_⟩)
  have:=g.length
  cases ks<;>cases ps<;>cases xs<;>simp_all
end
end F
namespace L2
open PySem PySem.Spec PyProof.Rows
section
variable {X:Cx}
theorem zkF(l:Addr)(items:Array Value)(n:Nat)(b:Addr)(items2:Array Value)(n2:Nat)(dd:Option Addr)(sl:Array (Option Value))(hs0:¬(!items.isEmpty && Builtin.List.listTooLong (items.size+items2.size))=true)(hs1:items.size≤sizeLine)(hs2:items.size+items2.size≤sizeLine+1):
  Meets (Builtin.«list.extend» ⟨[.ref l,.ref b],[]⟩) (fun _ R s=>s.heap.get? l=some { cls:=.type "list",dict:=none,data:=.seq items n,slots:=#[] }/\s.heap.get? b=some { cls:=.type "tuple",dict:=dd,data:=.seq items2 n2,slots:=sl }/\R (.ok (.ret Value.none)) { s with heap:=s.heap.update l (Obj.mapSeq fun x=>x++items2),toks:=s.toks }):=
 .of_wp fun prog w A R s h=>by
  obtain ⟨hp,g,d,tk,os⟩:=s;obtain ⟨hl,hb,h⟩:=h;have f1:=AutoSeq1.idx_int;have f2:=AutoSeq1.sub_tuple_tuple;have f3:=AutoSeq1.sub_list_list;have f4:=AutoSeq1.sub_tuple_list;have f5:=AutoSeq1.sub_list_tuple;
  have hz':(items++items2).size≤sizeLine+1:=Nat.le_trans (Nat.le_of_eq Array.size_append) hs2
  wp_walk using (wpAny_updateSeq hl rfl (hz:=hs1) (_hz':=hz')),AutoSeq1.wpAny_loadPart' hl,AutoSeq1.wpAny_loadPart' hb;exact ⟨_,rfl,h⟩
noncomputable def zaF(K:PySem.W.Frag):V->List V->Hp->VK->Prop:=fun x vs H Q=>∃ l b xs zs,x=.ref l/\vs=[.ref b]/\H l=some (.lst xs)/\SqT K H b zs/\xs.length+zs.length≤sizeLine/\Q .non (upd H l (.lst (xs++zs)))
theorem zeW:MtM X "list.extend" (zaF X.K):=by
 intro pins s σ H x vs v us Q I rx rv h
 obtain ⟨l,b,xs,zs,rfl,rfl,hH,hB,hz,q⟩:=h
 cases rx
 obtain ⟨u,rfl,ru⟩:=rv.one
 cases ru
 obtain ⟨z,its,n,r,hl,e⟩:=I.lstM hH
 obtain ⟨its2,r2,⟨⟨cls,dd,dat,sl⟩,e2,hc,n2,hd⟩,z2⟩:=I.tuple hB
 simp only at hc hd
 subst hc hd
 have hl2:=r2.length
 have hsz:its.toArray.size+its2.toArray.size≤sizeLine:=by rw [List.size_toArray,List.size_toArray];omega
 have hlong:¬ (!its.toArray.isEmpty && Builtin.List.listTooLong (its.toArray.size+its2.toArray.size))=true:=by
  rw [zaQ hsz,Bool.and_false]
  exact Bool.false_ne_true
 refine call_meets F.slot_list_extend ⟨_,e,rfl⟩ F.entry_list_extend (F.args_list_extend_2 _ _)
  (zkF l its.toArray n b its2.toArray n2 dd sl hlong (by rw [List.size_toArray];omega) (by omega)) ⟨e,e2,?_⟩
 refine ⟨.non,_,I.lset (its':=its++its2) hH e (by simp) (r.append r2) ?_,rfl,q⟩
 rw [List.length_append]
 omega
theorem MtM.or{id:String}{r r':V->List V->Hp->VK->Prop}(h:MtM X id r)(h':MtM X id r'):MtM X id (fun x xs H Q=>r x xs H Q∨r' x xs H Q):=fun pins s σ H x xs v us Q I rx rs q=>q.elim (h pins s σ H x xs v us Q I rx rs) (h' pins s σ H x xs v us Q I rx rs)
theorem zaU:MtM X "list.extend" (fun x xs H Q=>zcO x xs H Q∨zaF X.K x xs H Q):=mt_extend.or zeW
inductive TyR (K:PySem.W.Frag) (H:Hp):V->String->Prop where
 | non:TyR K H .non "NoneType"
 | bl (x:Bool):TyR K H (.bl x) "bool"
 | int (i:Int):TyR K H (.int i) "int"
 | str (x:Str):TyR K H (.str x) "str"
 | lst {a:Addr} {xs:List V} (e:SqL K H a xs):TyR K H (.ref a) "list"
 | tup {a:Addr} {xs:List V} (e:SqT K H a xs):TyR K H (.ref a) "tuple"
 | dct {a:Addr} {kvs:List (Key × V)} (e:H a=some (.dK kvs)):TyR K H (.ref a) "dict"
theorem cr_isinst1:CallR X (.builtin "isinstance") (fun xs H Q=>∃ x n t b,xs=[x,.ty n]/\TyR X.K H x t/\PySem.W.kitOne X.K (.type t) (.type n)=some b/\Q (.bl b) H):=by
 intro pins s σ H xs us Q I r h
 obtain ⟨x,n,t,b,rfl,ty,e,q⟩:=h
 obtain ⟨u,w',rfl,rx,r2⟩:=zkP r
 cases r2
 have fin:∀ tk,EP X pins σ Q (.bool b) { s with toks:=tk }:=fun tk=>⟨.bl b,H,I.tok tk,rfl,q⟩
 cases ty with
 | non=>cases (show u=Value.none from rx);exact PySem.W.kia_one PySem.W.kitx_none I.kIn True.intro e (fun z=>nomatch z) fin
 | bl y=>cases (show u=Value.bool y from rx);exact PySem.W.kia_one PySem.W.kitx_bool I.kIn True.intro e (fun z=>nomatch z) fin
 | int i=>obtain ⟨t,q⟩:=(show ∃ t,u=Value.int i t from rx);cases q;exact PySem.W.kia_one PySem.W.kitx_int I.kIn True.intro e (fun z=>nomatch z) fin
 | str y=>obtain ⟨t,q⟩:=(show ∃ t,u=Value.str y t from rx);cases q;exact PySem.W.kia_one PySem.W.kitx_str I.kIn True.intro e (fun z=>nomatch z) fin
 | @lst a xs ea=>
  cases (show u=Value.ref a from rx)
  obtain ⟨its,_,⟨o,n,e1,e2,_,_⟩,_⟩:=I.list ea
  exact PySem.W.kia_one PySem.W.kitx_list I.kIn ⟨o,e1,e2⟩ e (fun z=>nomatch z) fin
 | @tup a xs ea=>
  cases (show u=Value.ref a from rx)
  obtain ⟨its,_,⟨o,e1,e2,_⟩,_⟩:=I.tuple ea
  exact PySem.W.kia_one PySem.W.kitx_tuple I.kIn ⟨o,e1,e2⟩ e (fun z=>nomatch z) fin
 | @dct a kvs ea=>
  cases (show u=Value.ref a from rx)
  obtain ⟨_,_,vs,_,p⟩:=(show ObjOk X.prog X.w H s.heap a (.dK kvs) from I.hok a _ ea)
  obtain ⟨o,es,ep,h1,h2,_⟩:=p
  exact PySem.W.kia_one PySem.W.kitx_dict I.kIn ⟨o,h1,h2.1⟩ e (fun z=>nomatch z) fin
theorem zfh:CallR X (.builtin "isinstance") (fun xs H Q=>∃ x p,∃ ns:List String,∃ t b,xs=[x,.ref p]/\SqT X.K H p (ns.map V.ty)/\TyR X.K H x t/\PySem.W.kitAny X.K (.type t) (ns.map Value.type)=some b/\Q (.bl b) H):=by
 intro pins s σ H xs us Q I r h
 obtain ⟨x,p,ns,t,b,rfl,hp,ty,e,q⟩:=h
 obtain ⟨u,w',rfl,rx,r2⟩:=zkP r
 cases r2
 obtain ⟨its,rv,⟨⟨cls,dd,dat,sl⟩,h1,h2,n,h3⟩,_⟩:=I.tuple hp
 simp only at h2 h3
 subst h2 h3
 have hi:=zfA rv
 subst hi
 have fin:∀ tk,EP X pins σ Q (.bool b) { s with toks:=tk }:=fun tk=>⟨.bl b,H,I.tok tk,rfl,q⟩
 cases ty with
 | non=>cases (show u=Value.none from rx);exact PySem.W.kia_tup PySem.W.kitx_none I.kIn True.intro h1 e (fun z=>nomatch z) fin
 | bl y=>cases (show u=Value.bool y from rx);exact PySem.W.kia_tup PySem.W.kitx_bool I.kIn True.intro h1 e (fun z=>nomatch z) fin
 | int i=>obtain ⟨t,q⟩:=(show ∃ t,u=Value.int i t from rx);cases q;exact PySem.W.kia_tup PySem.W.kitx_int I.kIn True.intro h1 e (fun z=>nomatch z) fin
 | str y=>obtain ⟨t,q⟩:=(show ∃ t,u=Value.str y t from rx);cases q;exact PySem.W.kia_tup PySem.W.kitx_str I.kIn True.intro h1 e (fun z=>nomatch z) fin
 | @lst a xs ea=>
  cases (show u=Value.ref a from rx)
  obtain ⟨its,_,⟨o,n,e1,e2,_,_⟩,_⟩:=I.list ea
  exact PySem.W.kia_tup PySem.W.kitx_list I.kIn ⟨o,e1,e2⟩ h1 e (fun z=>nomatch z) fin
 | @tup a xs ea=>
  cases (show u=Value.ref a from rx)
  obtain ⟨its,_,⟨o,e1,e2,_⟩,_⟩:=I.tuple ea
  exact PySem.W.kia_tup PySem.W.kitx_tuple I.kIn ⟨o,e1,e2⟩ h1 e (fun z=>nomatch z) fin
 | @dct a kvs ea=>
  cases (show u=Value.ref a from rx)
  obtain ⟨_,_,vs,_,p⟩:=(show ObjOk X.prog X.w H s.heap a (.dK kvs) from I.hok a _ ea)
  obtain ⟨o,es,ep,h1',h2,_⟩:=p
  exact PySem.W.kia_tup PySem.W.kitx_dict I.kIn ⟨o,h1',h2.1⟩ h1 e (fun z=>nomatch z) fin
end
end L2
namespace F
open PySem PySem.Spec PyProof.Rows L2
noncomputable def zfF:PV->Option (List PV)
 | .lst ps=>some ps
 | .tup ps=>some ps
 | _=>none
noncomputable def uO(i:Nat)(f:FE):FS:=fun env=>(zA i env).bind fun l=>(f env).bind fun q=>match l with
 | .lst ps=>(zfF q).bind fun qs=>if (isDatas qs=true/\ps.length+qs.length≤100000) then some (.nx (env.set i (some (.lst (ps++qs))))) else none
 | _=>none
theorem zap{X:Cx}{G:Hp}{O:List Nat}{st:Stmt}{f:FE}(i:Nat)(hi:i ∈ O)(hp:PS X st (zax (tBM X.K "list" (fun x xs H Q=>zcO x xs H Q∨zaF X.K x xs H Q) (vg i) (kY (tV X.K (ko O) G (.mv []) f) zcJ)))):VS X (ko O) G st (uO i f):=hp.imp fun D σ H hq_=>by
 refine hq_.elim fun own env o I hf k=>?_
 unfold uO at hf
 replace hf:=Option.bind_eq_some_iff.mp hf;obtain ⟨l,hl,hf⟩:=hf
 replace hf:=Option.bind_eq_some_iff.mp hf;obtain ⟨q,hq,hf⟩:=hf
 split at hf
 case h_2=>cases hf
 rename_i ps
 replace hf:=Option.bind_eq_some_iff.mp hf;obtain ⟨qs,hs,hf⟩:=hf
 split at hf
 case isFalse=>cases hf
 rename_i hc
 have hf:=(Option.some.inj hf).symm
 subst hf
 obtain ⟨a,xs,B,hσ,ha,hr,nd,ho,hB⟩:=uC hi I hl
 refine ⟨.ref a,hσ,.inl ⟨rfl,xs,SqL.of ha⟩,.in I hq fun y H1 C s1 r1 c1=>?_⟩
 have nB:a ∉ B:=(List.nodup_cons.mp nd).1
 have m1:MutH H1 a:=.inl ⟨xs,s1 _ _ ha⟩
 have fin:∀ (zs:List V),Rps X.K H1 qs zs []->D.nx σ (upd H1 a (.lst (xs++zs))):=fun zs g1=>by
  obtain ⟨h1,h2⟩:=I.turn (p:=.lst (ps++qs)) (o:=.lst (xs++zs)) (B:=B++[]) hi s1 hσ ho (.inl ⟨xs,ha⟩)
   (.mkL zW ((Rps.upd m1 ps nB (Rps.same s1 ps hr)).append (Rps.upd m1 qs (by simp) g1))) (by simpa using nd) (by simpa using fun b hb=>Or.inl (hB b hb))
  exact k _ _ _ h1 h2
 unfold zfF at hs
 split at hs
 ·have hs:=Option.some.inj hs
  subst hs
  obtain ⟨b,zs,C1,rfl,hb,rfl,g1⟩:=r1.L
  have e1:=Rps.data _ hc.1 g1
  subst e1
  exact .inl ⟨a,b,xs,zs,rfl,rfl,s1 _ _ ha,hb,by rw [← hr.length,← g1.length,sizeLine_eq];omega,fin zs g1⟩
 ·have hs:=Option.some.inj hs
  subst hs
  obtain ⟨b,zs,rfl,hb,g1⟩:=r1.T
  have e1:=Rps.data _ hc.1 g1
  subst e1
  exact .inr ⟨a,b,xs,zs,rfl,rfl,s1 _ _ ha,hb,by rw [← hr.length,← g1.length,sizeLine_eq];omega,fin zs g1⟩
 ·cases hs
noncomputable def tyP:PV->Option String
 | .non=>some "NoneType"
 | .bl _=>some "bool"
 | .int _=>some "int"
 | .str _=>some "str"
 | .lst _=>some "list"
 | .fls _=>some "list"
 | .tup _=>some "tuple"
 | .dct _ _=>some "dict"
 | .ty _=>none
 | .any=>none
 | .pen _ _=>none
theorem TyR.of{K:PySem.W.Frag}{H:Hp}{p:PV}{v:V}{A:List Addr}{t:String}(h:tyP p=some t)(r:Rp K H p v A):TyR K H v t:=by
 cases p<;>cases h
 ·rw [r.N.1];exact .non
 ·rw [r.B.1];exact .bl _
 ·rw [r.I.1];exact .int _
 ·rw [r.S.1];exact .str _
 ·obtain ⟨a,xs,rfl,h,_⟩:=r.T;exact .tup h
 ·obtain ⟨a,xs,B,rfl,h,_⟩:=r.L;exact .lst (SqL.of h)
 ·obtain ⟨a,xs,rfl,h,_⟩:=r.Fl;exact .lst h.seq
 ·obtain ⟨a,xs,B,rfl,h,_⟩:=r.D;exact .dct h
noncomputable def zee:List String:=["NoneType","bool","int","str","list","tuple","dict"]
noncomputable def zbe(t n:String):Bool:=t == n || (t == "bool" && n == "int")
theorem ziD(K:PySem.W.Frag):∀ t ∈ zee,∀ n ∈ ["int","bool","str","list","tuple","dict"],PySem.W.kitOne K (.type t) (.type n)=some (zbe t n):=by
 intro t ht n hn
 simp only [zee,List.mem_cons,List.not_mem_nil,or_false] at ht hn
 rcases ht with rfl | rfl | rfl | rfl | rfl | rfl | rfl<;>rcases hn with rfl | rfl | rfl | rfl | rfl | rfl<;>rfl
noncomputable def jl:List PV->Option (List String)
 | []=>some []
 | .ty n::r=>(jl r).map fun ns=>n::ns
 | _::_=>none
noncomputable def zin(n:String):Bool:=["int","bool","str","list","tuple","dict"].contains n
noncomputable def xP:List PV->Option PV
 | [p,.ty n]=>if zin n=true then (tyP p).map fun t=>.bl (zbe t n) else none
 | [p,.tup ts]=>(jl ts).bind fun ns=>if ns.all zin=true then (tyP p).map fun t=>.bl (ns.any fun n=>zbe t n) else none
 | _=>none
theorem zca{p:PV}{t:String}(h:tyP p=some t):t ∈ zee:=by
 cases p<;>cases h<;>simp [zee]
theorem zdW{n:String}(h:zin n=true):n ∈ ["int","bool","str","list","tuple","dict"]:=by
 unfold zin at h
 exact List.contains_iff_mem.mp h
theorem zcr(K:PySem.W.Frag){t:String}(ht:t ∈ zee):∀ ns:List String,ns.all zin=true->PySem.W.kitAny K (.type t) (ns.map Value.type)=some (ns.any fun n=>zbe t n)
 | [],_=>rfl
 | n::ns,h=>by
  rw [List.all_cons,Bool.and_eq_true] at h
  rw [List.map_cons]
  unfold PySem.W.kitAny
  rw [ziD K t ht n (zdW h.1),List.any_cons]
  cases hs:zbe t n with
  | true=>rfl
  | false=>rw [Bool.false_or];exact zcr K ht ns h.2
theorem qh{K:PySem.W.Frag}{H:Hp}:∀ {ts:List PV} {ns:List String} {xs:List V} {A:List Addr},jl ts=some ns->Rps K H ts xs A->xs=ns.map V.ty
 | [],ns,xs,A,h,r=>by
  cases h
  rw [r.inv0.1];rfl
 | p::ts,ns,xs,A,h,r=>by
  obtain ⟨v,r',A1,A2,rfl,h2,h3,h4⟩:=r.inv
  cases p<;>first | (simp [jl] at h;done) | skip
  simp only [jl] at h
  cases hq:jl ts with
  | none=>rw [hq] at h;cases h
  | some ms=>
   rw [hq] at h
   have h:_::ms=ns:=Option.some.inj h
   subst h
   rw [List.map_cons,qh hq h4,h3.Ty.1]
section
variable {X:Cx}
theorem wH:CallR X (.builtin "isinstance") (fun xs H Q=>(∃ x n t b,xs=[x,.ty n]/\TyR X.K H x t/\PySem.W.kitOne X.K (.type t) (.type n)=some b/\Q (.bl b) H)∨
  ∃ x p,∃ ns:List String,∃ t b,xs=[x,.ref p]/\SqT X.K H p (ns.map V.ty)/\TyR X.K H x t/\PySem.W.kitAny X.K (.type t) (ns.map Value.type)=some b/\Q (.bl b) H):=cr_isinst1.or zfh
theorem wG{K:PySem.W.Frag}:j2 K (fun xs H Q=>(∃ x n t b,xs=[x,.ty n]/\TyR K H x t/\PySem.W.kitOne K (.type t) (.type n)=some b/\Q (.bl b) H)∨
  ∃ x p,∃ ns:List String,∃ t b,xs=[x,.ref p]/\SqT K H p (ns.map V.ty)/\TyR K H x t/\PySem.W.kitAny K (.type t) (ns.map Value.type)=some b/\Q (.bl b) H) xP:=by
 intro H ps vs A z Q r e k
 unfold xP at e
 split at e
 ·rename_i p n
  split at e
  case isFalse=>cases e
  rename_i ho
  obtain ⟨v,w,A1,A2,rfl,_,r1,r2⟩:=zex r
  cases ht:tyP p with
  | none=>rw [ht] at e;cases e
  | some t=>
   rw [ht] at e
   have e:PV.bl (zbe t n)=z:=Option.some.inj e
   subst e
   exact .inl ⟨v,n,t,_,by rw [r2.Ty.1],TyR.of ht r1,ziD K t (zca ht) n (zdW ho),k _ H [] (Same.refl _) (.mkB _) .nil (by simp)⟩
 ·rename_i p ts
  obtain ⟨v,w,A1,A2,rfl,_,r1,r2⟩:=zex r
  replace e:=Option.bind_eq_some_iff.mp e;obtain ⟨ns,hn,e⟩:=e
  split at e
  case isFalse=>cases e
  rename_i ho
  cases ht:tyP p with
  | none=>rw [ht] at e;cases e
  | some t=>
   rw [ht] at e
   have e:PV.bl (ns.any fun n=>zbe t n)=z:=Option.some.inj e
   subst e
   obtain ⟨a,xs,rfl,h1,g⟩:=r2.T
   have hx:=qh hn g
   subst hx
   exact .inr ⟨v,a,ns,t,_,rfl,h1,TyR.of ht r1,zcr K (zca ht) ns ho,k _ H [] (Same.refl _) (.mkB _) .nil (by simp)⟩
 ·cases e
end
end F
namespace L2
open PySem PySem.Spec PyProof.Rows
section
variable {X:Cx} {pins:List (Addr × Obj)} {σ:List (Option V)} {H:Hp} {s:Shared} {h':Heap}
theorem Inv.turnedL{t':Nat}{L:List Addr}(I:Inv X pins σ H s)(k:∀ b o,b ∉ L->s.heap.get? b=some o->h'.get? b=some o)(hf:∀ b ∈ L,ju X pins H b):Inv X pins σ H { s with heap:=h',toks:=t' }:=by
 have nit:∀ b u,H b=some u->b ∉ L:=fun b u e z=>by have:=(hf b z).1;rw [e] at this;cases this
 refine I.step (g':=s.gens) (d':=s.drawn) (ch:=L) (fun b hb=>⟨(hf b hb).2.2.2.1,(hf b hb).2.1,(hf b hb).2.2.2.2.1,(hf b hb).2.2.2.2.2⟩) (fun b o _ _ hc e _=>k b o hc e) (fun b o _ _ hc e _=>⟨o.slots,k b o hc e⟩) (fun _ _ _ _ n=>n)
  (fun b o hc e=>⟨o,k b o hc e⟩) (fun _ _ e=>e) (fun _ _ _ e=>e) (fun b ps e=>⟨#[],by rw [e];simp⟩) (fun m hm=>?_) (fun b u e=>?_) I.bare
 ·obtain ⟨o,es,ep,ho,r⟩:=hm
  exact ⟨o,es,ep,k _ o (fun z=>(hf _ z).2.1 rfl) ho,r⟩
 ·refine (I.hok b u e).stay (fun c v hc q=>k c v ?_ q) (fun _ q=>q) fun _ _ q=>q
  rcases hc with z | z
  ·rw [z];exact nit b u e
  ·exact nit c _ z
theorem Inv.turnedLaid{t':Nat}{L:List Addr}{a:Addr}{o':HO}(I:Inv X pins σ H s)(k:∀ b o,b ∉ L->s.heap.get? b=some o->h'.get? b=some o)(hf:∀ b ∈ L,ju X pins H b)(hp:s.heap.objs.size≤a)(new:ObjOk X.prog X.w (upd H a o') h' a o'):
  Inv X pins σ (upd H a o') { s with heap:=h',toks:=t' }:=by
 have nit:∀ b u,H b=some u->b ∉ L:=fun b u e z=>by have:=(hf b z).1;rw [e] at this;cases this
 have hn:H a=none:=I.hok.fresh hp
 refine I.step (g':=s.gens) (d':=s.drawn) (ch:=L) (fun b hb=>⟨(hf b hb).2.2.2.1,(hf b hb).2.1,(hf b hb).2.2.2.2.1,(hf b hb).2.2.2.2.2⟩) (fun b o _ _ hc e _=>k b o hc e) (fun b o _ _ hc e _=>⟨o.slots,k b o hc e⟩)
  (fun b o _ e n=>by rw [zd (Nat.ne_of_lt (Nat.lt_of_lt_of_le (Heap.lt_size e) hp))];exact n)
  (fun b o hc e=>⟨o,k b o hc e⟩) (fun b xs e=>by rw [zd (yY e hn)];exact e) (fun b _ _ e=>by rw [zd (yY e hn)];exact e) (fun b ps e=>⟨#[],by rw [zd (yY e hn),e];simp⟩) (fun m hm=>?_) (fun b u e=>?_) I.bare
 ·obtain ⟨o,es,ep,ho,r⟩:=hm
  exact ⟨o,es,ep,k _ o (fun z=>(hf _ z).2.1 rfl) ho,r⟩
 ·by_cases hb:b=a
  ·subst hb;rw [zW] at e;cases e;exact new
  ·rw [zd hb] at e
   refine (I.hok b u e).stay (fun c v hc q=>k c v ?_ q) (fun c q=>by rw [zd (yY q hn)];exact q) fun c xs q=>by rw [zd (yY q hn)];exact q
   rcases hc with z | z
   ·rw [z];exact nit b u e
   ·exact nit c _ z
end
noncomputable def ContAt(h:Heap)(b:Bool)(c:Addr)(its:Array Value):Prop:=if b=true then h.IsList c its else h.IsTuple c its
noncomputable def IterAt(h:Heap)(b:Bool)(it c:Addr)(i:Nat):Prop:=if b=true then h.IsListIter it c i else h.IsTupleIter it c i
noncomputable def zbd(b:Bool):String:=if b=true then "list_iterator" else "tuple_iterator"
section
variable {prog:Program} {w:World} {A:Around} {E:Value->Shared->Prop} {s:Shared} {h h₂:Heap} {b:Bool} {it c:Addr} {i:Nat} {its:Array Value}
theorem ContAt.keep(x:ContAt h b c its)(k:∀ o,h.get? c=some o->h₂.get? c=some o):ContAt h₂ b c its:=by
 cases b with
 | true=>obtain ⟨o,ho,r⟩:=x;exact ⟨o,k o ho,r⟩
 | false=>obtain ⟨o,ho,r⟩:=x;exact ⟨o,k o ho,r⟩
theorem IterAt.keep(x:IterAt h b it c i)(k:∀ o,h.get? it=some o->h₂.get? it=some o):IterAt h₂ b it c i:=by
 cases b with
 | true=>obtain ⟨o,ho,r⟩:=x;exact ⟨o,k o ho,r⟩
 | false=>obtain ⟨o,ho,r⟩:=x;exact ⟨o,k o ho,r⟩
theorem IterAt.has(x:IterAt h b it c i):∃ o,h.get? it=some o/\∀ v,o.data≠.cell v:=by
 cases b with
 | true=>obtain ⟨o,ho,_,d⟩:=x;exact ⟨o,ho,fun v z=>by rw [d] at z;cases z⟩
 | false=>obtain ⟨o,ho,_,d⟩:=x;exact ⟨o,ho,fun v z=>by rw [d] at z;cases z⟩
theorem IterAt.lt(x:IterAt h b it c i):it<h.objs.size:=let ⟨_,e,_⟩:=x.has;Heap.lt_size e
theorem zaR{x:Value}{Q:Value->Shared->Prop}(gi:s.heap.IsTupleIter it c i)(gt:s.heap.IsTuple c its)(gx:its[i]?=some x)
  (k:∀ h',h'.IsTupleIter it c (i+1)->Heap.SameBut it s.heap h'->Q x { s with heap:=h' }):wpAny (model prog w) A (Builtin.SmallTypes.nextOf (.ref it)) Q E s:=by
 obtain ⟨o,go,gc,gd⟩:=id gi
 obtain ⟨ot,got,_,nt,gdt⟩:=gt
 unfold Builtin.SmallTypes.nextOf
 refine wpAny_bind (wpAny_callSpecial?_slot (name:=Str.ofString "__next__") gi.typeIs F.slot_tuple_iterator_next (wpAny_call_entry F.slot_tuple_iterator_next gi.typeIs F.entry_tuple_iterator_next ?_ (F.args_tuple_iterator_next_1 _)))
 show wpAny _ _ (field (.ref it) 0 >>= _) _ _ s
 refine wpAny_bind (wpAny_field go gd (x:=.ref c) rfl ?_)
 show wpAny _ _ (if (Value.ref c == Value.none)=true then _ else _) _ _ s
 rw [if_neg (show ¬ ((Value.ref c == Value.none)=true) from Bool.false_ne_true)]
 show wpAny _ _ (field (.ref it) 1 >>= _) _ _ s
 refine wpAny_bind (wpAny_field go gd (x:=.int i 0) rfl ?_)
 show wpAny _ _ (seqItems? (.ref c) >>= _) _ _ s
 refine wpAny_bind (wpAny_seqItems got gdt ?_)
 simp only [Int.toNat_natCast,gx]
 refine wpAny_bind (wpAny_setField go gd (by simp) (wpAny_pure ⟨x,rfl,wpAny_pure (k _ ?_ (Heap.SameBut.update ..))⟩))
 exact ⟨_,Heap.get?_update_self _ go (Obj.isFreed_of_fields (Obj.data_mapFields gd _)),(Obj.cls_mapFields ..).trans gc,(by rw [Obj.data_mapFields gd];simp [rawInt])⟩
theorem jQ{x:Value}{Q:Value->Shared->Prop}(gi:IterAt s.heap b it c i)(gt:ContAt s.heap b c its)(gx:its[i]?=some x)
  (k:∀ h',IterAt h' b it c (i+1)->Heap.SameBut it s.heap h'->Q x { s with heap:=h' }):wpAny (model prog w) A (Builtin.SmallTypes.nextOf (.ref it)) Q E s:=by
 cases b with
 | true=>exact wpAny_nextOf_list_item gi gt gx k
 | false=>exact zaR gi gt gx k
theorem ww{Q:Value->Shared->Prop}(hh:A.handled=none)(gi:s.heap.IsTupleIter it c i)(gt:s.heap.IsTuple c its)(gx:its[i]?=none)
  (k:∀ h' e,Heap.ExtBut it s.heap h'->(∃ o,h'.get? e=some o/\o.cls=.type "StopIteration")->E (.ref e) { s with heap:=h' }):wpAny (model prog w) A (Builtin.SmallTypes.nextOf (.ref it)) Q E s:=by
 obtain ⟨o,go,gc,gd⟩:=id gi
 obtain ⟨ot,got,_,nt,gdt⟩:=gt
 unfold Builtin.SmallTypes.nextOf
 refine wpAny_bind (wpAny_callSpecial?_slot (name:=Str.ofString "__next__") gi.typeIs F.slot_tuple_iterator_next (wpAny_call_entry F.slot_tuple_iterator_next gi.typeIs F.entry_tuple_iterator_next ?_ (F.args_tuple_iterator_next_1 _)))
 show wpAny _ _ (field (.ref it) 0 >>= _) _ _ s
 refine wpAny_bind (wpAny_field go gd (x:=.ref c) rfl ?_)
 show wpAny _ _ (if (Value.ref c == Value.none)=true then _ else _) _ _ s
 rw [if_neg (show ¬ ((Value.ref c == Value.none)=true) from Bool.false_ne_true)]
 show wpAny _ _ (field (.ref it) 1 >>= _) _ _ s
 refine wpAny_bind (wpAny_field go gd (x:=.int i 0) rfl ?_)
 show wpAny _ _ (seqItems? (.ref c) >>= _) _ _ s
 refine wpAny_bind (wpAny_seqItems got gdt ?_)
 simp only [Int.toNat_natCast,gx]
 refine wpAny_bind (wpAny_rule (wpAny_bind (wpAny_setField go gd (by simp) ?_)))
 show wpAny _ _ (newExc (.type "StopIteration") [] >>= _) _ _ _
 refine wpAny_bind ?_
 simp only [newExc,newTuple]
 refine wpAny_bind (wpAny_newObj_type ?_ (by size_fits))
 refine wpAny_bind (m:=firstArgMember _ _) (wpAny_of_eq (a:=Value.none) (by first | rfl | (simp only [firstArgMember];rfl)) ?_)
 refine wpAny_newObj_type ?_ (by size_fits)
 simp only [raiseNew]
 refine wpAny_bind (wpAny_handled ?_)
 first | rw [show A.in1.handled=none from hh] | rw [hh]
 refine wpAny_bind (wpAny_pure (wpAny_throw ?_))
 exact k _ _ (((Heap.SameBut.update ..).extBut.push _).push _) ⟨_,Heap.get?_push_size _ rfl,rfl⟩
theorem zaS{Q:Value->Shared->Prop}(hh:A.handled=none)(gi:IterAt s.heap b it c i)(gt:ContAt s.heap b c its)(gx:its[i]?=none)
  (k:∀ h' e,Heap.ExtBut it s.heap h'->(∃ o,h'.get? e=some o/\o.cls=.type "StopIteration")->E (.ref e) { s with heap:=h' }):wpAny (model prog w) A (Builtin.SmallTypes.nextOf (.ref it)) Q E s:=by
 cases b with
 | true=>exact wpAny_nextOf_list_end hh gi gt gx k
 | false=>exact ww hh gi gt gx k
end
section
variable {prog:Program} {w:World} {A:Around} {E:Value->Shared->Prop} {s:Shared} {b1 b2:Bool} {z TI TO i1 i2 l1 l2:Addr} {k1 k2:Nat} {xs ys:Array Value} {x y p q:Value}
theorem zgu{Q:Value->Shared->Prop}(D:ZipApart z TI TO i1 i2 l1 l2)(gz:IsZip s.heap z TI TO .none)(gI:IsPair s.heap TI (.ref i1) (.ref i2))(gO:IsPair s.heap TO p q)
  (g1:IterAt s.heap b1 i1 l1 k1)(g2:IterAt s.heap b2 i2 l2 k2)(c1:ContAt s.heap b1 l1 xs)(c2:ContAt s.heap b2 l2 ys)(gx:xs[k1]?=some x)(gy:ys[k2]?=some y)
  (fin:∀ h',IsZip h' z TI TO (rawInt s.heap.objs.size)->IsPair h' TO x y->IterAt h' b1 i1 l1 (k1+1)->IterAt h' b2 i2 l2 (k2+1)->IsPair h' s.heap.objs.size x y->
   (∀ c o,c ∉ [z,TO,i1,i2]->s.heap.get? c=some o->h'.get? c=some o)->Q (.ref s.heap.objs.size) { s with heap:=h' }):
  wpAny (model prog w) A (Builtin.«zip.__next__» ⟨[.ref z],[]⟩) (fun fin s'=>∃ v,fin=.done (.ret v)/\Q v s') E s:=by
 show wpAny _ _ (field (.ref z) 2 >>= _) _ _ _
 refine wpAny_bind (wpAny_field gz rfl (x:=.bool false) rfl ?_)
 show wpAny _ _ (field (.ref z) 3 >>= _) _ _ _
 refine wpAny_bind (wpAny_field gz rfl (x:=.ref TI) rfl ?_)
 refine wpAny_bind (wpAny_seqItems gI rfl ?_)
 show wpAny _ _ (Builtin.SmallTypes.ownedTupleIsFree (.ref z) >>= _) _ _ _
 refine wpAny_bind ?_
 unfold Builtin.SmallTypes.ownedTupleIsFree
 refine wpAny_bind (wpAny_field gz rfl (x:=.none) rfl (wpAny_pure ?_))
 simp only [if_true]
 refine wpAny_bind (wpAny_rule ?_)
 refine wpAny_bind (wpAny_field gz rfl (x:=.ref TO) rfl ?_)
 refine wpAny_bind (wpAny_setField_rec gz (by simp) fun h₁ z₁ s₁=>?_)
 replace z₁:IsZip h₁ z TI TO .ellipsis:=z₁
 refine wpAny_bind ?_
 simp only [List.zipIdx_cons,List.zipIdx_nil,List.forIn_cons,List.forIn_nil]
 refine wpAny_bind (wpAny_bind (wpAny_onRaise ?_))
 show wpAny _ _ (Builtin.SmallTypes.nextOf (.ref i1) >>= _) _ _ _
 refine wpAny_bind (jQ (g1.keep fun o e=>s₁.extBut _ _ D.i1z e) (c1.keep fun o e=>s₁.extBut _ _ D.l1z e) gx fun h₂ e₂ s₂=>wpAny_pure ?_)
 have O₂:IsPair h₂ TO p q:=s₂.extBut _ _ D.TOi1 (s₁.extBut _ _ D.TOz gO)
 refine wpAny_bind (wpAny_seqItems O₂ rfl ?_)
 refine wpAny_bind (wpAny_updateSeq_pair O₂ fun h₃ O₃ s₃=>?_)
 replace O₃:IsPair h₃ TO x q:=O₃
 refine wpAny_bind (wpAny_letGo (wpAny_pure ?_))
 refine wpAny_bind (wpAny_bind (wpAny_onRaise ?_))
 show wpAny _ _ (Builtin.SmallTypes.nextOf (.ref i2) >>= _) _ _ _
 refine wpAny_bind (jQ (g2.keep fun o e=>s₃.extBut _ _ D.TOi2.symm (s₂.extBut _ _ D.i12.symm (s₁.extBut _ _ D.i2z e))) (c2.keep fun o e=>s₃.extBut _ _ D.l2TO (s₂.extBut _ _ D.l2i1 (s₁.extBut _ _ D.l2z e))) gy fun h₄ e₄ s₄=>wpAny_pure ?_)
 have O₄:IsPair h₄ TO x q:=s₄.extBut _ _ D.TOi2 O₃
 refine wpAny_bind (wpAny_seqItems O₄ rfl ?_)
 refine wpAny_bind (wpAny_updateSeq_pair O₄ fun h₅ O₅ s₅=>?_)
 replace O₅:IsPair h₅ TO x y:=O₅
 refine wpAny_bind (wpAny_letGo (wpAny_pure (wpAny_pure ?_)))
 refine wpAny_bind (wpAny_seqItems O₅ rfl ?_)
 refine wpAny_bind (wpAny_newTuple ?_)
 have sz:h₅.objs.size=s.heap.objs.size:=by rw [s₅.1,s₄.1,s₃.1,s₂.1,s₁.1]
 have z₅:IsZip h₅ z TI TO .ellipsis:=s₅.extBut _ _ D.TOz.symm (s₄.extBut _ _ D.i2z.symm (s₃.extBut _ _ D.TOz.symm (s₂.extBut _ _ D.i1z.symm z₁)))
 have up5:∀ c o,c ∉ [z,TO,i1,i2]->s.heap.get? c=some o->h₅.get? c=some o:=fun c o hc e=>by
  simp only [List.mem_cons,List.not_mem_nil,or_false,not_or] at hc
  exact s₅.extBut _ _ hc.2.1 (s₄.extBut _ _ hc.2.2.2 (s₃.extBut _ _ hc.2.1 (s₂.extBut _ _ hc.2.2.1 (s₁.extBut _ _ hc.1 e))))
 have f1:IterAt h₅ b1 i1 l1 (k1+1):=e₂.keep fun o e=>s₅.extBut _ _ D.TOi1.symm (s₄.extBut _ _ D.i12 (s₃.extBut _ _ D.TOi1.symm e))
 have f2:IterAt h₅ b2 i2 l2 (k2+1):=e₄.keep fun o e=>s₅.extBut _ _ D.TOi2.symm e
 have zlt:z<h₅.objs.size:=Heap.lt_size z₅
 show wpAny _ _ (Builtin.SmallTypes.ownedTupleHandOut (.ref z) (.ref h₅.objs.size) >>= _) _ _ _
 refine wpAny_bind ?_
 unfold Builtin.SmallTypes.ownedTupleHandOut
 have z₆:IsZip (h₅.push { cls:=.type "tuple",data:=.seq #[x,y] }) z TI TO .ellipsis:=Heap.get?_push_of_some _ z₅
 refine wpAny_bind (wpAny_setField_rec z₆ (by simp) fun h₇ z₇ s₇=>?_)
 replace z₇:IsZip h₇ z TI TO (rawInt h₅.objs.size):=z₇
 refine wpAny_setField_rec z₇ (by simp) fun h₈ z₈ s₈=>?_
 replace z₈:IsZip h₈ z TI TO (rawInt h₅.objs.size):=z₈
 have up:∀ c o,c≠z->h₅.get? c=some o->h₈.get? c=some o:=fun c o n e=>s₈.extBut _ _ n (s₇.extBut _ _ n (Heap.get?_push_of_some _ e))
 have T₈:IsPair h₈ h₅.objs.size x y:=s₈.extBut _ _ (Nat.ne_of_gt zlt) (s₇.extBut _ _ (Nat.ne_of_gt zlt) (Heap.get?_push_size _ rfl))
 rw [sz] at z₈ T₈
 refine wpAny_pure ⟨_,rfl,?_⟩
 show Q (.ref h₅.objs.size) _
 rw [sz]
 exact fin h₈ z₈ (up _ _ D.TOz O₅) (f1.keep fun o e=>up _ o D.i1z e) (f2.keep fun o e=>up _ o D.i2z e) T₈ fun c o hc e=>up c o (fun n=>hc (by simp [n])) (up5 c o hc e)
theorem zhs{Q:PySem.Fin->Shared->Prop}(hh:A.handled=none)(D:ZipApart z TI TO i1 i2 l1 l2)(gz:IsZip s.heap z TI TO .none)(gI:IsPair s.heap TI (.ref i1) (.ref i2))(gO:IsPair s.heap TO p q)
  (g1:IterAt s.heap b1 i1 l1 k1)(g2:IterAt s.heap b2 i2 l2 k2)(c1:ContAt s.heap b1 l1 xs)(c2:ContAt s.heap b2 l2 ys)(ge:xs[k1]?=none∨ys[k2]?=none)
  (fin:∀ h' e,(∀ c o,c ∉ [z,TO,i1,i2]->s.heap.get? c=some o->h'.get? c=some o)->(∃ o,h'.get? e=some o/\o.cls=.type "StopIteration")->E (.ref e) { s with heap:=h' }):
  wpAny (model prog w) A (Builtin.«zip.__next__» ⟨[.ref z],[]⟩) Q E s:=by
 show wpAny _ _ (field (.ref z) 2 >>= _) _ _ _
 refine wpAny_bind (wpAny_field gz rfl (x:=.bool false) rfl ?_)
 show wpAny _ _ (field (.ref z) 3 >>= _) _ _ _
 refine wpAny_bind (wpAny_field gz rfl (x:=.ref TI) rfl ?_)
 refine wpAny_bind (wpAny_seqItems gI rfl ?_)
 show wpAny _ _ (Builtin.SmallTypes.ownedTupleIsFree (.ref z) >>= _) _ _ _
 refine wpAny_bind ?_
 unfold Builtin.SmallTypes.ownedTupleIsFree
 refine wpAny_bind (wpAny_field gz rfl (x:=.none) rfl (wpAny_pure ?_))
 simp only [if_true]
 refine wpAny_bind (wpAny_rule ?_)
 refine wpAny_bind (wpAny_field gz rfl (x:=.ref TO) rfl ?_)
 refine wpAny_bind (wpAny_setField_rec gz (by simp) fun h₁ z₁ s₁=>?_)
 replace z₁:IsZip h₁ z TI TO .ellipsis:=z₁
 refine wpAny_bind ?_
 simp only [List.zipIdx_cons,List.zipIdx_nil,List.forIn_cons,List.forIn_nil]
 refine wpAny_bind (wpAny_bind (wpAny_onRaise ?_))
 show wpAny _ _ (Builtin.SmallTypes.nextOf (.ref i1) >>= _) _ _ _
 have j1:IterAt h₁ b1 i1 l1 k1:=g1.keep fun o e=>s₁.extBut _ _ D.i1z e
 have d1:ContAt h₁ b1 l1 xs:=c1.keep fun o e=>s₁.extBut _ _ D.l1z e
 cases gx:xs[k1]? with
 | none=>
  refine wpAny_bind (zaS hh j1 d1 gx fun h₂ e s₂ he=>?_)
  obtain ⟨oe,hoe,hce⟩:=he
  have z₂:IsZip h₂ z TI TO .ellipsis:=s₂ _ _ D.i1z.symm z₁
  have nez:e≠z:=fun n=>by subst n;rw [z₂] at hoe;cases hoe;simp at hce
  refine wpAny_setField_rec z₂ (by simp) fun h₃ _ s₃=>fin h₃ e (fun c o hc t=>?_) ⟨oe,s₃.extBut _ _ nez hoe,hce⟩
  simp only [List.mem_cons,List.not_mem_nil,or_false,not_or] at hc
  exact s₃.extBut _ _ hc.1 (s₂ _ _ hc.2.2.1 (s₁.extBut _ _ hc.1 t))
 | some x=>
  have gy:ys[k2]?=none:=by
   rcases ge with g | g
   ·rw [gx] at g;cases g
   ·exact g
  refine wpAny_bind (jQ j1 d1 gx fun h₂ e₂ s₂=>wpAny_pure ?_)
  have O₂:IsPair h₂ TO p q:=s₂.extBut _ _ D.TOi1 (s₁.extBut _ _ D.TOz gO)
  refine wpAny_bind (wpAny_seqItems O₂ rfl ?_)
  refine wpAny_bind (wpAny_updateSeq_pair O₂ fun h₃ O₃ s₃=>?_)
  refine wpAny_bind (wpAny_letGo (wpAny_pure ?_))
  refine wpAny_bind (wpAny_bind (wpAny_onRaise ?_))
  show wpAny _ _ (Builtin.SmallTypes.nextOf (.ref i2) >>= _) _ _ _
  refine wpAny_bind (zaS hh (g2.keep fun o e=>s₃.extBut _ _ D.TOi2.symm (s₂.extBut _ _ D.i12.symm (s₁.extBut _ _ D.i2z e))) (c2.keep fun o e=>s₃.extBut _ _ D.l2TO (s₂.extBut _ _ D.l2i1 (s₁.extBut _ _ D.l2z e))) gy fun h₄ e s₄ he=>?_)
  obtain ⟨oe,hoe,hce⟩:=he
  have z₄:IsZip h₄ z TI TO .ellipsis:=s₄ _ _ D.i2z.symm (s₃.extBut _ _ D.TOz.symm (s₂.extBut _ _ D.i1z.symm z₁))
  have nez:e≠z:=fun n=>by subst n;rw [z₄] at hoe;cases hoe;simp at hce
  refine wpAny_setField_rec z₄ (by simp) fun h₅ _ s₅=>fin h₅ e (fun c o hc t=>?_) ⟨oe,s₅.extBut _ _ nez hoe,hce⟩
  simp only [List.mem_cons,List.not_mem_nil,or_false,not_or] at hc
  exact s₅.extBut _ _ hc.1 (s₄ _ _ hc.2.2.2 (s₃.extBut _ _ hc.2.1 (s₂.extBut _ _ hc.2.2.1 (s₁.extBut _ _ hc.1 t))))
theorem zgt{Q:Option Value->Shared->Prop}(D:ZipApart z TI TO i1 i2 l1 l2)(gz:IsZip s.heap z TI TO .none)(gI:IsPair s.heap TI (.ref i1) (.ref i2))(gO:IsPair s.heap TO p q)
  (g1:IterAt s.heap b1 i1 l1 k1)(g2:IterAt s.heap b2 i2 l2 k2)(c1:ContAt s.heap b1 l1 xs)(c2:ContAt s.heap b2 l2 ys)(gx:xs[k1]?=some x)(gy:ys[k2]?=some y)
  (fin:∀ h',IsZip h' z TI TO (rawInt s.heap.objs.size)->IsPair h' TO x y->IterAt h' b1 i1 l1 (k1+1)->IterAt h' b2 i2 l2 (k2+1)->IsPair h' s.heap.objs.size x y->
   (∀ c o,c ∉ [z,TO,i1,i2]->s.heap.get? c=some o->h'.get? c=some o)->Q (some (.ref s.heap.objs.size)) { s with heap:=h' }):wpAny (model prog w) A (pyNext (.ref z)) Q E s:=by
 have hT:s.TypeIs (.ref z) "zip":=⟨_,gz,rfl⟩
 unfold pyNext
 exact wpAny_bind (wpAny_attempt (wpAny_callSpecial?_slot (name:=Str.ofString "__next__") hT F.slot_zip_next
  (wpAny_call_entry F.slot_zip_next hT F.entry_zip_next (zgu D gz gI gO g1 g2 c1 c2 gx gy fun h' a1 a2 a3 a4 a5 a6=>wpAny_pure (fin h' a1 a2 a3 a4 a5 a6)) (F.args_zip_next_1 _))))
theorem zgs{Q:Option Value->Shared->Prop}(hh:A.handled=none)(D:ZipApart z TI TO i1 i2 l1 l2)(gz:IsZip s.heap z TI TO .none)(gI:IsPair s.heap TI (.ref i1) (.ref i2))(gO:IsPair s.heap TO p q)
  (g1:IterAt s.heap b1 i1 l1 k1)(g2:IterAt s.heap b2 i2 l2 k2)(c1:ContAt s.heap b1 l1 xs)(c2:ContAt s.heap b2 l2 ys)(ge:xs[k1]?=none∨ys[k2]?=none)
  (fin:∀ h',(∀ c o,c ∉ [z,TO,i1,i2]->s.heap.get? c=some o->h'.get? c=some o)->Q none { s with heap:=h' }):wpAny (model prog w) A (pyNext (.ref z)) Q E s:=by
 have hT:s.TypeIs (.ref z) "zip":=⟨_,gz,rfl⟩
 unfold pyNext
 refine wpAny_bind (wpAny_attempt (wpAny_callSpecial?_slot (name:=Str.ofString "__next__") hT F.slot_zip_next
  (wpAny_call_entry F.slot_zip_next hT F.entry_zip_next (zhs hh D gz gI gO g1 g2 c1 c2 ge fun h' e hk he=>?_) (F.args_zip_next_1 _))))
 obtain ⟨o,ho,hc⟩:=he
 refine wpAny_bind (wpAny_isInstance (T:="StopIteration") (b:=true) ⟨o,ho,hc⟩ isSubtype_stop ?_)
 exact wpAny_pure (fin _ hk)
theorem qj{b:Bool}{c:Addr}{its:Array Value}{Q:Value->Shared->Prop}(g:ContAt s.heap b c its)(k:Q (.ref s.heap.objs.size) { s with heap:=s.heap.push { cls:=.type (zbd b),data:=.fields #[.ref c,.int 0 0] } }):
  wpAny (model prog w) A (pyIter (.ref c)) Q E s:=by
 cases b with
 | true=>exact wpAny_pyIter_list g k
 | false=>exact wpAny_pyIter_tuple g k
noncomputable abbrev zg1(h:Heap)(b1:Bool)(l1:Addr):Heap:=h.push { cls:=.type (zbd b1),data:=.fields #[.ref l1,.int 0 0] }
noncomputable abbrev zg2(h:Heap)(b1 b2:Bool)(l1 l2:Addr):Heap:=(zg1 h b1 l1).push { cls:=.type (zbd b2),data:=.fields #[.ref l2,.int 0 0] }
noncomputable abbrev zg3(h:Heap)(b1 b2:Bool)(l1 l2:Addr):Heap:=(zg2 h b1 b2 l1 l2).push { cls:=.type "tuple",data:=.seq #[.ref h.objs.size,.ref (zg1 h b1 l1).objs.size] }
noncomputable abbrev zg4(h:Heap)(b1 b2:Bool)(l1 l2:Addr):Heap:=(zg3 h b1 b2 l1 l2).push { cls:=.type "tuple",data:=.seq #[.none,.none] }
noncomputable abbrev zg5(h:Heap)(b1 b2:Bool)(l1 l2:Addr):Heap:=(zg4 h b1 b2 l1 l2).push { cls:=.type "zip",data:=.fields #[.none,.bool false,.bool false,.ref (zg2 h b1 b2 l1 l2).objs.size,.ref (zg3 h b1 b2 l1 l2).objs.size] }
theorem zhr(b1 b2:Bool)(l1 l2:Addr)(xs ys:Array Value):
  Meets (Builtin.«zip.__new__» ⟨[.type "zip",.ref l1,.ref l2],[]⟩) (fun _ R s=>ContAt s.heap b1 l1 xs/\ContAt s.heap b2 l2 ys/\
   R (.ok (.ret (.ref (zg4 s.heap b1 b2 l1 l2).objs.size))) { s with heap:=zg5 s.heap b1 b2 l1 l2 }):=
 .of_wp fun prog w A R s h=>by
  obtain ⟨hp,g,d,tk,os⟩:=s;obtain ⟨c1,c2,h⟩:=h
  have hsub:=PySem.sub_zip
  have L1:ContAt (Shared.heap ⟨hp,g,d,tk,os⟩) b1 l1 xs:=c1
  have L2':ContAt (Shared.heap ⟨hp.push { cls:=.type (zbd b1),data:=.fields #[.ref l1,.int 0 0] },g,d,tk,os⟩) b2 l2 ys:=c2.keep fun o e=>Heap.get?_push_of_some _ e
  wp_walk using qj L1,qj L2'
  exact ⟨_,rfl,h⟩
theorem zhp{Q:Value->Shared->Prop}(c1:ContAt s.heap b1 l1 xs)(c2:ContAt s.heap b2 l2 ys)
  (k:∀ h',IsZip h' (s.heap.objs.size+4) (s.heap.objs.size+2) (s.heap.objs.size+3) .none->IsPair h' (s.heap.objs.size+2) (.ref s.heap.objs.size) (.ref (s.heap.objs.size+1))->
   IsPair h' (s.heap.objs.size+3) .none .none->IterAt h' b1 s.heap.objs.size l1 0->IterAt h' b2 (s.heap.objs.size+1) l2 0->(∀ c o,s.heap.get? c=some o->h'.get? c=some o)->Q (.ref (s.heap.objs.size+4)) { s with heap:=h' }):
  wpAny (model prog w) A (call (.type "zip") [.ref l1,.ref l2]) Q E s:=by
 refine callType_new F.called_zip (by decide) (F.typeCall_zip_2 _ _) (F.newCall_zip_2 _ _) (fun obj=>F.args_object_init_3 obj _ _) F.entry_zip_new (zhr b1 b2 l1 l2 xs ys) ⟨c1,c2,?_⟩
 have e1:(zg1 s.heap b1 l1).objs.size=s.heap.objs.size+1:=Heap.size_push ..
 have e2:(zg2 s.heap b1 b2 l1 l2).objs.size=s.heap.objs.size+2:=by rw [Heap.size_push,e1]
 have e3:(zg3 s.heap b1 b2 l1 l2).objs.size=s.heap.objs.size+3:=by rw [Heap.size_push,e2]
 have e4:(zg4 s.heap b1 b2 l1 l2).objs.size=s.heap.objs.size+4:=by rw [Heap.size_push,e3]
 have g5:(zg5 s.heap b1 b2 l1 l2).get? (zg4 s.heap b1 b2 l1 l2).objs.size=some _:=Heap.get?_push_size _ rfl
 have g4:(zg5 s.heap b1 b2 l1 l2).get? (zg3 s.heap b1 b2 l1 l2).objs.size=some _:=Heap.get?_push_of_some _ (Heap.get?_push_size _ rfl)
 have g3:(zg5 s.heap b1 b2 l1 l2).get? (zg2 s.heap b1 b2 l1 l2).objs.size=some _:=Heap.get?_push_of_some _ (Heap.get?_push_of_some _ (Heap.get?_push_size _ rfl))
 have g2:(zg5 s.heap b1 b2 l1 l2).get? (zg1 s.heap b1 l1).objs.size=some _:=Heap.get?_push_of_some _ (Heap.get?_push_of_some _ (Heap.get?_push_of_some _ (Heap.get?_push_size _ rfl)))
 have g1:(zg5 s.heap b1 b2 l1 l2).get? s.heap.objs.size=some _:=Heap.get?_push_of_some _ (Heap.get?_push_of_some _ (Heap.get?_push_of_some _ (Heap.get?_push_of_some _ (Heap.get?_push_size _ rfl))))
 show _/\_
 rw [e2,e3,e4] at g5
 rw [e1,e2] at g3
 rw [e3] at g4
 rw [e1] at g2
 rw [e4]
 have mk:∀ (b:Bool) (h:Heap) (it l:Addr),h.get? it=some { cls:=.type (zbd b),data:=.fields #[.ref l,.int 0 0] }->IterAt h b it l 0:=fun b h it l e=>by
  cases b with
  | true=>exact ⟨_,e,rfl,rfl⟩
  | false=>exact ⟨_,e,rfl,rfl⟩
 exact ⟨⟨_,g5,rfl⟩,k _ g5 g3 g4 (mk b1 _ _ _ g1) (mk b2 _ _ _ g2) fun c o e=>Heap.get?_push_of_some _ (Heap.get?_push_of_some _ (Heap.get?_push_of_some _ (Heap.get?_push_of_some _ (Heap.get?_push_of_some _ e))))⟩
end
noncomputable def Sq(K:PySem.W.Frag)(H:Hp)(b:Bool)(a:Addr)(xs:List V):Prop:=if b=true then SqL K H a xs else SqT K H a xs
noncomputable def Itz (K : PySem.W.Frag) (b1 b2 : Bool) (a1 a2 : Addr) : It :=
  ⟨fun i H => ∃ xs ys x y, Sq K H b1 a1 xs ∧ Sq K H b2 a2 ys ∧ xs[i]? = some x ∧ ys[i]? = some y,
   fun i H v H' => ∃ T x y, H T = none ∧ v = .ref T ∧ H' = upd H T (.tup [x, y]) ∧ ∀ xs ys, Sq K H b1 a1 xs → Sq K H b2 a2 ys → xs[i]? = some x ∧ ys[i]? = some y,
   fun i H => ∃ xs ys, Sq K H b1 a1 xs ∧ Sq K H b2 a2 ys ∧ (xs.length ≤ i ∨ ys.length ≤ i)⟩
section
variable {X:Cx} {pins:List (Addr × Obj)} {σ:St} {H:Hp} {s:Shared}
theorem Sq.at{b:Bool}{a:Addr}{xs:List V}(I:Inv X pins σ H s)(h:Sq X.K H b a xs):∃ its:List Value,Vals xs its/\ContAt s.heap b a its.toArray:=by
 cases b with
 | true=>obtain ⟨its,r,p,_⟩:=I.list h;exact ⟨its,r,p.isList⟩
 | false=>obtain ⟨its,r,p,_⟩:=I.tuple h;exact ⟨its,r,p⟩
theorem Sq.inj{b:Bool}{a:Addr}{xs ys:List V}(I:Inv X pins σ H s)(h:Sq X.K H b a xs)(h':Sq X.K H b a ys):xs=ys:=by
 cases b with
 | true=>exact I.list_inj h h'
 | false=>exact I.tuple_inj h h'
theorem Sq.ne{b:Bool}{a it:Addr}{xs:List V}(I:Inv X pins σ H s)(h:Sq X.K H b a xs)(hf:ju X pins H it):a≠it:=by
 rintro rfl
 have nb:∀ o,X.K.lookup a=some o->False:=fun o ho=>by
  obtain ⟨u,hu⟩:=I.ok.mod.kin a o ho |> fun e=>(⟨o,e⟩:∃ u,X.base.get? a=some u)
  rcases hf.2.2.2.1 with z | z
  ·exact I.ok.noex a u hu z
  ·exact absurd (Nat.lt_of_lt_of_le (Heap.lt_size hu) (Nat.le_trans I.ok.bsz z)) (Nat.lt_irrefl _)
 cases b with
 | true=>
  rcases h with (h | ⟨u,h⟩) | ⟨o,_,_,h,_⟩
  ·rw [hf.1] at h;cases h
  ·rw [hf.1] at h;cases h
  ·exact nb o h
 | false=>
  rcases h with (h | ⟨u,h⟩) | ⟨o,_,_,h,_⟩
  ·rw [hf.1] at h;cases h
  ·rw [hf.1] at h;cases h
  ·exact nb o h
end
structure ZApart (z TI TO i1 i2:Addr):Prop where
 a1:TI≠z
 a2:TO≠z
 a3:i1≠z
 a4:i2≠z
 a5:TI≠TO
 a6:TI≠i1
 a7:TI≠i2
 a8:TO≠i1
 a9:TO≠i2
 a10:i1≠i2
theorem zns{z TI TO i1 i2 b:Addr}(hb:b ∈ [z,TO,i1,i2]):b ∈ [z,TI,TO,i1,i2]:=by
 simp only [List.mem_cons,List.not_mem_nil,or_false] at hb ⊢
 rcases hb with h | h | h | h
 ·exact .inl h
 ·exact .inr (.inr (.inl h))
 ·exact .inr (.inr (.inr (.inl h)))
 ·exact .inr (.inr (.inr (.inr h)))
theorem zhF{P:Program}{w:World}{K:PySem.W.Frag}{es:List Expr}{k:Nat}{pos:Pos}(b1 b2:Bool)(a1 a2 z TI TO i1 i2:Addr)(D:ZApart z TI TO i1 i2):
  Turn P w K (.Tuple es k pos) (Itz K b1 b2 a1 a2) [z,TI,TO,i1,i2] z (fun i h=>IsZip h z TI TO .none/\IsPair h TI (.ref i1) (.ref i2)/\(∃ p q,IsPair h TO p q)/\IterAt h b1 i1 a1 i/\IterAt h b2 i2 a2 i) where
 mem:=by simp
 obj:=by
  rintro i h ⟨gz,gI,⟨p,q,gO⟩,g1,g2⟩ b hb
  simp only [List.mem_cons,List.not_mem_nil,or_false] at hb
  rcases hb with rfl | rfl | rfl | rfl | rfl
  ·exact ⟨_,gz,fun v e=>nomatch e⟩
  ·exact ⟨_,gI,fun v e=>nomatch e⟩
  ·exact ⟨_,gO,fun v e=>nomatch e⟩
  ·exact g1.has
  ·exact g2.has
 keep:=by
  rintro i h h' ⟨gz,gI,⟨p,q,gO⟩,g1,g2⟩ kk
  exact ⟨kk z (by simp) _ gz,kk TI (by simp) _ gI,⟨p,q,kk TO (by simp) _ gO⟩,g1.keep fun o e=>kk i1 (by simp) o e,g2.keep fun o e=>kk i2 (by simp) o e⟩
 item:=by
  rintro X hP hw hK hc i pins s σ H E I hf ⟨gz,gI,⟨p,q,gO⟩,g1,g2⟩ ⟨xs,ys,x,y,hx,hy,ex,ey⟩
  subst hP hw hK
  obtain ⟨its1,r1,c1⟩:=hx.at I
  obtain ⟨its2,r2,c2⟩:=hy.at I
  obtain ⟨u,hu,ru⟩:=r1.get ex
  obtain ⟨v,hv,rv⟩:=r2.get ey
  have nf:∀ b ∈ [z,TI,TO,i1,i2],a1≠b/\a2≠b:=fun b hb=>⟨hx.ne I (hf b hb),hy.ne I (hf b hb)⟩
  have DD:ZipApart z TI TO i1 i2 a1 a2:=⟨D.a1,D.a2,D.a3,D.a4,D.a5,D.a6,D.a7,D.a8,D.a9,D.a10,(nf z (by simp)).1,(nf TO (by simp)).1,(nf i1 (by simp)).1,(nf i2 (by simp)).1,(nf z (by simp)).2,(nf TO (by simp)).2,(nf i1 (by simp)).2,(nf i2 (by simp)).2⟩
  refine zgt DD gz gI gO g1 g2 c1 c2 (x:=u) (y:=v) (by simpa using hu) (by simpa using hv) fun h' e1 e2 e3 e4 e5 e6=>⟨_,rfl,?_⟩
  refine wpAny_letOwnedTupleGo_zip e1 fun h₂ z₂ s₂=>?_
  have hL:∀ b ∈ [z,TO,i1,i2],ju X pins H b:=fun b hb=>hf b (zns hb)
  have kk:∀ b o,b ∉ [z,TO,i1,i2]->s.heap.get? b=some o->h₂.get? b=some o:=fun b o hb e=>s₂.extBut _ _ (fun n=>hb (by simp [n])) (e6 b o hb e)
  -- first the records,then the new pair
  have hT:H s.heap.objs.size=none:=I.hok.fresh (Nat.le_refl _)
  have nz:s.heap.objs.size≠z:=Nat.ne_of_gt (Heap.lt_size gz)
  have T2:IsPair h₂ s.heap.objs.size u v:=s₂.extBut _ _ nz e5
  have I2:Inv X pins σ (upd H s.heap.objs.size (.tup [x,y])) { s with heap:=h₂,toks:=s.toks }:=I.turnedLaid (t':=s.toks) kk hL (Nat.le_refl _) ⟨by simp [sizeLine],[u,v],.cons ru (.cons rv .nil),⟨_,T2,rfl,_,rfl⟩⟩
  refine ⟨.ref s.heap.objs.size,_,I2,rfl,⟨_,x,y,hT,rfl,rfl,fun xs' ys' h1 h2=>⟨by rw [h1.inj I hx];exact ex,by rw [h2.inj I hy];exact ey⟩⟩,⟨z₂,?_,⟨u,v,s₂.extBut _ _ D.a2 e2⟩,e3.keep fun o e=>s₂.extBut _ _ D.a3 e,e4.keep fun o e=>s₂.extBut _ _ D.a4 e⟩,fun b hb=>?_⟩
  ·exact s₂.extBut _ _ D.a1 (e6 _ _ (by simp [D.a1,D.a5,D.a6,D.a7]) gI)
  ·rw [zd (fun n=>?_)]
   ·exact (hf b hb).1
   ·have:b<s.heap.objs.size:=by
     simp only [List.mem_cons,List.not_mem_nil,or_false] at hb
     rcases hb with rfl | rfl | rfl | rfl | rfl
     ·exact Heap.lt_size gz
     ·exact Heap.lt_size gI
     ·exact Heap.lt_size gO
     ·exact g1.lt
     ·exact g2.lt
    exact absurd n (Nat.ne_of_lt this)
 done:=by
  rintro X hP hw hK hc i pins s σ H E I hf ⟨gz,gI,⟨p,q,gO⟩,g1,g2⟩ ⟨xs,ys,hx,hy,hl⟩
  subst hP hw hK
  obtain ⟨its1,r1,c1⟩:=hx.at I
  obtain ⟨its2,r2,c2⟩:=hy.at I
  have l1:=r1.length
  have l2:=r2.length
  have nf:∀ b ∈ [z,TI,TO,i1,i2],a1≠b/\a2≠b:=fun b hb=>⟨hx.ne I (hf b hb),hy.ne I (hf b hb)⟩
  have DD:ZipApart z TI TO i1 i2 a1 a2:=⟨D.a1,D.a2,D.a3,D.a4,D.a5,D.a6,D.a7,D.a8,D.a9,D.a10,(nf z (by simp)).1,(nf TO (by simp)).1,(nf i1 (by simp)).1,(nf i2 (by simp)).1,(nf z (by simp)).2,(nf TO (by simp)).2,(nf i1 (by simp)).2,(nf i2 (by simp)).2⟩
  refine zgs (I.ok.hd hc) DD gz gI gO g1 g2 c1 c2 (hl.imp (fun h=>by simpa [← l1] using h) fun h=>by simpa [← l2] using h) fun h' e6=>⟨rfl,I.turnedL (t':=s.toks) e6 fun b hb=>hf b (zns hb)⟩
 self:=fun _ _ _ _ _ st h=>wpAny_pyIter_zip st.1 h
theorem zle(n:Nat):ZApart (n+4) (n+2) (n+3) n (n+1):=by constructor<;>(show ¬ (_:Nat)=_;omega)
theorem zjl:bootBuiltins "zip"=some (.type "zip"):=by decide +kernel
noncomputable def zot(K:PySem.W.Frag)(ta:TA):TI:=fun σ H R=>ta σ H fun vs H1=>∃ b1 b2 a1 a2,vs=[.ref a1,.ref a2]/\(∃ xs,Sq K H1 b1 a1 xs)/\(∃ ys,Sq K H1 b2 a2 ys)/\R (Itz K b1 b2 a1 a2) H1
theorem zlG{X:Cx}{es:List Expr}{k:Nat}{tpos:Pos}{a b:Expr}{ta:TA}{p pos:Pos}(hg:Gl X "zip")(hm:X.mg "zip"=none)(ha:PA X [a,b] ta)(hs:starEach [a,b] X.env=[(false,eval a X.env),(false,eval b X.env)]:=by rfl)(hs2:starEach [b] X.env=[(false,eval b X.env)]:=by rfl):
  PI X (.Tuple es k tpos) (.Call (.Name "zip" p) [a,b] [] pos) (zot X.K ta):=by
 intro pins s σ H R I h
 refine Call_ (jT I hg hm zjl (PyProof.Rows.callWith_type1 (thn (ha pos pins s σ H _ I h) fun us s1 ⟨vs,H1,I1,r1,q1⟩=>?_) (by rw [hs,hs2]) (by rw [hs2];rfl)))
 obtain ⟨b1,b2,a1,a2,e,⟨xs,hx⟩,⟨ys,hy⟩,q⟩:=q1
 subst e
 cases r1 with
 | cons r rr=>
  cases rr with
  | cons r' rr=>
   cases rr
   cases r
   cases r'
   obtain ⟨its1,v1,c1⟩:=hx.at I1
   obtain ⟨its2,v2,c2⟩:=hy.at I1
   refine zhp c1 c2 fun h' gz gI gO g1 g2 kk=>?_
   refine wpAny_pyIter_zip gz ?_
   refine ⟨s1.heap.objs.size+4,[s1.heap.objs.size+4,s1.heap.objs.size+2,s1.heap.objs.size+3,s1.heap.objs.size,s1.heap.objs.size+1],_,_,H1,rfl,I1.kept (t':=s1.toks) kk,
    zhF b1 b2 a1 a2 _ _ _ _ _ (zle s1.heap.objs.size),⟨gz,gI,⟨_,_,gO⟩,g1,g2⟩,fun c hc=>?_,q⟩
   have hc':s1.heap.objs.size≤c:=by
    simp only [List.mem_cons,List.not_mem_nil,or_false] at hc
    rcases hc with rfl | rfl | rfl | rfl | rfl<;>omega
   exact I1.fpOk hc' (I1.hok.fresh hc')
end L2
namespace F
open PySem L2
noncomputable def zkC(f:FA):FA:=fun env=>(f env).bind fun ps=>match ps with | [p,q]=>(wW p).bind fun xs=>(wW q).bind fun ys=>some ((List.zip xs ys).map fun z=>PV.tup [z.1,z.2]) | _=>none
theorem zfE{K:PySem.W.Frag}{own:Addr->Option Nat}{H1:Hp}{p:PV}{v:V}{A:List Addr}{ps:List PV}(lp:Bool)(hm:∀ a l,own a=some l->MutH H1 a)(r:Rp K H1 p v A)(hA:(∀ a ∈ A,own a=none)∨(lp=false/\isDatas ps=true))(hs:wW p=some ps):
  ∃ b a xs B,v=.ref a/\Rps K H1 ps xs B/\(∀ a ∈ B,own a=none/\∃ o,H1 a=some o)/\∀ H2,(if lp=true then Stay own H1 H2 else Same H1 H2)->Sq K H2 b a xs/\Rps K H2 ps xs B:=by
 cases p<;>first | cases hs | skip
 ·obtain ⟨a,xs,h1,h2,h3⟩:=r.T
  refine ⟨false,a,xs,A,h1,h3,fun b hb=>⟨?_,(Rps.mut _ h3 b hb).some⟩,fun H2 hR=>?_⟩
  ·rcases hA with hA | ⟨_,hd⟩
   ·exact hA b hb
   ·have:=Rps.data _ hd h3;subst this;exact absurd hb (by simp)
  ·rcases hA with hA | ⟨e,hd⟩
   ·cases lp with
    | true=>exact ⟨Stay.tup hR hm h2,Rps.stay hR hm _ hA h3⟩
    | false=>exact ⟨Same.tup hR h2,Rps.same hR _ h3⟩
   ·subst e
    exact ⟨Same.tup hR h2,Rps.same hR _ h3⟩
 ·obtain ⟨a,xs,B,h1,h2,rfl,h3⟩:=r.L
  refine ⟨true,a,xs,B,h1,h3,fun b hb=>⟨?_,(Rps.mut _ h3 b hb).some⟩,fun H2 hR=>?_⟩
  ·rcases hA with hA | ⟨_,hd⟩
   ·exact hA b (List.mem_cons_of_mem _ hb)
   ·have:=Rps.data _ hd h3;subst this;exact absurd hb (by simp)
  ·rcases hA with hA | ⟨e,hd⟩
   ·cases lp with
    | true=>exact ⟨SqL.of (hR _ _ (hA a List.mem_cons_self) h2),Rps.stay hR hm _ (fun b hb=>hA b (List.mem_cons_of_mem _ hb)) h3⟩
    | false=>exact ⟨SqL.of (hR _ _ h2),Rps.same hR _ h3⟩
   ·subst e
    exact ⟨SqL.of (hR _ _ h2),Rps.same hR _ h3⟩
 ·obtain ⟨a,xs,h1,h2,h3⟩:=r.Fl
  refine ⟨true,a,xs,A,h1,h3,fun b hb=>⟨?_,(Rps.mut _ h3 b hb).some⟩,fun H2 hR=>?_⟩
  ·rcases hA with hA | ⟨_,hd⟩
   ·exact hA b hb
   ·have:=Rps.data _ hd h3;subst this;exact absurd hb (by simp)
  ·rcases hA with hA | ⟨e,hd⟩
   ·cases lp with
    | true=>exact ⟨(Stay.fz hR hm h2).seq,Rps.stay hR hm _ hA h3⟩
    | false=>exact ⟨(h2.same hR).seq,Rps.same hR _ h3⟩
   ·subst e
    exact ⟨(h2.same hR).seq,Rps.same hR _ h3⟩
theorem zju{K:PySem.W.Frag}{own:Addr->Option Nat}{H1:Hp}{R:Hp->Prop}{b1 b2:Bool}{a1 a2:Addr}{ps qs:List PV}{xs ys:List V}{A B:List Addr}
  (hA:∀ a ∈ A,own a=none/\∃ o,H1 a=some o)(hB:∀ a ∈ B,own a=none/\∃ o,H1 a=some o)(h1:∀ H2,R H2->Sq K H2 b1 a1 xs/\Rps K H2 ps xs A)(h2:∀ H2,R H2->Sq K H2 b2 a2 ys/\Rps K H2 qs ys B):
  Walks K own H1 R (Itz K b1 b2 a1 a2) ((List.zip ps qs).map fun z=>PV.tup [z.1,z.2]):=by
 intro i H2 hR
 obtain ⟨q1,r1⟩:=h1 H2 hR
 obtain ⟨q2,r2⟩:=h2 H2 hR
 refine ⟨fun p hp=>?_,fun hi=>⟨xs,ys,q1,q2,?_⟩⟩
 ·rw [List.getElem?_map] at hp
  obtain ⟨z,hz,hp⟩:=Option.map_eq_some_iff.mp hp
  subst hp
  obtain ⟨z1,z2⟩:=List.getElem?_zip_eq_some.mp hz
  obtain ⟨u,C,e1,e2,e3⟩:=r1.get z1
  obtain ⟨v,D,f1,f2,f3⟩:=r2.get z2
  refine ⟨⟨xs,ys,u,v,q1,q2,e1,f1⟩,fun x H3 ⟨T,x',y',hT,ex,eH,hy⟩=>?_⟩
  obtain ⟨g1,g2⟩:=hy xs ys q1 q2
  rw [e1] at g1;cases g1
  rw [f1] at g2;cases g2
  have sm:Same H2 H3:=by rw [eH];exact z0 (Same.refl _) hT
  refine ⟨sm,C++D,?_,fun a ha=>?_⟩
  ·unfold Rp
   refine ⟨T,[u,v],ex,.inl (.inl (by rw [eH,zW])),?_⟩
   unfold Rps
   refine ⟨u,[v],C,D,rfl,rfl,Rp.same sm _ e2,?_⟩
   unfold Rps
   exact ⟨v,[],D,[],rfl,by simp,Rp.same sm _ f2,by unfold Rps;exact ⟨rfl,rfl⟩⟩
  ·rcases List.mem_append.mp ha with ha | ha
   ·exact hA a (e3.subset ha)
   ·exact hB a (f3.subset ha)
 ·rw [List.length_map,List.length_zip] at hi
  rw [← r1.length,← r2.length]
  omega
theorem zlg{X:Cx}{κ:Nat->Option Nat}{G:Hp}{fs:FA}{a b:Expr}{es:List Expr}{k:Nat}{tpos p pos:Pos}(lp:Bool)(hg:Gl X "zip")(hm:X.mg "zip"=none)(ha:VA X κ G .sh [a,b] fs)(hs:starEach [a,b] X.env=[(false,eval a X.env),(false,eval b X.env)]:=by rfl)(hs2:starEach [b] X.env=[(false,eval b X.env)]:=by rfl):
  VIt X κ G lp (.Tuple es k tpos) (.Call (.Name "zip" p) [a,b] [] pos) (zkC fs):=(zlG hg hm ha.1 hs hs2).imp fun σ H R hq_=>by
 refine hq_.elim fun own env ps I hf k=>?_
 unfold zkC at hf
 replace hf:=Option.bind_eq_some_iff.mp hf;obtain ⟨qs,hp,hf⟩:=hf
 refine (.in I hp fun vs H1 A s r hc=>?_)
 split at hf
 ·rename_i p q
  cases e1:wW p with
  | none=>rw [e1] at hf;cases hf
  | some xs=>
   cases e2:wW q with
   | none=>rw [e1,e2] at hf;cases hf
   | some ys=>
    rw [e1,e2] at hf
    cases hf
    obtain ⟨v,r',A1,A2,h1,h2,h3,h4⟩:=r.inv
    obtain ⟨v',r'',A1',A2',h1',h2',h3',h4'⟩:=h4.inv
    have hm:∀ a l,own a=some l->MutH H1 a:=fun a l e=>((I.grow s).own a l e).2
    have hcA:∀ a ∈ A,own a=none:=hc
    obtain ⟨b1,a1,vs1,B1,w1,w2,w3,w4⟩:=zfE lp hm h3 (.inl fun a ha=>hcA a (by rw [h2];exact List.mem_append_left _ ha)) e1
    obtain ⟨b2,a2,vs2,B2,w5,w6,w7,w8⟩:=zfE lp hm h3' (.inl fun a ha=>hcA a (by rw [h2,h2'];exact List.mem_append_right _ (List.mem_append_left _ ha))) e2
    have rf:(if lp=true then Stay own H1 H1 else Same H1 H1):=by
     cases lp with
     | true=>exact fun _ _ _ h=>h
     | false=>exact Same.refl _
    exact ⟨b1,b2,a1,a2,by rw [h1,h1',h4'.inv0.1,w1,w5],⟨vs1,(w4 H1 rf).1⟩,⟨vs2,(w8 H1 rf).1⟩,k _ H1 s (zju w3 w7 w4 w8)⟩
 ·cases hf
end F
namespace F
open PySem PySem.Spec PyProof.Rows L2
section
variable {X:Cx} {κ:Nat->Option Nat} {G:Hp} {c c1 c2:Cat} {a b e:Expr} {es:List Expr} {fa fb f:FE} {t u:FT} {fs:FA} {pos:Pos} {g h:FS} {st:Stmt} {xW:List Stmt} {O:List Nat}
theorem zae{α:Type}:∀ {ps:List α} {j:Nat} {p:α},ps[j]?=some p->∃ l1 l2,ps=l1++p::l2/\l1.length=j
 | [],j,p,h=>by simp at h
 | q::ps,0,p,h=>⟨[],ps,by simp at h;rw [h];rfl,rfl⟩
 | q::ps,j+1,p,h=>by
  obtain ⟨l1,l2,e1,e2⟩:=zae (ps:=ps) (j:=j) (p:=p) (by simpa using h)
  exact ⟨q::l1,l2,by rw [e1];rfl,by simp [e2]⟩
theorem zcL{α:Type}{l1 l2:List α}{p q:α}:(l1++p::l2).set l1.length q=l1++q::l2:=by
 rw [List.set_append]
 simp
theorem VI.turnIn{K:PySem.W.Frag}{own:Addr->Option Nat}{env:En}{σ:St}{H:Hp}{i j:Nat}{ps qs:List PV}(hi:i ∈ O)(I:VI K (ko O) G own env σ H)(hl:zA i env=some (.lst ps))(hj:ps[j]?=some (.lst qs)):
  ∃ a xs b ys B,σ[i]?=some (some (.ref a))/\H a=some (.lst xs)/\xs[j]?=some (.ref b)/\xs.length=ps.length/\H b=some (.lst ys)/\Rps K H qs ys B/\b ∉ B/\B.Nodup/\∀ H1 qs' ys' C,Same H H1->Rps K H1 qs' ys' C->C.Nodup->b ∉ C->(∀ d ∈ C,d ∈ B∨H d=none)->
   ∃ own',VI K (ko O) G own' (env.set i (some (.lst (ps.set j (.lst qs'))))) σ (upd H1 b (.lst ys'))/\Ext own H own' (upd H1 b (.lst ys')):=by
 obtain ⟨a,xs,B,hσ,ha,hr,nd,ho,hB⟩:=uC hi I hl
 obtain ⟨l1,l2,rfl,rfl⟩:=zae hj
 obtain ⟨v1,v2,A1,A2,rfl,rfl,r1,r2⟩:=hr.split
 obtain ⟨v,r',A3,A4,rfl,rfl,r3,r4⟩:=r2.inv
 obtain ⟨b,ys,B',rfl,hb,rfl,r5⟩:=r3.L
 have n1:=r1.length
 rw [List.nodup_cons,List.nodup_append,List.nodup_append,List.nodup_cons] at nd
 simp only [List.mem_append,List.mem_cons,not_or] at nd hB
 obtain ⟨⟨na1,⟨nab,naB⟩,na4⟩,nd1,⟨⟨nbB,ndB⟩,nd4,d34⟩,d1⟩:=nd
 refine ⟨a,_,b,ys,B',hσ,ha,by rw [n1];simp,hr.length.symm,hb,r5,nbB,ndB,fun H1 qs' ys' C s1 rC ndC nbC hC=>?_⟩
 have mb:MutH H1 b:=.inl ⟨ys,s1 _ _ hb⟩
 have nb1:b ∉ A1:=fun z=>d1 b z b (.inl (.inl rfl)) rfl
 have nb4:b ∉ A4:=fun z=>d34 b (.inl rfl) b z rfl
 have hm:∀ d,(d=a∨d ∈ A1∨d=b∨d ∈ A4)->∃ o,H d=some o:=fun d z=>by
  rcases z with rfl | z | rfl | z
  ·exact ⟨_,ha⟩
  ·exact (Rps.mut _ r1 d z).some
  ·exact ⟨_,hb⟩
  ·exact (Rps.mut _ r4 d z).some
 have nC:∀ d ∈ C,d≠a/\d ∉ A1/\d ∉ A4:=fun d hd=>by
  rcases hC d hd with z | z
  ·exact ⟨fun e=>naB (e ▸ z),fun e=>d1 d e d (.inl (.inr z)) rfl,fun e=>d34 d (.inr z) d e rfl⟩
  ·refine ⟨fun e=>?_,fun e=>?_,fun e=>?_⟩
   ·obtain ⟨o,q⟩:=hm d (.inl e);rw [z] at q;cases q
   ·obtain ⟨o,q⟩:=hm d (.inr (.inl e));rw [z] at q;cases q
   ·obtain ⟨o,q⟩:=hm d (.inr (.inr (.inr e)));rw [z] at q;cases q
 have hob:own b=some i:=hB b (.inr (.inl (.inl rfl)))
 have hA:(a::(A1++((b::C)++A4))).Nodup:=by
  rw [List.nodup_cons,List.nodup_append,List.nodup_append,List.nodup_cons]
  simp only [List.mem_append,List.mem_cons,not_or]
  refine ⟨⟨na1,⟨nab,fun z=>(nC a z).1 rfl⟩,na4⟩,nd1,⟨⟨nbC,ndC⟩,nd4,fun d hd d' hd' e=>?_⟩,fun d hd d' hd' e=>?_⟩
  ·subst e
   rcases hd with rfl | hd
   ·exact nb4 hd'
   ·exact (nC d hd).2.2 hd'
  ·subst e
   rcases hd' with (rfl | hd') | hd'
   ·exact nb1 hd
   ·exact (nC d hd').2.1 hd
   ·exact d1 d hd d (.inr hd') rfl
 have hown:∀ d ∈ a::(A1++((b::C)++A4)),own d=some i∨H d=none:=fun d hd=>by
  simp only [List.mem_append,List.mem_cons] at hd
  rcases hd with rfl | hd | (rfl | hd) | hd
  ·exact .inl ho
  ·exact .inl (hB d (.inl hd))
  ·exact .inl hob
  ·rcases hC d hd with z | z
   ·exact .inl (hB d (.inr (.inl (.inr z))))
   ·exact .inr z
  ·exact .inl (hB d (.inr (.inr hd)))
 rw [zcL]
 have r:Rp K (upd H1 b (.lst ys')) (.lst (l1++.lst qs'::l2)) (.ref a) (a::(A1++((b::C)++A4))):=
  .mkL (by rw [zd nab];exact s1 _ _ ha) ((Rps.upd mb _ nb1 (Rps.same s1 _ r1)).append (Rps.cons (.mkL zW (Rps.upd mb _ nbC rC)) (Rps.upd mb _ nb4 (Rps.same s1 _ r4))))
 have:=I.take (H2:=upd H1 b (.lst ys')) (v:=.ref a) hi (fun m q w D _ _ z hD=>Rp.upd mb q (fun z'=>hD b z' hob) (Rp.same s1 q z)) (fun d u hd z=>by
  rw [zd (by rintro rfl;exact hd hob)];exact s1 d u z) r hA hown
 rw [kZ hσ] at this
 exact ⟨_,this⟩
end
end F
namespace L2
open PySem PySem.Spec PyProof.Rows
theorem Vals.of_get:∀ {xs:List V} {us:List Value},xs.length=us.length->(∀ (i:Nat) x u,xs[i]?=some x->us[i]?=some u->RelV x u)->Vals xs us
 | [],[],_,_=>.nil
 | x::xs,u::us,hl,h=>.cons (h 0 x u (by simp) (by simp)) (Vals.of_get (by simpa using hl) fun i y v hy hv=>h (i+1) y v (by simpa using hy) (by simpa using hv))
section
variable {X:Cx}
noncomputable def zmM(ta:TA):TE:=fun σ H Q=>ta σ H fun vs H1=>∃ j:Int,vs=[.int j]/\-(2 ^ 62)≤j/\j<2 ^ 62/\∀ r,H1 r=none->Q (.ref r) (upd H1 r (.rng 0 j))
theorem zjW{a:Expr}{ta:TA}{p pos:Pos}(hg:Gl X "range")(hm:X.mg "range"=none)(ha:PA X [a] ta)(hs:starEach [a] X.env=[(false,eval a X.env)]:=by rfl):PE X (.Call (.Name "range" p) [a] [] pos) (zmM ta):=by
 intro pins s σ H Q I h
 refine Call_ (jT I hg hm boot_range (PyProof.Rows.callWith_type1 (thn (ha pos pins s σ H _ I h) fun us s1 ⟨vs,H1,I1,r1,q1⟩=>?_) hs rfl))
 obtain ⟨j,e,q1,q2,q⟩:=q1
 subst e
 cases r1 with
 | cons r rr=>
  cases rr
  obtain ⟨t,rfl⟩:=r
  exact call_range_1 ⟨.ref s1.heap.objs.size,_,I1.laid (o:=.rng 0 j) (fun b o e=>Heap.get?_push_of_some _ e) (Nat.le_refl _) ⟨_,_,_,Heap.get?_push_size _ rfl⟩,rfl,q _ (I1.hok.fresh (Nat.le_refl _))⟩
noncomputable def zhR:List V->Hp->VK->Prop:=fun xs H Q=>∃ r lo hi,xs=[.ref r]/\H r=some (.rng lo hi)/\(-(2 ^ 62)≤lo/\lo<2 ^ 62/\-(2 ^ 62)≤hi/\hi<2 ^ 62)/\(hi - lo).toNat≤100000/\∀ l,H l=none->Q (.ref l) (upd H l (.lst (zdH lo (hi - lo).toNat)))
theorem zji(hc:X.calm=true):CallR X (.type "list") zhR:=by
 intro pins s σ H vs us Q I r q
 obtain ⟨a,lo,hi,e,ha,⟨h1,h2,h3,h4⟩,h5,q⟩:=q
 subst e
 cases r with
 | cons r rr=>
  cases rr
  cases r
  obtain ⟨t,u,v,e⟩:=I.hok a _ ha
  refine call_list_range (n:=(hi - lo).toNat) (I.ok.hd hc) (show IsRange s.heap a lo hi 1 t u v from e) (small_one h1 h2 h3 h4) (by rw [rangeSize_one];split<;>omega) (by omega) fun h' tk acc' c' hk hS hacc=>?_
  refine ⟨.ref s.heap.objs.size,_,I.laid (o:=.lst (zdH lo (hi - lo).toNat)) hk (Nat.le_refl _) ⟨by rw [zdG,sizeLine_eq];omega,acc'.toList,c',Vals.of_get (by rw [zdG,← hacc.1];simp) fun i x u hx hu=>?_,by simpa using hS⟩,rfl,q _ (I.hok.fresh (Nat.le_refl _))⟩
  obtain ⟨_,rfl⟩:=zhN hx
  obtain ⟨t,rfl⟩:=hacc.2 i u (by simpa using hu)
  exact ⟨t,by rw [Int.mul_one]⟩
end
end L2
namespace F
open PySem PySem.Spec PyProof.Rows L2
section
variable {X:Cx} {κ:Nat->Option Nat} {G:Hp} {c:Cat} {a b e:Expr} {fs:FA} {pos:Pos}
noncomputable def zge(f:FA):FE:=fun env=>(f env).bind fun ps=>if ps.length≤100000 then some (.lst ps) else none
theorem zhM{K:PySem.W.Frag}{H:Hp}(lo:Int)(n:Nat):Rps K H (j9 lo n) (zdH lo n) []:=by
 unfold j9 zdH
 induction (List.range n) with
 | nil=>exact .nil
 | cons x xs ih=>exact Rps.cons (A:=[]) (.mkI _) ih
theorem zkt{K:PySem.W.Frag}{own:Addr->Option Nat}{H H1:Hp}{Q:VK}{lo hi:Int}(s:Same H H1)(hb : -(2 ^ 62)≤lo/\lo<2 ^ 62/\-(2 ^ 62)≤hi/\hi<2 ^ 62)(hl:(hi - lo).toNat≤100000)
  (k:∀ (v:V) (H':Hp) (A:List Addr),Same H H'->Rp K H' (.lst (j9 lo (hi - lo).toNat)) v A->(Cat.mv []).ok H own A->Q v H'):∀ r,H1 r=none->zhR [.ref r] (upd H1 r (.rng lo hi)) Q:=fun q hq=>
 ⟨q,lo,hi,rfl,zW,hb,hl,fun l hl'=>by
  have hn:H l=none:=by
   cases z:H l with
   | none=>rfl
   | some o=>have:=z0 (o:=.rng lo hi) s (s.free hq) l o z;rw [hl'] at this;cases this
  refine k _ _ [l] (z0 (z0 s (s.free hq)) hn) (.mkL zW (zhM lo _)) ⟨by simp,fun b hb=>?_⟩
  have e:b=l:=by simpa using hb
  subst e
  exact .inl hn⟩
theorem zgy{p p2 pos2:Pos}(hc:X.calm=true)(hg:Gl X "list")(hm:X.mg "list"=none)(hg2:Gl X "range")(hm2:X.mg "range"=none)(ha:VA X κ G c [a] fs)(hs:starEach [a] X.env=[(false,eval a X.env)]:=by rfl)
  (he:starEach [.Call (.Name "range" p2) [a] [] pos2] X.env=[(false,eval (.Call (.Name "range" p2) [a] [] pos2) X.env)]:=by rfl):
  VE X κ G (.mv []) (.Call (.Name "list" p) [.Call (.Name "range" p2) [a] [] pos2] [] pos) (zge (u8 fs)):=
 (zcg (zji hc) hg hm Pv.boot_list (zw (zjW hg2 hm2 ha.1 hs) pa_nil) (he:=he)).imp fun σ H Q hq_=>by
 refine hq_.elim fun own env z I hf k=>?_
 unfold zge u8 at hf
 cases hp:fs env with
 | none=>rw [hp] at hf;cases hf
 | some qs=>
  rw [hp,Option.bind_some] at hf
  refine (.in I hp fun vs H1 A s r _=>?_)
  split at hf
  ·split at hf
   ·rename_i j hj
    rw [Option.bind_some] at hf
    split at hf
    ·rename_i hl
     cases hf
     obtain ⟨v,r',A1,A2,h1,h2,h3,h4⟩:=r.inv
     rw [zdI] at hl
     exact ⟨j,by rw [h1,h4.inv0.1,h3.I.1],hj.1,hj.2,zkt (own:=own) s ⟨by omega,by omega,hj.1,hj.2⟩ (by simpa using hl) (by rw [Int.sub_zero];exact k)⟩
    ·cases hf
   ·cases hf
  ·cases hf
end
theorem VI.free{K:PySem.W.Frag}{κ:Nat->Option Nat}{G:Hp}{own:Addr->Option Nat}{env:En}{σ:St}{H:Hp}(I:VI K κ G own env σ H):VI K (ko []) G (fun _=>none) env σ H:=
 ⟨I.len,fun i p e=>let ⟨v,A,h1,h2,_⟩:=I.slot i p e;⟨v,A,h1,h2,fun _ _ _=>rfl,fun l z=>absurd z (by simp [ko])⟩,fun a l e=>(nomatch e),I.same⟩
theorem zfC{K:PySem.W.Frag}{κ:Nat->Option Nat}{G:Hp}{f:FE}{σ:St}{H:Hp}{Q:VK}(h:tV K κ G (.mv []) f σ H Q):tV K (ko []) G (.mv []) f σ H Q:=by
 obtain ⟨own,env,p,I,hf,k⟩:=h
 exact ⟨fun _=>none,env,p,I.free,hf,fun v H' A s r hc=>k v H' A s r ⟨hc.1,fun a ha=>(hc.2 a ha).imp id fun ⟨_,z,_⟩=>nomatch z⟩⟩
theorem zfz{X:Cx}{κ:Nat->Option Nat}{G:Hp}{e:Expr}{f:FE}(h:VE X (ko []) G (.mv []) e f):VE X κ G (.mv []) e f:=h.imp fun σ H Q q=>zfC q
theorem zjP{X:Cx}{κ:Nat->Option Nat}{G:Hp}{st:Stmt}{f:FE}{tg:TG}(h:PS X st (jF (tV X.K (ko []) G (.mv []) f) tg)):PS X st (jF (tV X.K κ G (.mv []) f) tg):=h.imp fun D σ H q=>zfC q
end F
namespace L2
open PySem PySem.Spec PyProof.Rows
theorem ky:∀ {ns:List Int} {us:List Value},Vals (ns.map V.int) us->IntsAre us ns
 | [],_,h=>by cases h;exact .nil
 | n::ns,_,h=>by
  cases h with
  | cons r rr=>
   obtain ⟨t,rfl⟩:=r
   exact .cons n t (ky rr)
end L2
namespace F
open PySem PySem.Spec PyProof.Rows L2
noncomputable def vw:List PV->Option (List Int)
 | []=>some []
 | .int i::r=>(vw r).map fun ns=>i::ns
 | _=>none
theorem uL:∀ {ps:List PV} {ns:List Int},vw ps=some ns->ps=ns.map PV.int
 | [],ns,h=>by cases h;rfl
 | p::r,ns,h=>by
  cases p<;>first | (cases h;done) | skip
  rename_i i
  unfold vw at h
  cases hr:vw r with
  | none=>rw [hr] at h;cases h
  | some ms=>
   rw [hr] at h;cases h
   rw [uL hr];rfl
@[simp] theorem uk:∀ (ns:List Int),vw (ns.map PV.int)=some ns
 | []=>rfl
 | n::ns=>by rw [List.map_cons,vw,uk ns];rfl
theorem jM{K:PySem.W.Frag}{H:Hp}:∀ {ns:List Int} {xs:List V} {A:List Addr},Rps K H (ns.map PV.int) xs A->xs=ns.map V.int
 | [],_,_,r=>r.inv0.1
 | n::ns,_,_,r=>by
  obtain ⟨v,r',A1,A2,h1,_,h3,h4⟩:=r.inv
  rw [h1,h3.I.1,jM h4];rfl
end F
namespace L2
open PySem PySem.Spec PyProof.Rows
end L2
namespace F
open PySem PySem.Spec PyProof.Rows L2
noncomputable def zjm:List PV->Option (List Bool)
 | []=>some []
 | .bl b::r=>(zjm r).map fun bs=>b::bs
 | _=>none
@[simp] theorem zhq:∀ (bs:List Bool),zjm (bs.map PV.bl)=some bs
 | []=>rfl
 | b::bs=>by rw [List.map_cons,zjm,zhq bs];rfl
noncomputable def zhT(p:PV)(j:Nat)(q:PV):PV:=match p with | .lst ps=>.lst (ps.set j q) | .tup ps=>.tup (ps.set j q) | p=>p
noncomputable def zai:PV->Option (List PV) | .lst ps=>some ps | .tup ps=>some ps | _=>none
section
variable {X:Cx} {κ:Nat->Option Nat} {G:Hp} {c c2:Cat} {f fk fm:FE} {st:Stmt} {O:List Nat}
theorem VI.turnTu{K:PySem.W.Frag}{own:Addr->Option Nat}{env:En}{σ:St}{H:Hp}{i j:Nat}{ps qs:List PV}(hi:i ∈ O)(I:VI K (ko O) G own env σ H)(hl:zA i env=some (.tup ps))(hj:ps[j]?=some (.lst qs)):
  ∃ a xs b ys B,σ[i]?=some (some (.ref a))/\SqT K H a xs/\xs[j]?=some (.ref b)/\xs.length=ps.length/\H b=some (.lst ys)/\Rps K H qs ys B/\b ∉ B/\B.Nodup/\∀ H1 qs' ys' C,Same H H1->Rps K H1 qs' ys' C->C.Nodup->b ∉ C->(∀ d ∈ C,d ∈ B∨H d=none)->
   ∃ own',VI K (ko O) G own' (env.set i (some (.tup (ps.set j (.lst qs'))))) σ (upd H1 b (.lst ys'))/\Ext own H own' (upd H1 b (.lst ys')):=by
 obtain ⟨v,A,hσ,h2,_,h3⟩:=I.slot i _ (wE hl)
 obtain ⟨nd,hB⟩:=h3 i (kq hi)
 obtain ⟨a,xs,rfl,ha,hr⟩:=h2.T
 obtain ⟨l1,l2,rfl,rfl⟩:=zae hj
 obtain ⟨v1,v2,A1,A2,rfl,rfl,r1,r2⟩:=hr.split
 obtain ⟨v,r',A3,A4,rfl,rfl,r3,r4⟩:=r2.inv
 obtain ⟨b,ys,B',rfl,hb,rfl,r5⟩:=r3.L
 have n1:=r1.length
 rw [List.nodup_append,List.nodup_append,List.nodup_cons] at nd
 simp only [List.mem_append,List.mem_cons] at nd hB
 obtain ⟨nd1,⟨⟨nbB,ndB⟩,nd4,d34⟩,d1⟩:=nd
 refine ⟨a,_,b,ys,B',hσ,ha,by rw [n1];simp,hr.length.symm,hb,r5,nbB,ndB,fun H1 qs' ys' C s1 rC ndC nbC hC=>?_⟩
 have mb:MutH H1 b:=.inl ⟨ys,s1 _ _ hb⟩
 have nb1:b ∉ A1:=fun z=>d1 b z b (.inl (.inl rfl)) rfl
 have nb4:b ∉ A4:=fun z=>d34 b (.inl rfl) b z rfl
 have nC:∀ d ∈ C,d ∉ A1/\d ∉ A4:=fun d hd=>by
  rcases hC d hd with z | z
  ·exact ⟨fun e=>d1 d e d (.inl (.inr z)) rfl,fun e=>d34 d (.inr z) d e rfl⟩
  ·refine ⟨fun e=>?_,fun e=>?_⟩
   ·obtain ⟨o,q⟩:=(Rps.mut _ r1 d e).some;rw [z] at q;cases q
   ·obtain ⟨o,q⟩:=(Rps.mut _ r4 d e).some;rw [z] at q;cases q
 have hob:own b=some i:=hB b (.inr (.inl (.inl rfl)))
 have hA:(A1++((b::C)++A4)).Nodup:=by
  rw [List.nodup_append,List.nodup_append,List.nodup_cons]
  simp only [List.mem_append,List.mem_cons]
  refine ⟨nd1,⟨⟨nbC,ndC⟩,nd4,fun d hd d' hd' e=>?_⟩,fun d hd d' hd' e=>?_⟩
  ·subst e
   rcases hd with rfl | hd
   ·exact nb4 hd'
   ·exact (nC d hd).2 hd'
  ·subst e
   rcases hd' with (rfl | hd') | hd'
   ·exact nb1 hd
   ·exact (nC d hd').1 hd
   ·exact d1 d hd d (.inr hd') rfl
 have hown:∀ d ∈ A1++((b::C)++A4),own d=some i∨H d=none:=fun d hd=>by
  simp only [List.mem_append,List.mem_cons] at hd
  rcases hd with hd | (rfl | hd) | hd
  ·exact .inl (hB d (.inl hd))
  ·exact .inl hob
  ·rcases hC d hd with z | z
   ·exact .inl (hB d (.inr (.inl (.inr z))))
   ·exact .inr z
  ·exact .inl (hB d (.inr (.inr hd)))
 rw [zcL]
 have r:Rp K (upd H1 b (.lst ys')) (.tup (l1++.lst qs'::l2)) (.ref a) (A1++((b::C)++A4)):=
  .mkT (mb.tup (Same.tup s1 ha)) ((Rps.upd mb _ nb1 (Rps.same s1 _ r1)).append (Rps.cons (.mkL zW (Rps.upd mb _ nbC rC)) (Rps.upd mb _ nb4 (Rps.same s1 _ r4))))
 have:=I.take (H2:=upd H1 b (.lst ys')) (v:=.ref a) hi (fun m q w D _ _ z hD=>Rp.upd mb q (fun z'=>hD b z' hob) (Rp.same s1 q z)) (fun d u hd z=>by
  rw [zd (by rintro rfl;exact hd hob)];exact s1 d u z) r hA hown
 rw [kZ hσ] at this
 exact ⟨_,this⟩
theorem VI.inner{K:PySem.W.Frag}{own:Addr->Option Nat}{env:En}{σ:St}{H:Hp}{i j:Nat}{p:PV}{ps qs:List PV}(hi:i ∈ O)(I:VI K (ko O) G own env σ H)(hl:zA i env=some p)(hp:zai p=some ps)(hj:ps[j]?=some (.lst qs)):
  ∃ a xs b ys B,σ[i]?=some (some (.ref a))/\(SqL K H a xs∨SqT K H a xs)/\xs[j]?=some (.ref b)/\xs.length=ps.length/\H b=some (.lst ys)/\Rps K H qs ys B/\b ∉ B/\B.Nodup/\∀ H1 qs' ys' C,Same H H1->Rps K H1 qs' ys' C->C.Nodup->b ∉ C->(∀ d ∈ C,d ∈ B∨H d=none)->
   ∃ own',VI K (ko O) G own' (env.set i (some (zhT p j (.lst qs')))) σ (upd H1 b (.lst ys'))/\Ext own H own' (upd H1 b (.lst ys')):=by
 cases p<;>first | (cases hp;done) | skip
 ·cases hp
  obtain ⟨a,xs,b,ys,B,h1,h2,h3⟩:=VI.turnTu hi I hl hj
  exact ⟨a,xs,b,ys,B,h1,.inr h2,h3⟩
 ·cases hp
  obtain ⟨a,xs,b,ys,B,h1,h2,h3⟩:=VI.turnIn hi I hl hj
  exact ⟨a,xs,b,ys,B,h1,.inl (SqL.of h2),h3⟩
noncomputable def ziZ(i:Nat)(fk:FE)(m:En->List PV->Option (List PV)):FS:=fun env=>(zA i env).bind fun p=>(fk env).bind fun k=>(zai p).bind fun ps=>match k with
 | .int z=>(ixN ps.length z).bind fun j=>match ps[j]? with
  | some (.lst qs)=>(m env qs).map fun qs'=>.nx (env.set i (some (zhT p j (.lst qs'))))
  | _=>none
 | _=>none
theorem zhe{i:Nat}{m:En->List PV->Option (List PV)}{env:En}{o:Out}(hf:ziZ i fk m env=some o):
  ∃ p ps z j qs qs',zA i env=some p/\fk env=some (.int z)/\zai p=some ps/\ixN ps.length z=some j/\ps[j]?=some (.lst qs)/\m env qs=some qs'/\o=.nx (env.set i (some (zhT p j (.lst qs')))):=by
 unfold ziZ at hf
 replace hf:=Option.bind_eq_some_iff.mp hf;obtain ⟨p,hl,hf⟩:=hf
 replace hf:=Option.bind_eq_some_iff.mp hf;obtain ⟨kk,hk,hf⟩:=hf
 replace hf:=Option.bind_eq_some_iff.mp hf;obtain ⟨ps,hp,hf⟩:=hf
 split at hf
 case h_2=>cases hf
 rename_i z
 replace hf:=Option.bind_eq_some_iff.mp hf;obtain ⟨j,hj,hf⟩:=hf
 split at hf
 case h_2=>cases hf
 rename_i qs hqs
 cases hm:m env qs with
 | none=>rw [hm] at hf;cases hf
 | some qs'=>
  rw [hm] at hf;cases hf
  exact ⟨p,ps,z,j,qs,qs',hl,hk,hp,hj,hqs,hm,rfl⟩
theorem zly{K:PySem.W.Frag}{H:Hp}{a b:Addr}{xs:List V}{z:Int}{j n:Nat}{Q:VK}(hx:SqL K H a xs∨SqT K H a xs)(hn:xs.length=n)(hj:ixN n z=some j)(hb:xs[j]?=some (.ref b))(q:Q (.ref b) H):rIx K (.ref a) (.int z) H Q:=by
 have:L2.atI xs z=some (.ref b):=by unfold L2.atI;rw [hn,hj];exact hb
 rcases hx with hx | hx
 ·exact .inl ⟨a,xs,z,_,rfl,rfl,hx,this,q⟩
 ·exact .inr (.inl ⟨a,xs,z,_,rfl,rfl,hx,this,q⟩)
theorem zjF{K:PySem.W.Frag}{H H1:Hp}{a:Addr}{xs:List V}(s:Same H H1)(hx:SqL K H a xs∨SqT K H a xs):SqL K H1 a xs∨SqT K H1 a xs:=hx.imp (Same.seq s) (Same.tup s)
noncomputable def zag(f:FE):En->List PV->Option (List PV):=fun env qs=>(f env).bind fun q=>if qs.length<100000 then some (qs++[q]) else none
theorem zdw(i:Nat)(hi:i ∈ O)(hp:PS X st (zax (tBM X.K "list" kd (tOp (rIx X.K) (vg i) (tV X.K (ko O) G c fk)) (kY (tV X.K (ko O) G (.mv []) f) zcJ)))):VS X (ko O) G st (ziZ i fk (zag f)):=hp.imp fun D σ H hq_=>by
 refine hq_.elim fun own env o I hf k=>?_
 obtain ⟨p,ps,z,j,qs,qs',hl,hk,hit,hj,hqs,hm,rfl⟩:=zhe hf
 unfold zag at hm
 replace hm:=Option.bind_eq_some_iff.mp hm;obtain ⟨q,hq,hm⟩:=hm
 split at hm
 case isFalse=>cases hm
 rename_i hlen
 cases hm
 obtain ⟨a,xs,b,ys,B,hσ,ha,hx,hxl,hb,hr,nb,ndB,turn⟩:=VI.inner hi I hl hit hqs
 refine ⟨.ref a,hσ,.in I hk fun y H1 _ s1 r1 _=>?_⟩
 rw [r1.I.1]
 refine zly (zjF s1 ha) hxl hj hx ⟨.inl ⟨rfl,ys,SqL.of (s1 _ _ hb)⟩,.in (I.grow s1) hq fun v H2 C s2 r2 c2=>?_⟩
 have s12:=s1.trans s2
 refine ⟨b,ys,v,rfl,rfl,s12 _ _ hb,by rw [← hr.length,sizeLine_eq];omega,?_⟩
 have fr:∀ d ∈ C,H1 d=none:=fun d hd=>(c2.2 d hd).elim id fun ⟨_,z,_⟩=>nomatch z
 have fr0:∀ d ∈ C,H d=none:=fun d hd=>s1.free (fr d hd)
 obtain ⟨own',h1,h2⟩:=turn H2 (qs++[q]) (ys++[v]) (B++C) s12 ((Rps.same s12 _ hr).append (Rps.one r2)) (List.nodup_append.mpr ⟨ndB,c2.1,fun d hd d' hd' e=>by
   subst e
   obtain ⟨o,ho⟩:=(Rps.mut _ hr d hd).some
   rw [fr0 d hd'] at ho;cases ho⟩)
  (fun z=>by
   rcases List.mem_append.mp z with z | z
   ·exact nb z
   ·have:=fr0 b z
    rw [hb] at this;cases this)
  (fun d hd=>(List.mem_append.mp hd).imp id (fr0 d))
 exact k _ _ _ h1 h2
end
end F
namespace L2
open PySem PySem.Spec PyProof.Rows
noncomputable def Ite (K : PySem.W.Frag) (a : Addr) : It :=
  ⟨fun i H => ∃ xs x, SqL K H a xs ∧ xs[i]? = some x,
   fun i H v H' => ∃ T x, H T = none ∧ v = .ref T ∧ H' = upd H T (.tup [.int (i : Int), x]) ∧ ∀ xs, SqL K H a xs → xs[i]? = some x,
   fun i H => ∃ xs, SqL K H a xs ∧ xs.length ≤ i⟩
theorem zgD{P:Program}{w:World}{K:PySem.W.Frag}{es:List Expr}{k:Nat}{pos:Pos}(a e it:Addr)(hei:e≠it):
  Turn P w K (.Tuple es k pos) (Ite K a) [e,it] e (fun i h=>(∃ old,IsEnum h e it (i:Nat) old)/\h.IsListIter it a i) where
 mem:=by simp
 obj:=by
  rintro i h ⟨⟨old,ge⟩,gi⟩ b hb
  simp only [List.mem_cons,List.not_mem_nil,or_false] at hb
  rcases hb with rfl | rfl
  ·exact ⟨_,ge,fun v z=>nomatch z⟩
  ·obtain ⟨o,ho,_,d⟩:=gi
   exact ⟨o,ho,fun v z=>by rw [d] at z;cases z⟩
 keep:=by
  rintro i h h' ⟨⟨old,ge⟩,gi⟩ kk
  obtain ⟨o,ho,r⟩:=gi
  exact ⟨⟨old,kk e (by simp) _ ge⟩,⟨o,kk it (by simp) o ho,r⟩⟩
 item:=by
  rintro X hP hw hK hc i pins s σ H E I hf ⟨⟨old,ge⟩,gi⟩ ⟨xs,x,hx,ex⟩
  subst hP hw hK
  obtain ⟨its,r1,c1,_⟩:=I.list hx
  obtain ⟨u,hu,ru⟩:=r1.get ex
  have hsq:Sq X.K H true a xs:=hx
  have ne1:a≠e:=hsq.ne I (hf e (by simp))
  have ne2:a≠it:=hsq.ne I (hf it (by simp))
  refine wpAny_pyNext_enum_item ge gi c1.isList (x:=u) (by simpa using hu) hei fun h' ho hit' hT hsz hk=>⟨_,rfl,?_⟩
  refine wpAny_letOwnedTupleGo_enum ho fun h₂ he₂ s₂=>?_
  have hH:H s.heap.objs.size=none:=I.hok.fresh (Nat.le_refl _)
  have nz:s.heap.objs.size≠e:=Nat.ne_of_gt (Heap.lt_size ge)
  have kk:∀ b o,b ∉ [e,it]->s.heap.get? b=some o->h₂.get? b=some o:=fun b o hb q=>by
   simp only [List.mem_cons,List.not_mem_nil,or_false,not_or] at hb
   exact (s₂.2 b hb.1).trans (hk b o hb.1 hb.2 q)
  have T2:h₂.get? s.heap.objs.size=some { cls:=.type "tuple",data:=.seq #[.int (i:Nat) s.toks,u] }:=(s₂.2 _ nz).trans hT
  have I2:=I.turnedLaid (t':=s.toks+1) (h':=h₂) (o':=.tup [.int (i:Int),x]) kk hf (Nat.le_refl _) ⟨by simp [sizeLine],[.int (i:Nat) s.toks,u],.cons ⟨_,rfl⟩ (.cons ru .nil),⟨_,T2,rfl,_,rfl⟩⟩
  refine ⟨.ref s.heap.objs.size,_,I2,rfl,⟨_,x,hH,rfl,rfl,fun xs' h1=>?_⟩,⟨⟨u,by simpa using he₂⟩,hit'.at fun o q=>(s₂.2 it hei.symm).trans q⟩,fun b hb=>?_⟩
  ·rw [I.list_inj h1 hx];exact ex
  ·rw [zd (fun n=>?_)]
   ·exact (hf b hb).1
   ·have:b<s.heap.objs.size:=by
     simp only [List.mem_cons,List.not_mem_nil,or_false] at hb
     rcases hb with rfl | rfl
     ·exact Heap.lt_size ge
     ·obtain ⟨o,q,_⟩:=gi;exact Heap.lt_size q
    exact absurd n (Nat.ne_of_lt this)
 done:=by
  rintro X hP hw hK hc i pins s σ H E I hf ⟨⟨old,ge⟩,gi⟩ ⟨xs,hx,hl⟩
  subst hP hw hK
  obtain ⟨its,r1,c1,_⟩:=I.list hx
  have l1:=r1.length
  refine wpAny_pyNext_enum_end (I.ok.hd hc) ge gi c1.isList (by simpa [← l1] using hl) fun h' hk=>⟨rfl,I.turnedL (t':=s.toks) (L:=[e,it]) (fun b o hb q=>hk b o (fun n=>hb (by simp [n])) q) hf⟩
 self:=fun _ _ _ _ _ st h=>let ⟨⟨_,ge⟩,_⟩:=st;wpAny_pyIter_enum ge h
noncomputable def zla(K:PySem.W.Frag)(ta:TA):TI:=fun σ H R=>ta σ H fun vs H1=>∃ a,vs=[.ref a]/\(∃ xs,SqL K H1 a xs)/\R (Ite K a) H1
theorem zjU{X:Cx}{es:List Expr}{k:Nat}{tpos:Pos}{a:Expr}{ta:TA}{p pos:Pos}(hg:Gl X "enumerate")(hm:X.mg "enumerate"=none)(ha:PA X [a] ta)(hs:starEach [a] X.env=[(false,eval a X.env)]:=by rfl):
  PI X (.Tuple es k tpos) (.Call (.Name "enumerate" p) [a] [] pos) (zla X.K ta):=by
 intro pins s σ H R I h
 refine Call_ (jT I hg hm boot_enumerate (PyProof.Rows.callWith_type1 (thn (ha pos pins s σ H _ I h) fun us s1 ⟨vs,H1,I1,r1,q1⟩=>?_) hs rfl))
 obtain ⟨a1,e,⟨xs,hx⟩,q⟩:=q1
 subst e
 cases r1 with
 | cons r rr=>
  cases rr
  cases r
  obtain ⟨its1,v1,c1,_⟩:=I1.list hx
  refine call_enumerate_list c1.isList fun h' ge gi hsz kk=>?_
  refine wpAny_pyIter_enum ge ?_
  refine ⟨s1.heap.objs.size+1,[s1.heap.objs.size+1,s1.heap.objs.size],_,_,H1,rfl,I1.kept (t':=s1.toks) kk,zgD a1 _ _ (by show ¬ s1.heap.objs.size+1=s1.heap.objs.size;omega),⟨⟨_,ge⟩,gi⟩,fun c hc=>?_,q⟩
  have hc':s1.heap.objs.size≤c:=by
   simp only [List.mem_cons,List.not_mem_nil,or_false] at hc
   rcases hc with rfl | rfl<;>omega
  exact I1.fpOk hc' (I1.hok.fresh hc')
end L2
namespace F
open PySem PySem.Spec PyProof.Rows L2
noncomputable def zmV:PV->Option (List PV) | .lst ps=>some ps | .fls ps=>some ps | _=>none
noncomputable def k8(ps:List PV):List PV:=ps.zipIdx.map fun z=>PV.tup [.int (z.2:Int),z.1]
theorem ziy{K:PySem.W.Frag}{own:Addr->Option Nat}{H1:Hp}{p:PV}{v:V}{A:List Addr}{ps:List PV}(lp:Bool)(hm:∀ a l,own a=some l->MutH H1 a)(r:Rp K H1 p v A)(hA:∀ a ∈ A,own a=none)(hs:zmV p=some ps):
  ∃ a xs B,v=.ref a/\Rps K H1 ps xs B/\(∀ a ∈ B,own a=none/\∃ o,H1 a=some o)/\∀ H2,(if lp=true then Stay own H1 H2 else Same H1 H2)->SqL K H2 a xs/\Rps K H2 ps xs B:=by
 cases p<;>first | (cases hs;done) | skip
 ·cases hs
  obtain ⟨a,xs,B,h1,h2,rfl,h3⟩:=r.L
  refine ⟨a,xs,B,h1,h3,fun b hb=>⟨hA b (List.mem_cons_of_mem _ hb),(Rps.mut _ h3 b hb).some⟩,fun H2 hR=>?_⟩
  cases lp with
  | true=>exact ⟨SqL.of (hR _ _ (hA a List.mem_cons_self) h2),Rps.stay hR hm _ (fun b hb=>hA b (List.mem_cons_of_mem _ hb)) h3⟩
  | false=>exact ⟨SqL.of (hR _ _ h2),Rps.same hR _ h3⟩
 ·cases hs
  obtain ⟨a,xs,h1,h2,h3⟩:=r.Fl
  refine ⟨a,xs,A,h1,h3,fun b hb=>⟨hA b hb,(Rps.mut _ h3 b hb).some⟩,fun H2 hR=>?_⟩
  cases lp with
  | true=>exact ⟨(Stay.fz hR hm h2).seq,Rps.stay hR hm _ hA h3⟩
  | false=>exact ⟨(h2.same hR).seq,Rps.same hR _ h3⟩
theorem zjx{K:PySem.W.Frag}{own:Addr->Option Nat}{H1:Hp}{R:Hp->Prop}{a1:Addr}{ps:List PV}{xs:List V}{A:List Addr}
  (hA:∀ a ∈ A,own a=none/\∃ o,H1 a=some o)(h1:∀ H2,R H2->SqL K H2 a1 xs/\Rps K H2 ps xs A):Walks K own H1 R (Ite K a1) (k8 ps):=by
 intro i H2 hR
 obtain ⟨q1,r1⟩:=h1 H2 hR
 refine ⟨fun p hp=>?_,fun hi=>⟨xs,q1,by rw [← r1.length];simpa [k8] using hi⟩⟩
 unfold k8 at hp
 rw [List.getElem?_map] at hp
 obtain ⟨z,hz,hp⟩:=Option.map_eq_some_iff.mp hp
 subst hp
 rw [List.getElem?_zipIdx] at hz
 obtain ⟨p,z1,rfl⟩:=Option.map_eq_some_iff.mp hz
 obtain ⟨u,C,e1,e2,e3⟩:=r1.get z1
 refine ⟨⟨xs,u,q1,e1⟩,fun x H3 ⟨T,x',hT,ex,eH,hy⟩=>?_⟩
 have g1:=hy xs q1
 rw [e1] at g1;cases g1
 have sm:Same H2 H3:=by rw [eH];exact z0 (Same.refl _) hT
 refine ⟨sm,C,?_,fun a ha=>hA a (e3.subset ha)⟩
 rw [ex]
 refine .mkT (.inl (.inl (by rw [eH,zW]))) ?_
 have:=Rps.cons (K:=K) (H:=H3) (.mkI (((0+i:Nat)):Int)) (Rps.one (Rp.same sm _ e2))
 simpa using this
end F
namespace L2
open PySem PySem.Spec PyProof.Rows
theorem uT:∀ {ns:List Int} {us:List Value},IntsAre us ns->Vals (ns.map V.int) us
 | _,_,.nil=>.nil
 | _,_,.cons n t r=>.cons ⟨t,rfl⟩ (uT r)
section
variable {X:Cx}
theorem call_sortL:CallR X (.builtin "sorted") (fun xs H Q=>∃ p,∃ ns:List Int,xs=[.ref p]/\SqL X.K H p (ns.map V.int)/\ns.length<64/\∀ (ns':List Int) l,ns'.Perm ns->ns'.Pairwise (·≤·)->H l=none->Q (.ref l) (upd H l (.lst (ns'.map V.int)))):=by
 intro pins s σ H vs us Q I r q
 obtain ⟨p,ns,e,hs,hlen,q⟩:=q
 subst e
 cases r with
 | cons r rr=>
  cases rr
  cases r
  obtain ⟨its,rv,hl,_⟩:=I.list hs
  have hlen':its.length<64:=by rw [← rv.length,List.length_map];exact hlen
  refine sorted_ints hl.isList (ky rv) hlen' fun out ns' a1 a2 a3=>?_
  obtain ⟨e,he⟩:=sortedAll_at s.heap its out
  have hn:=I.hok.fresh (a:=s.heap.objs.size+1) (Nat.le_succ _)
  exact ⟨.ref (s.heap.objs.size+1),_,I.laid (o:=.lst (ns'.map V.int)) (t':=s.toks) (fun _ _=>sortedAll_old) (Nat.le_succ _) ⟨by rw [List.length_map,a2.length_eq,sizeLine_eq];omega,out.toList,e,uT a1,by simpa [seqObj] using he⟩,rfl,q ns' _ a2 a3 hn⟩
end
end L2
namespace F
open PySem PySem.Spec PyProof.Rows L2
noncomputable def zfb(a:Int):List Int->List Int
 | []=>[a]
 | b::r=>if a≤b then a::b::r else b::zfb a r
noncomputable def vQ(ns:List Int):List Int:=ns.foldr zfb []
theorem qV(a:Int):∀ l,(zfb a l).Perm (a::l)
 | []=>.refl _
 | b::r=>by
  unfold zfb
  split
  ·exact .refl _
  ·exact ((qV a r).cons b).trans (.swap a b r)
theorem qu(a:Int):∀ l,l.Pairwise (·≤·)->(zfb a l).Pairwise (·≤·)
 | [],_=>by simp [zfb]
 | b::r,h=>by
  unfold zfb
  have h':=List.pairwise_cons.mp h
  split
  ·rename_i c
   refine List.pairwise_cons.mpr ⟨fun x hx=>?_,h⟩
   rcases List.mem_cons.mp hx with rfl | hx
   ·exact c
   ·have:=h'.1 x hx;omega
  ·rename_i c
   refine List.pairwise_cons.mpr ⟨fun x hx=>?_,qu a r h'.2⟩
   rcases List.mem_cons.mp ((qV a r).mem_iff.mp hx) with rfl | hx
   ·omega
   ·exact h'.1 x hx
theorem wt:∀ ns:List Int,(vQ ns).Perm ns
 | []=>.refl _
 | n::ns=>(qV n (vQ ns)).trans ((wt ns).cons n)
theorem xm:∀ ns:List Int,(vQ ns).Pairwise (·≤·)
 | []=>.nil
 | n::ns=>qu n _ (xm ns)
theorem qJ:∀ {xs ys:List Int},xs.Perm ys->xs.Pairwise (·≤·)->ys.Pairwise (·≤·)->xs=ys
 | [],ys,p,_,_=>(List.nil_perm.mp p).symm
 | x::xs,ys,p,hx,hy=>by
  cases ys with
  | nil=>exact absurd p.length_eq (by simp)
  | cons y ys=>
   have hx':=List.pairwise_cons.mp hx
   have hy':=List.pairwise_cons.mp hy
   have e:x=y:=by
    have h1:y≤x:=by
     rcases List.mem_cons.mp (p.mem_iff.mp List.mem_cons_self) with z | z
     ·omega
     ·exact hy'.1 x z
    have h2:x≤y:=by
     rcases List.mem_cons.mp (p.mem_iff.mpr List.mem_cons_self) with z | z
     ·omega
     ·exact hx'.1 y z
    omega
   subst e
   rw [qJ (List.Perm.cons_inv p) hx'.2 hy'.2]
noncomputable def kW:List PV->Option PV
 | [.lst ps]=>match vw ps with | some ns=>if ns.length<64 then some (.lst ((vQ ns).map PV.int)) else none | _=>none
 | _=>none
theorem w9{K:PySem.W.Frag}{H:Hp}:∀ ns:List Int,Rps K H (ns.map PV.int) (ns.map V.int) []
 | []=>.nil
 | n::ns=>Rps.cons (A:=[]) (.mkI n) (w9 ns)
theorem zhl{K:PySem.W.Frag}:j2 K (fun xs H Q=>∃ p,∃ ns:List Int,xs=[.ref p]/\SqL K H p (ns.map V.int)/\ns.length<64/\∀ (ns':List Int) l,ns'.Perm ns->ns'.Pairwise (·≤·)->H l=none->Q (.ref l) (upd H l (.lst (ns'.map V.int)))) kW:=by
 intro H ps vs A z Q r e k
 unfold kW at e
 split at e
 ·split at e
  ·rename_i qs ns hi
   split at e
   ·rename_i hlen
    cases e
    have:=uL hi
    subst this
    obtain ⟨v,rfl,rv⟩:=yy r
    obtain ⟨a,ys,B,e1,h1,_,g⟩:=rv.L
    have:=jM g
    subst this
    refine ⟨a,ns,by rw [e1],SqL.of h1,hlen,fun ns' l hp hs hl=>?_⟩
    rw [qJ (hp.trans (wt ns).symm) hs (xm ns)]
    exact k _ _ [l] (z0 (Same.refl _) hl) (.mkL zW (w9 _)) (by simp) (by simpa using hl)
   ·cases e
  ·cases e
 ·cases e
theorem zan{K:PySem.W.Frag}{H:Hp}:∀ {ks:List Key} {ps:List PV} {xs:List V} {A:List Addr} {k:Key},Rps K H ps xs A->ks.length=ps.length->u0 ks ps k=none->wU (ks.zip xs) k=none
 | [],_,_,_,_,_,_,_=>by simp [wU]
 | k'::ks,[],_,_,_,_,hl,_=>by simp at hl
 | k'::ks,q::ps,_,_,k,r,hl,h=>by
  obtain ⟨w,r',A1,A2,rfl,rfl,h3,h4⟩:=r.inv
  unfold u0 at h
  rw [List.zip_cons_cons,List.find?_cons] at h
  by_cases hk:k'=k
  ·subst hk
   simp at h
  ·have:decide (k'=k)=false:=decide_eq_false hk
   rw [show decide ((k',q).1=k)=false from this] at h
   have g1:=zan (ks:=ks) (k:=k) h4 (by simpa using hl) h
   rw [List.zip_cons_cons]
   unfold wU at g1 ⊢
   rw [List.find?_cons,show decide ((k',w).1=k)=false from this]
   exact g1
noncomputable def wz:PV->Option Key | .int i=>some (.inl i) | .str x=>some (.inr x) | _=>none
theorem kr{K:PySem.W.Frag}{H:Hp}{p:PV}{v:V}{A:List Addr}{k:Key}(h:wz p=some k)(r:Rp K H p v A):v=kV k:=by
 cases p<;>first | (cases h;done) | skip
 ·cases h;exact r.I.1
 ·cases h;exact r.S.1
noncomputable def zjC(d k x:PV):Option PV:=match d with
 | .dct ks ps=>if (isDatas ps && zl x)=true then (wz k).map fun key=>(u0 ks ps key).getD x else none
 | _=>none
noncomputable def zkE(fd fk fx:FE):FE:=fun env=>(fd env).bind fun d=>(fk env).bind fun k=>(fx env).bind fun x=>zjC d k x
theorem zml{K:PySem.W.Frag}{H:Hp}{ks:List Key}{ps:List PV}{xs:List V}{a:Addr}{key:Key}{x:PV}{w:V}(hl:ks.length=ps.length)(hd:isDatas ps=true)(ha:H a=some (.dK (ks.zip xs)))(r:Rps K H ps xs [])(rx:Rp K H x w []):
  ∃ o,DGet H a (kV key) o/\Rp K H ((u0 ks ps key).getD x) (o.getD w) []:=by
 refine ⟨_,DGet.k ha,?_⟩
 cases hg:u0 ks ps key with
 | none=>rw [zan r hl hg];exact rx
 | some p=>
  obtain ⟨v,C,h1,h2,h3⟩:=kQ r hg
  have:=List.sublist_nil.mp h3
  subst this
  rw [h1]
  exact h2
section
variable {X:Cx} {κ:Nat->Option Nat} {G:Hp} {c c1 c2:Cat} {o e f:Expr} {fd fk fx:FE} {apos cpos:Pos}
theorem zfy(hu:X.A.units+1<cLine)(ho:VE X κ G c o fd)(he:VE X κ G c1 e fk)(hf:VE X κ G c2 f fx)(m:M2 X o "get" apos e f cpos):VE X κ G (.mv []) (.Call (.Attribute o "get" apos) [e,f] [] cpos) (zkE fd fk fx):=
 (zdK hu ho he hf m).imp fun σ H Q hq_=>by
 refine hq_.elim fun own env z I h k=>?_
 unfold zkE at h
 replace h:=Option.bind_eq_some_iff.mp h;obtain ⟨d,hd,h⟩:=h
 replace h:=Option.bind_eq_some_iff.mp h;obtain ⟨kk,hk,h⟩:=h
 replace h:=Option.bind_eq_some_iff.mp h;obtain ⟨x,hx,h⟩:=h
 unfold zjC at h
 split at h
 ·rename_i ks ps
  split at h
  ·rename_i hdat
   rw [Bool.and_eq_true] at hdat
   cases hkey:wz kk with
   | none=>rw [hkey] at h;cases h
   | some key=>
    rw [hkey] at h;cases h
    refine (.in I hd fun v H1 A s1 r1 _=>?_)
    obtain ⟨a,ys,B,e1,h1,hl,_,g⟩:=r1.D
    have:=Rps.data _ hdat.1 g
    subst this
    refine ⟨a,e1,.inl ⟨_,.inl h1⟩,.in (I.grow s1) hk fun y H2 _ s2 r2 _=>(.in ((I.grow s1).grow s2) hx fun w H3 A3 s3 r3 _=>?_)⟩
    have eA:=Rp.data x hdat.2 r3
    subst eA
    have s23:=s2.trans s3
    obtain ⟨ov,q1,q2⟩:=zml (key:=key) hl hdat.1 (s23 _ _ h1) (Rps.same s23 _ g) r3
    rw [kr hkey r2]
    exact ⟨ov,q1,k _ H3 [] (s1.trans s23) q2 ⟨.nil,by simp⟩⟩
  ·cases h
 ·cases h
end
end F
namespace L2
open PySem PySem.Spec PyProof.Rows
noncomputable abbrev itT(h:Heap)(l:Addr):Heap:=h.push { cls:=.type "tuple_iterator",data:=.fields #[.ref l,.int 0 0] }
noncomputable abbrev enT(h:Heap)(l:Addr):Heap:=(itT h l).push { cls:=.type "enumerate",data:=.fields #[.none,.bool false,.ref h.objs.size,rawInt 0,.none,.none] }
theorem zeU(l:Addr)(zs:Array Value)(m:Nat)(dd:Option Addr)(ss:Array (Option Value)):
  Meets (Builtin.«enumerate.__new__» ⟨[.type "enumerate",.ref l],[]⟩) (fun _ R s=>s.heap.get? l=some { cls:=.type "tuple",dict:=dd,data:=.seq zs m,slots:=ss }/\R (.ok (.ret (.ref (itT s.heap l).objs.size))) { s with heap:=enT s.heap l }):=
 .of_wp fun P w A R s hz=>by
  obtain ⟨hp,gg,dr,tk,os⟩:=s
  obtain ⟨hl,hz⟩:=hz
  have sub:=sub_enumerate
  have hT:Heap.IsTuple (Shared.heap ⟨hp,gg,dr,tk,os⟩) l zs:=⟨_,hl,rfl,m,rfl⟩
  wp_walk using AutoSeq1.wpAny_loadPart' hl
  refine wpAny_stack_any fun st=>wpAny_pure ?_
  split
  ·rename_i c _ _ _ _ _
   cases (c == Value.type "enumerate")<;>(wp_walk using AutoSeq1.wpAny_loadPart' hl,wpAny_pyIter_tuple hT;exact ⟨_,rfl,hz⟩)
  ·wp_walk using AutoSeq1.wpAny_loadPart' hl,wpAny_pyIter_tuple hT
   exact ⟨_,rfl,hz⟩
theorem zfm{prog:Program}{w:World}{A:Around}{E:Value->Shared->Prop}{s:Shared}{l:Addr}{zs:Array Value}{Q:Value->Shared->Prop}(hT:s.heap.IsTuple l zs)
  (k:∀ h',IsEnum h' (s.heap.objs.size+1) s.heap.objs.size 0 .none->h'.IsTupleIter s.heap.objs.size l 0->(∀ b o,s.heap.get? b=some o->h'.get? b=some o)->Q (.ref (s.heap.objs.size+1)) { s with heap:=h' }):
  wpAny (model prog w) A (call (.type "enumerate") [.ref l]) Q E s:=by
 obtain ⟨⟨c,dd,dt,ss⟩,hl,hc,m,hd⟩:=hT
 replace hc:c=.type "tuple":=hc
 replace hd:dt=.seq zs m:=hd
 subst hc hd
 refine callType_new F.called_enumerate (by decide) (F.typeCall_enumerate_1 _) (F.newCall_enumerate_1 _) (fun o=>F.args_object_init_2 o _) F.entry_enumerate_new (zeU l zs m dd ss) ⟨hl,?_⟩
 have z1:(itT s.heap l).objs.size=s.heap.objs.size+1:=Heap.size_push ..
 show _/\_
 rw [z1]
 have he:IsEnum (enT s.heap l) (s.heap.objs.size+1) s.heap.objs.size 0 .none:=by
  have e:=Heap.get?_push_size (itT s.heap l) (o:={ cls:=.type "enumerate",data:=.fields #[.none,.bool false,.ref s.heap.objs.size,rawInt 0,.none,.none] }) rfl
  rw [z1] at e;exact e
 exact ⟨⟨_,he,rfl⟩,k _ he ⟨_,Heap.get?_push_of_some _ (Heap.get?_push_size _ rfl),rfl,rfl⟩ fun b o x=>Heap.get?_push_of_some _ (Heap.get?_push_of_some _ x)⟩
theorem zhf{P:Program}{w:World}{A:Around}{it c:Addr}{its:Array Value}(hh:A.handled=none)(hne:c≠it):
  Draws P w A it [it,c] its.size (fun i x=>its[i]?=some x) (fun i h=>h.IsTupleIter it c i/\h.IsTuple c its) where
 live:=fun i h ⟨⟨o,e,_⟩,_⟩=>⟨o,e⟩
 frame:=fun i h h' ⟨⟨o,e,r⟩,⟨o',e',r'⟩⟩ k=>⟨⟨o,k it (by simp) o e,r⟩,⟨o',k c (by simp) o' e',r'⟩⟩
 item:=fun i s Q E hi ⟨gi,gt⟩ k=>zaR gi gt (x:=its[i]) (Array.getElem?_eq_getElem hi) fun h' gi' sb=>k _ h' s.toks (Array.getElem?_eq_getElem hi) ⟨gi',let ⟨o,e,r⟩:=gt;⟨o,(sb.2 c hne).trans e,r⟩⟩ sb
 done:=fun s Q E ⟨gi,gt⟩ k=>ww hh gi gt (by simp) k
theorem zhg{P:Program}{w:World}{A:Around}{it c:Addr}{its:Array Value}{n:Nat}(hh:A.handled=none)(hx:its[n]?=none):
  Draws P w A it [it,c] n (fun _ _=>False) (fun i h=>i=n/\h.IsTupleIter it c i/\h.IsTuple c its) where
 live:=fun i h ⟨_,⟨o,e,_⟩,_⟩=>⟨o,e⟩
 frame:=fun i h h' ⟨q,⟨o,e,r⟩,⟨o',e',r'⟩⟩ k=>⟨q,⟨o,k it (by simp) o e,r⟩,⟨o',k c (by simp) o' e',r'⟩⟩
 item:=fun i s Q E hi ⟨q,_⟩ k=>absurd hi (by omega)
 done:=fun s Q E ⟨_,gi,gt⟩ k=>ww hh gi gt hx k
noncomputable def zmB (K : PySem.W.Frag) (a : Addr) : It :=
  ⟨fun i H => ∃ xs x, SqT K H a xs ∧ xs[i]? = some x,
   fun i H v H' => ∃ T x, H T = none ∧ v = .ref T ∧ H' = upd H T (.tup [.int (i : Int), x]) ∧ ∀ xs, SqT K H a xs → xs[i]? = some x,
   fun i H => ∃ xs, SqT K H a xs ∧ xs.length ≤ i⟩
theorem zeA{P:Program}{w:World}{K:PySem.W.Frag}{es:List Expr}{k:Nat}{pos:Pos}(a e it:Addr)(hei:e≠it):
  Turn P w K (.Tuple es k pos) (zmB K a) [e,it] e (fun i h=>(∃ old,IsEnum h e it (i:Nat) old)/\h.IsTupleIter it a i) where
 mem:=by simp
 obj:=by
  rintro i h ⟨⟨old,ge⟩,gi⟩ b hb
  simp only [List.mem_cons,List.not_mem_nil,or_false] at hb
  rcases hb with rfl | rfl
  ·exact ⟨_,ge,fun v z=>nomatch z⟩
  ·obtain ⟨o,ho,_,d⟩:=gi
   exact ⟨o,ho,fun v z=>by rw [d] at z;cases z⟩
 keep:=by
  rintro i h h' ⟨⟨old,ge⟩,gi⟩ kk
  obtain ⟨o,ho,r⟩:=gi
  exact ⟨⟨old,kk e (by simp) _ ge⟩,⟨o,kk it (by simp) o ho,r⟩⟩
 item:=by
  rintro X hP hw hK hc i pins s σ H E I hf ⟨⟨old,ge⟩,gi⟩ ⟨xs,x,hx,ex⟩
  subst hP hw hK
  have hsq:Sq X.K H false a xs:=hx
  obtain ⟨its,r1,c1⟩:=hsq.at I
  replace c1:s.heap.IsTuple a its.toArray:=c1
  obtain ⟨u,hu,ru⟩:=r1.get ex
  have ne1:a≠e:=hsq.ne I (hf e (by simp))
  have ne2:a≠it:=hsq.ne I (hf it (by simp))
  have hil:i<its.toArray.size:=by
   have:=(List.getElem?_eq_some_iff.mp hu).1
   simpa using this
  refine wpAny_pyNext_enum_itemD (zhf (I.ok.hd hc) ne2) ge ⟨gi,c1⟩ hil hei (by simp [hei,ne1.symm]) fun x' h' tk hx' ho hit' hT hsz hk=>⟨_,rfl,?_⟩
  have exu:x'=u:=by
   have h1:its[i]?=some x':=by simpa using hx'
   rw [hu] at h1;exact (Option.some.inj h1).symm
  subst exu
  refine wpAny_letOwnedTupleGo_enum ho fun h₂ he₂ s₂=>?_
  have hH:H s.heap.objs.size=none:=I.hok.fresh (Nat.le_refl _)
  have nz:s.heap.objs.size≠e:=Nat.ne_of_gt (Heap.lt_size ge)
  have kk:∀ b o,b ∉ [e,it]->s.heap.get? b=some o->h₂.get? b=some o:=fun b o hb q=>by
   simp only [List.mem_cons,List.not_mem_nil,or_false,not_or] at hb
   exact (s₂.2 b hb.1).trans (hk b o hb.1 hb.2 q)
  have T2:h₂.get? s.heap.objs.size=some { cls:=.type "tuple",data:=.seq #[.int (i:Nat) tk,x'] }:=(s₂.2 _ nz).trans hT
  have I2:=I.turnedLaid (t':=tk+1) (h':=h₂) (o':=.tup [.int (i:Int),x]) kk hf (Nat.le_refl _) ⟨by simp [sizeLine],[.int (i:Nat) tk,x'],.cons ⟨_,rfl⟩ (.cons ru .nil),⟨_,T2,rfl,_,rfl⟩⟩
  refine ⟨.ref s.heap.objs.size,_,I2,rfl,⟨_,x,hH,rfl,rfl,fun xs' h1=>?_⟩,⟨⟨x',by simpa using he₂⟩,?_⟩,fun b hb=>?_⟩
  ·have h1':Sq X.K H false a xs':=h1
   rw [h1'.inj I hsq];exact ex
  ·obtain ⟨o,q,r⟩:=hit'.1
   exact ⟨o,(s₂.2 it hei.symm).trans q,r⟩
  ·rw [zd (fun n=>?_)]
   ·exact (hf b hb).1
   ·have:b<s.heap.objs.size:=by
     simp only [List.mem_cons,List.not_mem_nil,or_false] at hb
     rcases hb with rfl | rfl
     ·exact Heap.lt_size ge
     ·obtain ⟨o,q,_⟩:=gi;exact Heap.lt_size q
    exact absurd n (Nat.ne_of_lt this)
 done:=by
  rintro X hP hw hK hc i pins s σ H E I hf ⟨⟨old,ge⟩,gi⟩ ⟨xs,hx,hl⟩
  subst hP hw hK
  have hsq:Sq X.K H false a xs:=hx
  obtain ⟨its,r1,c1⟩:=hsq.at I
  replace c1:s.heap.IsTuple a its.toArray:=c1
  have l1:=r1.length
  have ne2:a≠it:=hsq.ne I (hf it (by simp))
  have nx:its.toArray[i]?=none:=by simpa [← l1] using hl
  refine wpAny_pyNext_enum_endD (zhg (c:=a) (I.ok.hd hc) nx) ge ⟨rfl,gi,c1⟩ fun h' hk=>⟨rfl,I.turnedL (t':=s.toks) (L:=[e,it]) (fun b o hb q=>hk b o (fun n=>hb (by simp [n])) q) hf⟩
 self:=fun _ _ _ _ _ st h=>let ⟨⟨_,ge⟩,_⟩:=st;wpAny_pyIter_enum ge h
noncomputable def zmk(K:PySem.W.Frag)(ta:TA):TI:=fun σ H R=>ta σ H fun vs H1=>∃ a,vs=[.ref a]/\(∃ xs,SqT K H1 a xs)/\R (zmB K a) H1
theorem zia{X:Cx}{es:List Expr}{k:Nat}{tpos:Pos}{a:Expr}{ta:TA}{p pos:Pos}(hg:Gl X "enumerate")(hm:X.mg "enumerate"=none)(ha:PA X [a] ta)(hs:starEach [a] X.env=[(false,eval a X.env)]:=by rfl):
  PI X (.Tuple es k tpos) (.Call (.Name "enumerate" p) [a] [] pos) (zmk X.K ta):=by
 intro pins s σ H R I h
 refine Call_ (jT I hg hm boot_enumerate (PyProof.Rows.callWith_type1 (thn (ha pos pins s σ H _ I h) fun us s1 ⟨vs,H1,I1,r1,q1⟩=>?_) hs rfl))
 obtain ⟨a1,e,⟨xs,hx⟩,q⟩:=q1
 subst e
 cases r1 with
 | cons r rr=>
  cases rr
  cases r
  have hsq:Sq X.K H1 false a1 xs:=hx
  obtain ⟨its1,v1,c1⟩:=hsq.at I1
  refine zfm (zs:=its1.toArray) c1 fun h' ge gi kk=>?_
  refine wpAny_pyIter_enum ge ?_
  refine ⟨s1.heap.objs.size+1,[s1.heap.objs.size+1,s1.heap.objs.size],_,_,H1,rfl,I1.kept (t':=s1.toks) kk,zeA a1 _ _ (by show ¬ s1.heap.objs.size+1=s1.heap.objs.size;omega),⟨⟨_,ge⟩,gi⟩,fun c hc=>?_,q⟩
  have hc':s1.heap.objs.size≤c:=by
   simp only [List.mem_cons,List.not_mem_nil,or_false] at hc
   rcases hc with rfl | rfl<;>omega
  exact I1.fpOk hc' (I1.hok.fresh hc')
end L2
namespace F
open PySem PySem.Spec PyProof.Rows L2
noncomputable def zbp(f:FA):FA:=fun env=>(f env).bind fun ps=>match ps with | [p]=>(wW p).map k8 | _=>none
theorem zhv{K:PySem.W.Frag}{own:Addr->Option Nat}{H1:Hp}{R:Hp->Prop}{a1:Addr}{ps:List PV}{xs:List V}{A:List Addr}
  (hA:∀ a ∈ A,own a=none/\∃ o,H1 a=some o)(h1:∀ H2,R H2->SqT K H2 a1 xs/\Rps K H2 ps xs A):Walks K own H1 R (zmB K a1) (k8 ps):=by
 intro i H2 hR
 obtain ⟨q1,r1⟩:=h1 H2 hR
 refine ⟨fun p hp=>?_,fun hi=>⟨xs,q1,by rw [← r1.length];simpa [k8] using hi⟩⟩
 unfold k8 at hp
 rw [List.getElem?_map] at hp
 obtain ⟨z,hz,hp⟩:=Option.map_eq_some_iff.mp hp
 subst hp
 rw [List.getElem?_zipIdx] at hz
 obtain ⟨p,z1,rfl⟩:=Option.map_eq_some_iff.mp hz
 obtain ⟨u,C,e1,e2,e3⟩:=r1.get z1
 refine ⟨⟨xs,u,q1,e1⟩,fun x H3 ⟨T,x',hT,ex,eH,hy⟩=>?_⟩
 have g1:=hy xs q1
 rw [e1] at g1;cases g1
 have sm:Same H2 H3:=by rw [eH];exact z0 (Same.refl _) hT
 refine ⟨sm,C,?_,fun a ha=>hA a (e3.subset ha)⟩
 rw [ex]
 refine .mkT (.inl (.inl (by rw [eH,zW]))) ?_
 have:=Rps.cons (K:=K) (H:=H3) (.mkI (((0+i:Nat)):Int)) (Rps.one (Rp.same sm _ e2))
 simpa using this
theorem zhy{X:Cx}{κ:Nat->Option Nat}{G:Hp}{fs:FA}{a:Expr}{es:List Expr}{k:Nat}{tpos p pos:Pos}(lp:Bool)(hg:Gl X "enumerate")(hm:X.mg "enumerate"=none)(ha:VA X κ G .sh [a] fs)(hs:starEach [a] X.env=[(false,eval a X.env)]:=by rfl):
  VIt X κ G lp (.Tuple es k tpos) (.Call (.Name "enumerate" p) [a] [] pos) (zbp fs):=(zkU (zjU hg hm ha.1 hs) (zia hg hm ha.1 hs)).imp fun σ H R hq_=>by
 refine hq_.elim fun own env ps I hf k=>?_
 unfold zbp at hf
 replace hf:=Option.bind_eq_some_iff.mp hf;obtain ⟨qs,hp,hf⟩:=hf
 split at hf
 case h_2=>cases hf
 rename_i p
 have rf:∀ (lp:Bool) (H1:Hp),(if lp=true then Stay own H1 H1 else Same H1 H1):=fun lp H1=>by
  cases lp with
  | true=>exact fun _ _ _ h=>h
  | false=>exact Same.refl _
 have lst:∀ xs,zmV p=some xs->ps=k8 xs->zla X.K (tVA X.K κ G .sh fs) σ H R:=fun xs e1 e2=>by
  refine (.in I hp fun vs H1 A s r hc=>?_)
  obtain ⟨v,rfl,rv⟩:=yy r
  have hm:∀ a l,own a=some l->MutH H1 a:=fun a l e=>((I.grow s).own a l e).2
  obtain ⟨a1,vs1,B1,w1,w2,w3,w4⟩:=ziy lp hm rv hc e1
  exact ⟨a1,by rw [w1],⟨vs1,(w4 H1 (rf lp H1)).1⟩,k _ H1 s (by rw [e2];exact zjx w3 w4)⟩
 cases p<;>first | cases hf | skip
 ·refine .inr (.in I hp fun vs H1 A s r hc=>?_)
  obtain ⟨v,rfl,rv⟩:=yy r
  have hm:∀ a l,own a=some l->MutH H1 a:=fun a l e=>((I.grow s).own a l e).2
  obtain ⟨a,xs,h1,h2,h3⟩:=rv.T
  refine ⟨a,by rw [h1],⟨xs,h2⟩,k _ H1 s (zhv (xs:=xs) (A:=A) (fun b hb=>⟨hc b hb,(Rps.mut _ h3 b hb).some⟩) fun H2 hR=>?_)⟩
  cases lp with
  | true=>exact ⟨Stay.tup hR hm h2,Rps.stay hR hm _ hc h3⟩
  | false=>exact ⟨Same.tup hR h2,Rps.same hR _ h3⟩
 ·exact .inl (lst _ rfl rfl)
 ·exact .inl (lst _ rfl rfl)
end F
namespace L2
open PySem PySem.Spec PyProof.Rows
section
variable {X:Cx} {pins:List (Addr × Obj)} {σ:St} {H:Hp} {s:Shared} {a:Addr} {kvs:List (Key × V)} {k:Key} {z:V} {u r:Value} {A:Around} {E:Value->Shared->Prop}
theorem zjd{Q:Value->Shared->Prop}(I:Inv X pins σ H s)(e:H a=some (.dK kvs))(ry:RelV (kV k) u)(rz:RelV z r)(hl:kvs.length<sizeLine)
  (h1:∀ v w' s',wU kvs k=some v->Inv X pins σ H s'->RelV v w'->Q w' s')(h2:∀ s',wU kvs k=none->Inv X pins σ (upd H a (.dK (wA kvs k z))) s'->Q r s'):
  wpAny (model X.prog X.w) A (call (.builtin "dict.setdefault") [.ref a,u,r]) Q E s:=by
 obtain ⟨zz,hd,vs,rel,dd⟩:=k9 I.hok e
 have lp:(wA kvs k z).length≤sizeLine:=by have:=vV kvs k z;omega
 refine call_meetsIn PySem.F.slot_dict_setdefault dd.typeIs PySem.F.entry_dict_setdefault (PySem.F.args_dict_setdefault_3 _ _ _) (kt_meets_setdefault (zk X.prog X.w) a (kt ry) hd r)
  ⟨vs,dd,by rw [← rel.length];exact zz,fun v hv=>?_,fun hn h' dd' hs=>?_⟩
 ·have hr:=rel.val k
  rw [hv] at hr
  cases hq:wU kvs k with
  | none=>rw [hq] at hr;cases hr
  | some y=>rw [hq] at hr;exact h1 y v _ hq (I.tok _) hr
 ·have hr:=rel.val k
  rw [hn] at hr
  have hq:wU kvs k=none:=by
   cases hq:wU kvs k with
   | none=>rfl
   | some y=>rw [hq] at hr;cases hr
  have he:∃ q,h'.get? a=some q:=let ⟨q,_,_,hq,_⟩:=dd';⟨q,hq⟩
  exact h2 _ hq (qA I (by rw [e];exact True.intro) hs he (zbt lp hd (rel.put k rz) dd'))
end
noncomputable def zkR(td ty tx:TE):TE:=fun σ H Q=>td σ H fun x H1=>∃ a,x=.ref a/\IsD H1 a/\ty σ H1 fun y H2=>tx σ H2 fun z H3=>∃ kvs k,H3 a=some (.dK kvs)/\y=kV k/\kvs.length<sizeLine/\
 (∀ v,wU kvs k=some v->Q v H3)/\(wU kvs k=none->Q z (upd H3 a (.dK (wA kvs k z))))
theorem zjZ{X:Cx}{o e f:Expr}{apos cpos:Pos}{td ty tx:TE}(ho:PE X o td)(he:PE X e ty)(hf:PE X f tx)(m:M2 X o "setdefault" apos e f cpos):PE X (.Call (.Attribute o "setdefault" apos) [e,f] [] cpos) (zkR td ty tx):=by
 intro pins s σ H Q I h
 refine wpAny_Call_method m.base m.few m.line PySem.F.plainAttrs_dict PySem.F.slot_dict_setdefault PySem.F.type_dict_setdefault (thn (ho pins s σ H _ I h) fun u s1 hq_=>?_)
 obtain ⟨x,H1,I1,rx,a,ex,d,q1⟩:=hq_
 subst ex
 obtain rfl:u=Value.ref a:=rx
 obtain ⟨t1,t2,_⟩:=ziI I1 d
 refine ⟨t1,t2,?_⟩
 rw [m.trees]
 refine Calls.callWith_builtin rfl (Calls.evalArgs_plain (Calls.spliced_cons (thn (he pins s1 σ H1 _ I1 q1) fun iv s2 hq_=>?_)))
 obtain ⟨y,H2,I2,ry,q2⟩:=hq_
 refine Calls.spliced_cons (thn (hf pins s2 σ H2 _ I2 q2) fun fv s3 hq_=>Calls.spliced_nil ?_)
 obtain ⟨z,H3,I3,rz,kvs,k,ea,ey,hl,q3,q4⟩:=hq_
 subst ey
 exact zjd I3 ea ry rz hl (fun v w' s4 hv I4 rw'=>⟨v,H3,I4,rw',q3 v hv⟩) fun s4 hn I4=>⟨z,_,I4,rz,q4 hn⟩
end L2
namespace F
open PySem PySem.Spec PyProof.Rows L2
noncomputable def kIx(ks:List Key)(k:Key):Option Nat:=ks.findIdx? fun x=>decide (x=k)
theorem zdd:∀ {ks:List Key} {xs:List V} (_:ks.length=xs.length) (k:Key),wU (ks.zip xs) k=(kIx ks k).bind fun j=>xs[j]?
 | [],[],_,_=>rfl
 | [],_::_,h,_=>by simp at h
 | _::_,[],h,_=>by simp at h
 | k'::ks,x::xs,h,k=>by
  have ih:=zdd (ks:=ks) (xs:=xs) (by simpa using h) k
  unfold wU kIx at ih ⊢
  rw [List.zip_cons_cons,List.find?_cons,List.findIdx?_cons]
  by_cases e:k'=k
  ·simp [e]
  ·have e1:decide (((k',x):Key × V).1=k)=false:=decide_eq_false e
   have e2:decide (k'=k)=false:=decide_eq_false e
   rw [e1,if_neg Bool.false_ne_true]
   show Option.map _ (List.find? _ _)=_
   rw [ih]
   cases List.findIdx? (fun x=>decide (x=k)) ks<;>simp
theorem zef{ks:List Key}{k:Key}(h:kIx ks k=none):ul ks k=false:=by
 unfold kIx at h
 unfold ul
 rw [List.findIdx?_eq_none_iff] at h
 rw [List.any_eq_false]
 exact fun x hx=>by rw [h x hx];exact Bool.false_ne_true
theorem ziF{ks:List Key}{k:Key}{j:Nat}(h:kIx ks k=some j):j<ks.length:=by
 unfold kIx at h
 obtain ⟨h1,_⟩:=List.findIdx?_eq_some_iff_getElem.mp h
 exact h1
section
variable {X:Cx} {κ:Nat->Option Nat} {G:Hp} {c c1 c2:Cat} {f fk fx fd:FE} {st:Stmt} {O:List Nat}
theorem VI.turnDi{K:PySem.W.Frag}{own:Addr->Option Nat}{env:En}{σ:St}{H:Hp}{i j:Nat}{ks:List Key}{ps qs:List PV}(hi:i ∈ O)(I:VI K (ko O) G own env σ H)(hl:zA i env=some (.dct ks ps))(hj:ps[j]?=some (.lst qs)):
  ∃ a xs b ys B,σ[i]?=some (some (.ref a))/\H a=some (.dK (ks.zip xs))/\xs[j]?=some (.ref b)/\xs.length=ps.length/\ks.length=ps.length/\H b=some (.lst ys)/\Rps K H qs ys B/\b ∉ B/\B.Nodup/\∀ H1 qs' ys' C,Same H H1->Rps K H1 qs' ys' C->C.Nodup->b ∉ C->(∀ d ∈ C,d ∈ B∨H d=none)->
   ∃ own',VI K (ko O) G own' (env.set i (some (.dct ks (ps.set j (.lst qs'))))) σ (upd H1 b (.lst ys'))/\Ext own H own' (upd H1 b (.lst ys')):=by
 obtain ⟨a,xs,B,hσ,ha,hkl,hr,nd,ho,hB⟩:=zbH hi I hl
 obtain ⟨l1,l2,rfl,rfl⟩:=zae hj
 obtain ⟨v1,v2,A1,A2,rfl,rfl,r1,r2⟩:=hr.split
 obtain ⟨v,r',A3,A4,rfl,rfl,r3,r4⟩:=r2.inv
 obtain ⟨b,ys,B',rfl,hb,rfl,r5⟩:=r3.L
 have n1:=r1.length
 rw [List.nodup_cons,List.nodup_append,List.nodup_append,List.nodup_cons] at nd
 simp only [List.mem_append,List.mem_cons,not_or] at nd hB
 obtain ⟨⟨na1,⟨nab,naB⟩,na4⟩,nd1,⟨⟨nbB,ndB⟩,nd4,d34⟩,d1⟩:=nd
 refine ⟨a,_,b,ys,B',hσ,ha,by rw [n1];simp,hr.length.symm,hkl,hb,r5,nbB,ndB,fun H1 qs' ys' C s1 rC ndC nbC hC=>?_⟩
 have mb:MutH H1 b:=.inl ⟨ys,s1 _ _ hb⟩
 have nb1:b ∉ A1:=fun z=>d1 b z b (.inl (.inl rfl)) rfl
 have nb4:b ∉ A4:=fun z=>d34 b (.inl rfl) b z rfl
 have hm:∀ d,(d=a∨d ∈ A1∨d=b∨d ∈ A4)->∃ o,H d=some o:=fun d z=>by
  rcases z with rfl | z | rfl | z
  ·exact ⟨_,ha⟩
  ·exact (Rps.mut _ r1 d z).some
  ·exact ⟨_,hb⟩
  ·exact (Rps.mut _ r4 d z).some
 have nC:∀ d ∈ C,d≠a/\d ∉ A1/\d ∉ A4:=fun d hd=>by
  rcases hC d hd with z | z
  ·exact ⟨fun e=>naB (e ▸ z),fun e=>d1 d e d (.inl (.inr z)) rfl,fun e=>d34 d (.inr z) d e rfl⟩
  ·refine ⟨fun e=>?_,fun e=>?_,fun e=>?_⟩
   ·obtain ⟨o,q⟩:=hm d (.inl e);rw [z] at q;cases q
   ·obtain ⟨o,q⟩:=hm d (.inr (.inl e));rw [z] at q;cases q
   ·obtain ⟨o,q⟩:=hm d (.inr (.inr (.inr e)));rw [z] at q;cases q
 have hob:own b=some i:=hB b (.inr (.inl (.inl rfl)))
 have hA:(a::(A1++((b::C)++A4))).Nodup:=by
  rw [List.nodup_cons,List.nodup_append,List.nodup_append,List.nodup_cons]
  simp only [List.mem_append,List.mem_cons,not_or]
  refine ⟨⟨na1,⟨nab,fun z=>(nC a z).1 rfl⟩,na4⟩,nd1,⟨⟨nbC,ndC⟩,nd4,fun d hd d' hd' e=>?_⟩,fun d hd d' hd' e=>?_⟩
  ·subst e
   rcases hd with rfl | hd
   ·exact nb4 hd'
   ·exact (nC d hd).2.2 hd'
  ·subst e
   rcases hd' with (rfl | hd') | hd'
   ·exact nb1 hd
   ·exact (nC d hd').2.1 hd
   ·exact d1 d hd d (.inr hd') rfl
 have hown:∀ d ∈ a::(A1++((b::C)++A4)),own d=some i∨H d=none:=fun d hd=>by
  simp only [List.mem_append,List.mem_cons] at hd
  rcases hd with rfl | hd | (rfl | hd) | hd
  ·exact .inl ho
  ·exact .inl (hB d (.inl hd))
  ·exact .inl hob
  ·rcases hC d hd with z | z
   ·exact .inl (hB d (.inr (.inl (.inr z))))
   ·exact .inr z
  ·exact .inl (hB d (.inr (.inr hd)))
 rw [zcL]
 have r:Rp K (upd H1 b (.lst ys')) (.dct ks (l1++.lst qs'::l2)) (.ref a) (a::(A1++((b::C)++A4))):=
  .mkD (by rw [zd nab];exact s1 _ _ ha) (by simpa using hkl) ((Rps.upd mb _ nb1 (Rps.same s1 _ r1)).append (Rps.cons (.mkL zW (Rps.upd mb _ nbC rC)) (Rps.upd mb _ nb4 (Rps.same s1 _ r4))))
 have:=I.take (H2:=upd H1 b (.lst ys')) (v:=.ref a) hi (fun m q w D _ _ z hD=>Rp.upd mb q (fun z'=>hD b z' hob) (Rp.same s1 q z)) (fun d u hd z=>by
  rw [zd (by rintro rfl;exact hd hob)];exact s1 d u z) r hA hown
 rw [kZ hσ] at this
 exact ⟨_,this⟩
theorem VI.newK{K:PySem.W.Frag}{own:Addr->Option Nat}{env:En}{σ:St}{H H1:Hp}{i:Nat}{ks:List Key}{ps:List PV}{key:Key}{p:PV}{v:V}{C:List Addr}(hi:i ∈ O)(I:VI K (ko O) G own env σ H)(hl:zA i env=some (.dct ks ps))(hn:ul ks key=false)
  (s:Same H H1)(r:Rp K H1 p v C)(ndC:C.Nodup)(hC:∀ d ∈ C,H d=none):∃ a xs,σ[i]?=some (some (.ref a))/\H a=some (.dK (ks.zip xs))/\xs.length=ks.length/\
   ∃ own',VI K (ko O) G own' (env.set i (some (.dct (ks++[key]) (ps++[p])))) σ (upd H1 a (.dK (wA (ks.zip xs) key v)))/\Ext own H own' (upd H1 a (.dK (wA (ks.zip xs) key v))):=by
 obtain ⟨a,xs,B,hσ,ha,hkl,hr,nd,ho,hB⟩:=zbH hi I hl
 have hxl:=hr.length
 refine ⟨a,xs,hσ,ha,by omega,?_⟩
 have e:wA (ks.zip xs) key v=(ks++[key]).zip (xs++[v]):=by
  rw [zbv (by omega)]
  unfold wY
  rw [hn,if_neg Bool.false_ne_true]
 rw [e]
 have nC:a ∉ C:=fun z=>by rw [hC a z] at ha;cases ha
 have nB:a ∉ B:=(List.nodup_cons.mp nd).1
 have m1:MutH H1 a:=.inr ⟨_,s _ _ ha⟩
 have hnd:(a::(B++C)).Nodup:=by
  rw [← List.cons_append]
  refine List.nodup_append.mpr ⟨nd,ndC,fun x hx y' hy' hxy=>?_⟩
  subst hxy
  have hn:=hC x hy'
  rcases List.mem_cons.mp hx with rfl | hx
  ·exact nC hy'
  ·obtain ⟨o,ho⟩:=(Rps.mut ps hr x hx).some
   rw [hn] at ho;cases ho
 have hBC:∀ b ∈ B++C,own b=some i∨H b=none:=by
  intro b hb
  rcases List.mem_append.mp hb with hb | hb
  ·exact .inl (hB b hb)
  ·exact .inr (hC b hb)
 obtain ⟨h1,h2⟩:=I.turn (p:=.dct (ks++[key]) (ps++[p])) (o:=.dK ((ks++[key]).zip (xs++[v]))) (B:=B++C) hi s hσ ho (.inr ⟨_,ha⟩)
  (.mkD zW (by simp [hkl]) ((Rps.upd m1 ps nB (Rps.same s ps hr)).append (Rps.one (Rp.upd m1 p nC r)))) hnd hBC
 exact ⟨_,h1,h2⟩
noncomputable def zeh(i:Nat)(fk f:FE):FS:=fun env=>(f env).bind fun q=>(zA i env).bind fun l=>(fk env).bind fun k=>match l with
 | .dct ks ps=>(wz k).bind fun key=>if (!ul ks key && decide (ks.length<100000))=true then some (.nx (env.set i (some (.dct (ks++[key]) (ps++[q]))))) else none
 | _=>none
theorem zjz(i:Nat)(hi:i ∈ O)(hp:PS X st (zfG (vg i) (tV X.K (ko O) G c2 fk) (tV X.K (ko O) G (.mv []) f))):VS X (ko O) G st (zeh i fk f):=hp.imp fun D σ H hq_=>by
 refine hq_.elim fun own env o I hf k=>?_
 unfold zeh at hf
 replace hf:=Option.bind_eq_some_iff.mp hf;obtain ⟨q,hq,hf⟩:=hf
 replace hf:=Option.bind_eq_some_iff.mp hf;obtain ⟨l,hl,hf⟩:=hf
 replace hf:=Option.bind_eq_some_iff.mp hf;obtain ⟨kk,hk,hf⟩:=hf
 cases l<;>first | (cases hf;done) | skip
 rename_i ks ps
 dsimp only at hf
 replace hf:=Option.bind_eq_some_iff.mp hf;obtain ⟨key,hkey,hf⟩:=hf
 split at hf
 case isFalse=>cases hf
 rename_i hc
 cases hf
 simp only [Bool.and_eq_true,Bool.not_eq_true',decide_eq_true_eq] at hc
 obtain ⟨a0,xs0,hσ,ha,_,_⟩:=VI.newK (p:=.non) (v:=.non) (C:=[]) hi I hl hc.1 (Same.refl _) .mkN .nil (by simp)
 refine (.in I hq fun v H1 A s1 r1 c1=>⟨.ref a0,hσ,.in (I.grow s1) hk fun y H2 B s2 r2 _=>?_⟩)
 have s12:=s1.trans s2
 obtain ⟨a,xs,hσ',ha',hxl,own',g1,g2⟩:=VI.newK (p:=q) (v:=v) (C:=A) hi I hl hc.1 s12 (Rp.same s2 q r1) c1.1 fun d hd=>(c1.2 d hd).elim id fun ⟨_,z,_⟩=>nomatch z
 rw [hσ] at hσ'
 cases hσ'
 refine ⟨a0,_,rfl,by rw [kr hkey r2];exact DPut.k (s12 _ _ ha') (by rw [List.length_zip,sizeLine_eq];omega),k _ _ _ g1 g2⟩
noncomputable def uv(i:Nat)(fk f:FE):FS:=fun env=>(zA i env).bind fun l=>(fk env).bind fun k=>match l with
 | .dct ks ps=>if ks.length<100000 then (wz k).bind fun key=>match kIx ks key with
   | some j=>match ps[j]? with
    | some (.lst qs)=>(f env).bind fun q=>if qs.length<100000 then some (.nx (env.set i (some (.dct ks (ps.set j (.lst (qs++[q]))))))) else none
    | _=>none
   | none=>(f (env.set i (some (.dct (ks++[key]) (ps++[PV.lst []]))))).bind fun q=>some (.nx ((env.set i (some (.dct (ks++[key]) (ps++[PV.lst []])))).set i (some (.dct (ks++[key]) ((ps++[PV.lst []]).set ps.length (.lst [q])))))) else none
 | _=>none
theorem zgw(i:Nat)(hi:i ∈ O)(hp:PS X st (zax (tBM X.K "list" kd (zkR (vg i) (tV X.K (ko O) G c fk) (tV X.K (ko O) G (.mv []) (xA zI))) (kY (tV X.K (ko O) G (.mv []) f) zcJ)))):VS X (ko O) G st (uv i fk f):=hp.imp fun D σ H hq_=>by
 refine hq_.elim fun own env o I hf k=>?_
 unfold uv at hf
 replace hf:=Option.bind_eq_some_iff.mp hf;obtain ⟨l,hl,hf⟩:=hf
 replace hf:=Option.bind_eq_some_iff.mp hf;obtain ⟨kk,hk,hf⟩:=hf
 cases l<;>first | (cases hf;done) | skip
 rename_i ks ps
 dsimp only at hf
 split at hf
 case isFalse=>cases hf
 rename_i hkl
 replace hf:=Option.bind_eq_some_iff.mp hf;obtain ⟨key,hkey,hf⟩:=hf
 -- the arguments of setdefault
 obtain ⟨a,xs,B,hσ,ha,hkps,hr,nd,ho,hB⟩:=zbH hi I hl
 have hxl:=hr.length
 refine ⟨.ref a,hσ,a,rfl,.inl ⟨_,.inl ha⟩,.in I hk fun y H1 A1 s1 r1 _=>(.in (I.grow s1) rfl fun z H2 A2 s2 r2 c2=>?_)⟩
 have s12:=s1.trans s2
 have hy:=kr hkey r1
 refine ⟨ks.zip xs,key,s12 _ _ ha,hy,by rw [List.length_zip,sizeLine_eq];omega,fun v hv=>?_,fun hv=>?_⟩
 ·-- it is there
  rw [zdd (by omega)] at hv
  replace hv:=Option.bind_eq_some_iff.mp hv;obtain ⟨j,hj,hv⟩:=hv
  rw [hj] at hf
  dsimp only at hf
  split at hf
  case h_2=>cases hf
  rename_i qs hqs
  replace hf:=Option.bind_eq_some_iff.mp hf;obtain ⟨q,hq,hf⟩:=hf
  split at hf
  case isFalse=>cases hf
  rename_i hlen
  cases hf
  obtain ⟨a',xs',b,ys,B',hσ',ha',hx,hxl',_,hb,hr',nb,ndB,turn⟩:=VI.turnDi hi I hl hqs
  rw [hσ] at hσ'
  cases hσ'
  rw [ha] at ha'
  have ez:xs=xs':=by
   have e:ks.zip xs=ks.zip xs':=HO.dK.inj (Option.some.inj ha')
   have h1:=congrArg (List.map Prod.snd) e
   rwa [List.map_snd_zip (by omega),List.map_snd_zip (by omega)] at h1
  subst ez
  rw [hx] at hv
  cases hv
  refine ⟨.inl ⟨rfl,ys,SqL.of (s12 _ _ hb)⟩,.in (I.grow s12) hq fun v H3 C s3 r3 c3=>?_⟩
  have s13:=s12.trans s3
  refine ⟨b,ys,v,rfl,rfl,s13 _ _ hb,by rw [← hr'.length,sizeLine_eq];omega,?_⟩
  have fr0:∀ d ∈ C,H d=none:=fun d hd=>s12.free ((c3.2 d hd).elim id fun ⟨_,z,_⟩=>nomatch z)
  obtain ⟨own',h1,h2⟩:=turn H3 (qs++[q]) (ys++[v]) (B'++C) s13 ((Rps.same s13 _ hr').append (Rps.one r3)) (List.nodup_append.mpr ⟨ndB,c3.1,fun d hd d' hd' e=>by
    subst e
    obtain ⟨o,ho⟩:=(Rps.mut _ hr' d hd).some
    rw [fr0 d hd'] at ho;cases ho⟩)
   (fun z=>by
    rcases List.mem_append.mp z with z | z
    ·exact nb z
    ·have:=fr0 b z
     rw [hb] at this;cases this)
   (fun d hd=>(List.mem_append.mp hd).imp id (fr0 d))
  exact k _ _ _ h1 h2
 ·-- it is new
  have hj:kIx ks key=none:=by
   cases hj:kIx ks key with
   | none=>rfl
   | some j=>
    rw [zdd (by omega),hj,Option.bind_some] at hv
    have:=ziF hj
    rw [List.getElem?_eq_none_iff] at hv
    omega
  rw [hj] at hf
  dsimp only at hf
  have hn:=zef hj
  have fr2:∀ d ∈ A2,H d=none:=fun d hd=>s1.free ((c2.2 d hd).elim id fun ⟨_,z,_⟩=>nomatch z)
  obtain ⟨a',xs',hσ',ha',hxl',own1,I1,x1⟩:=VI.newK (p:=.lst []) (v:=z) (C:=A2) hi I hl hn s12 r2 c2.1 fr2
  rw [hσ] at hσ'
  cases hσ'
  rw [ha] at ha'
  have ez:xs=xs':=by
   have e:ks.zip xs=ks.zip xs':=HO.dK.inj (Option.some.inj ha')
   have h1:=congrArg (List.map Prod.snd) e
   rwa [List.map_snd_zip (by omega),List.map_snd_zip (by omega)] at h1
  subst ez
  generalize hH3:upd H2 a (HO.dK (wA (ks.zip xs) key z))=H3 at I1 x1
  generalize he1:env.set i (some (.dct (ks++[key]) (ps++[PV.lst []])))=env1 at I1 hf
  replace hf:=Option.bind_eq_some_iff.mp hf;obtain ⟨q,hq,hf⟩:=hf
  cases hf
  have il:i<env.length:=(List.getElem?_eq_some_iff.mp (wE hl)).1
  have hl1:zA i env1=some (.dct (ks++[key]) (ps++[PV.lst []])):=by
   rw [← he1];unfold zA;rw [List.getElem?_set,if_pos rfl,if_pos il];rfl
  have hqs:(ps++[PV.lst []])[ps.length]?=some (.lst []):=by simp
  obtain ⟨a'',xs'',b,ys,B',hσ'',ha'',hx,hxl'',_,hb,hr',nb,ndB,turn⟩:=VI.turnDi hi I1 hl1 hqs
  rw [hσ] at hσ''
  cases hσ''
  -- the list just made
  have e0:wA (ks.zip xs) key z=(ks++[key]).zip (xs++[z]):=by
   rw [zbv (by omega)]
   unfold wY
   rw [hn,if_neg Bool.false_ne_true]
  have ha3:H3 a=some (.dK ((ks++[key]).zip (xs++[z]))):=by rw [← hH3,zW,e0]
  rw [ha3] at ha''
  have ez:xs++[z]=xs'':=by
   have e:(ks++[key]).zip (xs++[z])=(ks++[key]).zip xs'':=HO.dK.inj (Option.some.inj ha'')
   have h1:=congrArg (List.map Prod.snd) e
   rwa [List.map_snd_zip (by simp;omega),List.map_snd_zip (by rw [hxl''];simp;omega)] at h1
  subst ez
  have hzb:z=.ref b:=by
   rw [hxl,List.getElem?_concat_length] at hx
   exact Option.some.inj hx
  subst hzb
  have hq0:ys=[]:=by have:=hr'.length;cases ys with | nil=>rfl | cons _ _=>simp at this
  subst hq0
  have eB:=hr'.inv0.2
  subst eB
  refine ⟨.inl ⟨rfl,[],SqL.of hb⟩,own1,env1,q,I1,hq,fun v H4 C s4 r4 c4=>?_⟩
  refine ⟨b,[],v,rfl,rfl,s4 _ _ hb,by rw [sizeLine_eq];simp,?_⟩
  have fr4:∀ d ∈ C,H3 d=none:=fun d hd=>(c4.2 d hd).elim id fun ⟨_,z,_⟩=>nomatch z
  obtain ⟨own',h1,h2⟩:=turn H4 [q] [v] C s4 (Rps.one r4) c4.1 (fun z=>by have:=fr4 b z;rw [hb] at this;cases this) (fun d hd=>.inr (fr4 d hd))
  exact k _ _ _ h1 (x1.trans h2)
noncomputable def zdi(fk f:FE):FE:=fun env=>(fk env).bind fun k=>(f env).bind fun q=>(wz k).map fun key=>.dct [key] [q]
theorem zhz{ek ev:Expr}{pos:Pos}(hk:VE X κ G c ek fk)(hv:VE X κ G (.mv []) ev f):VE X κ G (.mv []) (.Dict [some ek] [ev] pos) (zdi fk f):=
 (zka (zhX hk hv zjQ) rfl rfl (by simp) (by simp)).imp fun σ H Q hq_=>by
 refine hq_.elim fun own env p I hf k=>?_
 unfold zdi at hf
 replace hf:=Option.bind_eq_some_iff.mp hf;obtain ⟨kk,hkk,hf⟩:=hf
 replace hf:=Option.bind_eq_some_iff.mp hf;obtain ⟨q,hq,hf⟩:=hf
 cases hkey:wz kk with
 | none=>rw [hkey] at hf;cases hf
 | some key=>
  rw [hkey] at hf
  cases hf
  intro a ha
  have s0:Same H (upd H a (.dK [])):=z0 (Same.refl _) ha
  refine (.in (I.grow s0) hkk fun y H1 A1 s1 r1 _=>(.in ((I.grow s0).grow s1) hq fun v H2 A2 s2 r2 c2=>?_))
  have h2a:H2 a=some (.dK []):=s2 _ _ (s1 _ _ zW)
  have hy:=kr hkey r1
  refine ⟨h2a,[(key,v)],by rw [hy];rfl,by simp,?_⟩
  have e:wx [] [(key,v)]=[key].zip [v]:=rfl
  rw [e]
  have fr:∀ d ∈ A2,H1 d=none:=fun d hd=>(c2.2 d hd).elim id fun ⟨_,z,_⟩=>nomatch z
  have nA:a ∉ A2:=fun z=>by have:=fr a z;rw [s1 _ _ zW] at this;cases this
  have m2:MutH H2 a:=.inr ⟨_,h2a⟩
  have sH:Same H (upd H2 a (.dK ([key].zip [v]))):=fun b o hb=>by
   rw [zd (by rintro rfl;rw [ha] at hb;cases hb)]
   exact s2 _ _ (s1 _ _ (s0 _ _ hb))
  refine k _ _ (a::A2) sH (.mkD zW rfl (Rps.one (Rp.upd m2 q nA r2))) ⟨List.nodup_cons.mpr ⟨nA,c2.1⟩,fun d hd=>.inl ?_⟩
  rcases List.mem_cons.mp hd with rfl | hd
  ·exact ha
  ·exact s0.free (s1.free (fr d hd))
noncomputable def zgc(k i:Nat):FS:=fun env=>(zA i env).bind fun l=>match l with | .lst (q::ps)=>if (zl q && isDatas ps)=true then some (.nx ((env.set i (some (.lst ps))).set k (some q))) else none | _=>none
theorem zjA(k i:Nat)(hi:i ∈ O)(hk:k ∉ O)(hp:PS X st (jF (tBM X.K "list" zeI (vg i) (kY (tC (.int 0)) zcJ)) (uM k))):VS X (ko O) G st (zgc k i):=hp.imp fun D σ H hq_=>by
 refine hq_.elim fun own env o I hf kk=>?_
 unfold zgc at hf
 replace hf:=Option.bind_eq_some_iff.mp hf;obtain ⟨l,hl,hf⟩:=hf
 split at hf
 case h_2=>cases hf
 rename_i q ps
 split at hf
 case isFalse=>cases hf
 rename_i hd
 cases hf
 rw [Bool.and_eq_true] at hd
 obtain ⟨a,xs,B,hσ,ha,hr,nd,ho,hB⟩:=uC hi I hl
 obtain ⟨y,ys,A1,A2,rfl,rfl,r1,r2⟩:=hr.inv
 have e1:=Rp.data q hd.1 r1
 have e2:=Rps.data ps hd.2 r2
 subst e1 e2
 have m1:MutH H a:=.inl ⟨_,ha⟩
 refine ⟨.ref a,hσ,.inl ⟨rfl,y::ys,SqL.of ha⟩,a,y::ys,0,0,y,rfl,rfl,ha,by decide,by decide,by simp [seqIndex?],rfl,?_⟩
 obtain ⟨h1,h2⟩:=I.turn (p:=.lst ps) (o:=.lst ys) (B:=[]) hi (Same.refl _) hσ ho m1 (.mkL zW (Rps.upd m1 _ (by simp) r2)) (by simp) (by simp)
 exact kk _ _ _ (h1.set_sh (qT hk) (Rp.upd m1 q (by simp) r1) (by simp)) h2
noncomputable def zdy(d k x:PV):Option PV:=match d with
 | .dct ks ps=>(wz k).map fun key=>(u0 ks ps key).getD x
 | _=>none
noncomputable def zgf(fd fk fx:FE):FE:=fun env=>(fd env).bind fun d=>(fk env).bind fun k=>(fx env).bind fun x=>zdy d k x
theorem zjB{o e f':Expr}{apos cpos:Pos}(hu:X.A.units+1<cLine)(ho:VE X κ G .sh o fd)(he:VE X κ G c1 e fk)(hf:VE X κ G .sh f' fx)(m:M2 X o "get" apos e f' cpos):VE X κ G .sh (.Call (.Attribute o "get" apos) [e,f'] [] cpos) (zgf fd fk fx):=
 (zdK hu ho he hf m).imp fun σ H Q hq_=>by
 refine hq_.elim fun own env z I h k=>?_
 unfold zgf at h
 replace h:=Option.bind_eq_some_iff.mp h;obtain ⟨d,hd,h⟩:=h
 replace h:=Option.bind_eq_some_iff.mp h;obtain ⟨kk,hk,h⟩:=h
 replace h:=Option.bind_eq_some_iff.mp h;obtain ⟨x,hx,h⟩:=h
 unfold zdy at h
 split at h
 case h_2=>cases h
 rename_i ks ps
 cases hkey:wz kk with
 | none=>rw [hkey] at h;cases h
 | some key=>
  rw [hkey] at h;cases h
  refine (.in I hd fun v H1 A s1 r1 cA=>?_)
  obtain ⟨a,ys,B,e1,h1,hl,rfl,g⟩:=r1.D
  refine ⟨a,e1,.inl ⟨_,.inl h1⟩,.in (I.grow s1) hk fun y H2 _ s2 r2 _=>(.in ((I.grow s1).grow s2) hx fun w H3 A3 s3 r3 c3=>?_)⟩
  have s23:=s2.trans s3
  have hy:=kr hkey r2
  rw [hy]
  refine ⟨_,DGet.k (s23 _ _ h1),?_⟩
  cases hg:u0 ks ps key with
  | none=>
   rw [zan g hl hg]
   refine k _ _ A3 (s1.trans s23) ?_ c3
   show Rp X.K H3 ((u0 ks ps key).getD x) w A3
   rw [hg];exact r3
  | some p=>
   obtain ⟨v,C,h3,h4,h5⟩:=kQ g hg
   rw [h3]
   refine k _ _ C (s1.trans s23) ?_ fun d hd=>cA d (List.mem_cons_of_mem _ (h5.subset hd))
   show Rp X.K H3 ((u0 ks ps key).getD x) v C
   rw [hg];exact Rp.same s23 p h4
end
section
variable {K:PySem.W.Frag} {H:Hp}
theorem zfT{ks:List Key}{k:Key}{j:Nat}(h:kIx ks k=some j):ks[j]?=some k:=by
 unfold kIx at h
 obtain ⟨h1,h2,_⟩:=List.findIdx?_eq_some_iff_getElem.mp h
 rw [List.getElem?_eq_getElem h1,of_decide_eq_true h2]
end
end F
namespace L2
open PySem PySem.Spec PyProof.Rows
noncomputable def uU:List Int->Nat
 | []=>0
 | n::r=>if n ∈ r then uU r else uU r+1
theorem zbY:∀ ns:List Int,∃ l:List Int,l.Nodup/\(∀ k,k ∈ l ↔ k ∈ ns)/\l.length=uU ns
 | []=>⟨[],.nil,by simp,rfl⟩
 | n::r=>by
  obtain ⟨l,h1,h2,h3⟩:=zbY r
  unfold uU
  by_cases h:n ∈ r
  ·rw [if_pos h]
   refine ⟨l,h1,fun k=>?_,h3⟩
   rw [h2 k,List.mem_cons]
   exact ⟨.inr,fun z=>z.elim (fun e=>e ▸ h) id⟩
  ·rw [if_neg h]
   refine ⟨n::l,List.nodup_cons.mpr ⟨fun z=>h ((h2 n).mp z),h1⟩,fun k=>?_,by simp [h3]⟩
   rw [List.mem_cons,List.mem_cons,h2 k]
theorem zcp(xs:List Int):∀ ys:List Int,xs.Nodup->(∀ x ∈ xs,x ∈ ys)->xs.length≤ys.length:=by
 induction xs with
 | nil=>intro ys _ _;exact Nat.zero_le _
 | cons x xs ih=>
  intro ys nd h
  rw [List.nodup_cons] at nd
  have hx:=h x List.mem_cons_self
  have:=ih (ys.erase x) nd.2 fun y hy=>by
   have hne:y≠x:=fun e=>nd.1 (e ▸ hy)
   exact (List.mem_erase_of_ne hne).mpr (h y (List.mem_cons_of_mem _ hy))
  rw [List.length_erase_of_mem hx] at this
  have hp:0<ys.length:=List.length_pos_of_mem hx
  simp only [List.length_cons]
  omega
end L2
namespace F
open PySem PySem.Spec PyProof.Rows L2
end F
namespace L2
open PySem PySem.Spec PyProof.Rows
theorem ziE{P:Program}{w:World}:∀ (l:List (Key × V)) (m:List (Key × Value)) (us:List Value) (ns:List Int),KV l m->l.map (·.1)=ns.map Sum.inl->us.length=m.length->(∀ (j:Nat) (v:Value),us[j]?=some v->∃ k x,m[j]?=some (k,x)/\(zk P w).is k v=true)->IntsAre us ns:=by
 intro l m us ns hr
 unfold KV at hr
 induction hr generalizing us ns with
 | nil=>
  intro hn hl _
  cases ns with
  | nil=>
   cases us with
   | nil=>exact .nil
   | cons _ _=>simp at hl
  | cons _ _=>simp at hn
 | @cons a b l m hab t ih=>
  intro hn hl hv
  cases ns with
  | nil=>simp at hn
  | cons n ns=>
   cases us with
   | nil=>simp at hl
   | cons u us=>
    simp only [List.map_cons,List.cons.injEq] at hn
    obtain ⟨k,x,e,hk⟩:=hv 0 u rfl
    simp only [List.getElem?_cons_zero,Option.some.injEq] at e
    have e1:b.1=k:=by rw [e]
    have e2:k=Sum.inl n:=by rw [← e1,← hab.1];exact hn.1
    rw [zaV] at hk
    have r:=ih us ns hn.2 (by simpa using hl) fun j v hj=>by simpa using hv (j+1) v (by simpa using hj)
    rcases zo hk with ⟨i,t,h1,h2⟩ | ⟨y,t,h1,h2⟩
    ·subst h2
     rw [e2] at h1
     cases h1
     exact .cons n t r
    ·rw [e2] at h1;cases h1
theorem zfl{X:Cx}(hc:X.calm=true):CallR X (.builtin "sorted") (fun xs H Q=>∃ p kvs,∃ ns:List Int,xs=[.ref p]/\H p=some (.dK kvs)/\kvs.map (·.1)=ns.map Sum.inl/\ns.length<64/\∀ (ns':List Int) l,ns'.Perm ns->ns'.Pairwise (·≤·)->H l=none->Q (.ref l) (upd H l (.lst (ns'.map V.int)))):=by
 intro pins s σ H vs us Q I r q
 obtain ⟨p,kvs,ns,e,hs,hns,hlen,q⟩:=q
 subst e
 cases r with
 | cons r rr=>
  cases rr
  cases r
  obtain ⟨hz,hS,ws,rel,o,es,ep,h1,h2,h3,h4⟩:=k9 I.hok hs
  have hkl:kvs.length=ws.length:=rel.length
  have hnl:kvs.length=ns.length:=by have:=congrArg List.length hns;simpa using this
  refine Calls.call_function_entry kind_sorted plain_sorted entry_sorted (args_sorted1 _) ?_
  unfold Builtin.«sorted»
  refine wpAny_bind (m:=checkCount "sorted" 1 1 _) (wpAny_pure ?_)
  refine wpAny_bind (PySem.W.kdu_collect (A:=X.A.in1) (PySem.W.kdl_dict (kvs:=ws) (ep:=ep) hS) (I.ok.hd hc) ⟨o,es,h1,h2,h3,h4⟩ (by omega) fun h' tk acc hk hi=>?_)
  have hia:IntsAre acc.toList ns:=ziE kvs ws acc.toList ns rel hns (by rw [Array.length_toList];exact hi.1) fun j v hj=>hi.2 j v (by rw [← Array.getElem?_toList];exact hj)
  have hal:acc.toList.length=ns.length:=by rw [Array.length_toList,hi.1];omega
  refine wpAny_bind (wpAny_newList ?_ (by rw [hal,sizeLine_eq];omega))
  have hoL:(h'.push (seqObj "list" acc.toList.toArray 0)).get? h'.objs.size=some (seqObj "list" acc.toList.toArray 0):=Heap.get?_push_size _ rfl
  refine wpAny_bind (wpAny_holding (wpAny_call_entry slot_list_sort (s:={ s with heap:=h'.push (seqObj "list" acc.toList.toArray 0),toks:=tk }) ⟨_,hoL,rfl⟩ entry_list_sort (list_sort_tree hoL hia (by omega) fun out ns' a1 a2 a3=>⟨_,rfl,?_⟩) (args_list_sort _)))
  refine wpAny_pure ⟨_,rfl,?_⟩
  obtain ⟨e',he⟩:∃ e',(sortedHeap (h'.push (seqObj "list" acc.toList.toArray 0)) h'.objs.size acc.toList out).get? h'.objs.size=some (seqObj "list" out e'):=sortedHeap_at hoL
  have I1:Inv X pins σ H { s with heap:=h',toks:=tk }:=I.kept (t':=tk) hk
  have hn:=I1.hok.fresh (a:=h'.objs.size) (Nat.le_refl _)
  refine ⟨.ref h'.objs.size,_,I1.laid (h':=sortedHeap (h'.push (seqObj "list" acc.toList.toArray 0)) h'.objs.size acc.toList out) (o:=.lst (ns'.map V.int)) (t':=tk) (fun b u hb=>?_) (Nat.le_refl _) ⟨by rw [List.length_map,a2.length_eq,sizeLine_eq];omega,out.toList,e',uT a1,by simpa [seqObj] using he⟩,rfl,q ns' _ a2 a3 hn⟩
  have hlt:=Heap.lt_size hb
  rw [sortedHeap_old (Nat.ne_of_lt hlt) (by rw [size_push'];exact Nat.lt_succ_of_lt hlt)]
  exact Heap.get?_push_of_some _ hb
noncomputable def zfJ:V->List V->Hp->VK->Prop:=fun x vs H Q=>∃ a b kvs more,x=.ref a/\vs=[.ref b]/\H a=some (.dK kvs)/\H b=some (.dK more)/\a≠b/\kvs.length+more.length≤sizeLine/\Q .non (upd H a (.dK (wx kvs more)))
theorem zgW{X:Cx}:MtM X "dict.update" zfJ:=by
 intro pins s σ H x vs v us Q I rx rv h
 obtain ⟨a,b,kvs,more,rfl,rfl,ha,hb,hab,hl,q⟩:=h
 cases rx
 obtain ⟨u,rfl,ru⟩:=rv.one
 cases ru
 obtain ⟨z,hd,ws,rel,dd⟩:=k9 I.hok ha
 obtain ⟨z2,hd2,ws2,rel2,dd2⟩:=k9 I.hok hb
 refine call_meetsIn PySem.F.slot_dict_update dd.typeIs PySem.F.entry_dict_update (PySem.F.args_dict_update_2 _ _) (meets_dict_update (zk X.prog X.w) a b hab hd2) ⟨ws,ws2,dd,dd2,by rw [← rel.length,← rel2.length];exact hl,fun h' dd' _ hs=>?_⟩
 have he:∃ q,h'.get? a=some q:=let ⟨q,_,_,hq,_⟩:=dd';⟨q,hq⟩
 have hz:(wx kvs more).length≤sizeLine:=by have:=vv more kvs;omega
 exact ⟨.non,_,qA (t':=s.toks) I (by rw [ha];exact True.intro) hs he (zbt hz hd (rel2.merge rel) dd'),rfl,q⟩
end L2
namespace F
open PySem PySem.Spec PyProof.Rows L2
noncomputable def uj:List Key->Option (List Int)
 | []=>some []
 | .inl n::r=>(uj r).map fun ns=>n::ns
 | _=>none
theorem zbc:∀ {ks:List Key} {ns:List Int},uj ks=some ns->ks=ns.map Sum.inl
 | [],ns,h=>by cases h;rfl
 | k::r,ns,h=>by
  cases k with
  | inr x=>cases h
  | inl n=>
   unfold uj at h
   cases hr:uj r with
   | none=>rw [hr] at h;cases h
   | some ms=>rw [hr] at h;cases h;rw [zbc hr];rfl
@[simp] theorem qr:∀ ns:List Int,uj (ns.map Sum.inl)=some ns
 | []=>rfl
 | n::ns=>by rw [List.map_cons,uj,qr ns];rfl
noncomputable def xG:List PV->Option PV
 | [.dct ks _]=>match uj ks with | some ns=>if ns.length<64 then some (.lst ((vQ ns).map PV.int)) else none | _=>none
 | ps=>kW ps
theorem vG{K:PySem.W.Frag}:j2 K (fun xs H Q=>(∃ p,∃ ns:List Int,xs=[.ref p]/\SqL K H p (ns.map V.int)/\ns.length<64/\∀ (ns':List Int) l,ns'.Perm ns->ns'.Pairwise (·≤·)->H l=none->Q (.ref l) (upd H l (.lst (ns'.map V.int))))∨
  ∃ p kvs,∃ ns:List Int,xs=[.ref p]/\H p=some (.dK kvs)/\kvs.map (·.1)=ns.map Sum.inl/\ns.length<64/\∀ (ns':List Int) l,ns'.Perm ns->ns'.Pairwise (·≤·)->H l=none->Q (.ref l) (upd H l (.lst (ns'.map V.int)))) xG:=by
 intro H ps vs A z Q r e k
 unfold xG at e
 split at e
 ·rename_i ks qs
  split at e
  case h_2=>cases e
  rename_i ns hns
  split at e
  case isFalse=>cases e
  rename_i hlen
  cases e
  obtain ⟨v,rfl,rv⟩:=yy r
  obtain ⟨a,xs,B,rfl,h1,hl,_,g⟩:=rv.D
  have hk:=zbc hns
  have hxl:=g.length
  refine .inr ⟨a,_,ns,rfl,h1,by rw [List.map_fst_zip (by omega)];exact hk,hlen,fun ns' l p1 p2 hn=>?_⟩
  have es:ns'=vQ ns:=qJ (p1.trans (wt ns).symm) p2 (xm ns)
  subst es
  exact k _ _ [l] (z0 (Same.refl _) hn) (.mkL zW (w9 _)) (by simp) (by simpa using hn)
 ·exact .inl (zhl H ps vs A z Q r e k)
theorem vH{X:Cx}(hc:X.calm=true):CallR X (.builtin "sorted") (fun xs H Q=>(∃ p,∃ ns:List Int,xs=[.ref p]/\SqL X.K H p (ns.map V.int)/\ns.length<64/\∀ (ns':List Int) l,ns'.Perm ns->ns'.Pairwise (·≤·)->H l=none->Q (.ref l) (upd H l (.lst (ns'.map V.int))))∨
  ∃ p kvs,∃ ns:List Int,xs=[.ref p]/\H p=some (.dK kvs)/\kvs.map (·.1)=ns.map Sum.inl/\ns.length<64/\∀ (ns':List Int) l,ns'.Perm ns->ns'.Pairwise (·≤·)->H l=none->Q (.ref l) (upd H l (.lst (ns'.map V.int)))):=call_sortL.or (zfl hc)
noncomputable def jy(ks ms:List Key):List Key:=ms.foldl (fun acc k=>if ul acc k=true then acc else acc++[k]) ks
theorem zgJ(kvs:List (Key × V))(k:Key)(v:V):(wA kvs k v).map (·.1)=if ul (kvs.map (·.1)) k=true then kvs.map (·.1) else kvs.map (·.1)++[k]:=by
 have e:ul (kvs.map (·.1)) k=kvs.any fun kv=>decide (kv.1=k):=by unfold ul;rw [List.any_map];rfl
 unfold wA
 rw [e]
 split
 ·rw [List.map_map]
  refine List.map_congr_left fun kv _=>?_
  show (if kv.1=k then (kv.1,v) else kv).1=kv.1
  split<;>rfl
 ·simp
theorem qp:∀ (more kvs:List (Key × V)),(wx kvs more).map (·.1)=jy (kvs.map (·.1)) (more.map (·.1))
 | [],kvs=>rfl
 | p::r,kvs=>by
  show (wx (wA kvs p.1 p.2) r).map (·.1)=_
  rw [qp r,zgJ]
  rfl
theorem zdu:∀ kvs:List (Key × V),(kvs.map (·.1)).zip (kvs.map (·.2))=kvs
 | []=>rfl
 | p::r=>by rw [List.map_cons,List.map_cons,List.zip_cons_cons,zdu r]
noncomputable def k6(i:Nat)(f:FE):FS:=fun env=>(f env).bind fun q=>(zA i env).bind fun l=>match l,q with
 | .dct ks vs,.dct ms _=>if (isDatas vs && decide (ks.length+ms.length≤100000))=true then some (.nx (env.set i (some (.dct (jy ks ms) ((jy ks ms).map fun _=>PV.any))))) else none
 | _,_=>none
theorem zfI{K:PySem.W.Frag}{H:Hp}:∀ (xs:List V),Rps K H (xs.map fun _=>PV.any) xs []
 | []=>.nil
 | x::xs=>Rps.cons (A:=[]) (by unfold Rp;rfl) (zfI xs)
section
variable {X:Cx} {G:Hp} {f:FE} {st:Stmt} {O:List Nat}
theorem zgv(i:Nat)(hi:i ∈ O)(hp:PS X st (zax (tBM X.K "dict" zfJ (vg i) (kY (tV X.K (ko O) G .sh f) zcJ)))):VS X (ko O) G st (k6 i f):=hp.imp fun D σ H hq_=>by
 refine hq_.elim fun own env o I hf k=>?_
 unfold k6 at hf
 replace hf:=Option.bind_eq_some_iff.mp hf;obtain ⟨q,hq,hf⟩:=hf
 replace hf:=Option.bind_eq_some_iff.mp hf;obtain ⟨l,hl,hf⟩:=hf
 split at hf
 case h_2=>cases hf
 rename_i ks vs ms ws
 split at hf
 case isFalse=>cases hf
 rename_i hc
 cases hf
 simp only [Bool.and_eq_true,decide_eq_true_eq] at hc
 obtain ⟨a,xs,B,hσ,ha,hkl,hr,nd,ho,hB⟩:=zbH hi I hl
 have eB:=Rps.data vs hc.1 hr
 subst eB
 refine ⟨.ref a,hσ,.inr (.inr (.inl ⟨rfl,.inl ⟨_,ha⟩⟩)),.in I hq fun v H1 A s1 r1 c1=>?_⟩
 obtain ⟨b,ys,B',rfl,hb,hml,rfl,g⟩:=r1.D
 have hab:a≠b:=fun z=>by
  have:=c1 b List.mem_cons_self
  rw [← z,ho] at this;cases this
 have hxl:=hr.length
 have hyl:=g.length
 refine ⟨a,b,_,_,rfl,rfl,s1 _ _ ha,hb,hab,by rw [List.length_zip,List.length_zip,sizeLine_eq];omega,?_⟩
 have m0:MutH H a:=.inr ⟨_,ha⟩
 generalize hm:wx (ks.zip xs) (ms.zip ys)=kvs
 have hks:kvs.map (·.1)=jy ks ms:=by
  rw [← hm,qp,List.map_fst_zip (by omega),List.map_fst_zip (by omega)]
 have hz:kvs=(jy ks ms).zip (kvs.map (·.2)):=by
  rw [← hks]
  exact (zdu kvs).symm
 have hR:Rp X.K (upd H1 a (.dK kvs)) (.dct (jy ks ms) ((jy ks ms).map fun _=>PV.any)) (.ref a) [a]:=by
  refine .mkD (xs:=kvs.map (·.2)) (by rw [zW,← hz]) (by simp) ?_
  have e:((jy ks ms).map fun _=>PV.any)=(kvs.map (·.2)).map fun _=>PV.any:=by rw [← hks,List.map_map,List.map_map];rfl
  rw [e]
  exact zfI _
 obtain ⟨h1,h2⟩:=I.turn (B:=[]) hi s1 hσ ho m0 hR (by simp) (by simp)
 exact k _ _ _ h1 h2
end
end F
namespace L2
open PySem PySem.Spec PyProof.Rows
end L2
namespace F
open PySem PySem.Spec PyProof.Rows L2
section
variable {X:Cx} {κ:Nat->Option Nat} {G:Hp} {O:List Nat} {st:Stmt} {c c1 c2:Cat} {f fk fa fb:FE} {a b e:Expr} {es:List Expr} {pos:Pos}
noncomputable def jb(i:Nat):FE:=fun env=>(zA i env).bind fun p=>match p with | .pen _ ns=>some (.lst (ns.map .int)) | _=>none
theorem uS(i:Nat){x:Str}(h:PE X (.Name x pos) (vg i)):VE X κ G .bo (.Name x pos) (jb i):=h.imp fun σ H Q hq_=>by
 refine hq_.elim fun own env p I hf k=>?_
 unfold jb at hf
 replace hf:=Option.bind_eq_some_iff.mp hf;obtain ⟨q,hv,hf⟩:=hf
 split at hf
 case h_2=>cases hf
 rename_i a ns
 cases hf
 obtain ⟨v,A,h1,h2,_⟩:=I.slot i _ (wE hv)
 obtain ⟨rfl,rfl,h3⟩:=h2.P
 exact ⟨.ref a,h1,k _ H [a] (Same.refl _) (.mkL h3 (w9 _)) trivial⟩
theorem zjV{K:PySem.W.Frag}{own:Addr->Option Nat}{env:En}{σ:St}{H:Hp}{i:Nat}{a:Addr}{ns:List Int}(hi:i ∈ O)(I:VI K (ko O) G own env σ H)(hf:zA i env=some (.pen a ns)):σ[i]?=some (some (.ref a))/\H a=some (.lst (ns.map V.int))/\own a=some i:=by
 obtain ⟨v,A,h1,h2,_,h3⟩:=I.slot i _ (wE hf)
 obtain ⟨rfl,rfl,h4⟩:=h2.P
 exact ⟨h1,h4,(h3 i (kq hi)).2 a List.mem_cons_self⟩
theorem Rp.mkP{K:PySem.W.Frag}{H:Hp}{a:Addr}{ns:List Int}(h:H a=some (.lst (ns.map V.int))):Rp K H (.pen a ns) (.ref a) [a]:=by unfold Rp;exact ⟨rfl,rfl,h⟩
noncomputable def jq(i:Nat)(fk f:FE):FS:=fun env=>(f env).bind fun q=>(zA i env).bind fun l=>(fk env).bind fun k=>match l,k,q with
 | .pen a ns,.int j,.int z=>(ixN ns.length j).bind fun t=>some (.nx (env.set i (some (.pen a (ns.set t z)))))
 | _,_,_=>none
theorem zbV(i:Nat)(hi:i ∈ O)(hp:PS X st (jF (tV X.K (ko O) G c f) (zmn (vg i) (tV X.K (ko O) G c2 fk) zhQ))):VS X (ko O) G st (jq i fk f):=hp.imp fun D σ H hq_=>by
 refine hq_.elim fun own env o I hf k=>?_
 unfold jq at hf
 replace hf:=Option.bind_eq_some_iff.mp hf;obtain ⟨q,hq,hf⟩:=hf
 replace hf:=Option.bind_eq_some_iff.mp hf;obtain ⟨l,hl,hf⟩:=hf
 replace hf:=Option.bind_eq_some_iff.mp hf;obtain ⟨kk,hk,hf⟩:=hf
 split at hf
 case h_2=>cases hf
 rename_i a ns j z
 replace hf:=Option.bind_eq_some_iff.mp hf;obtain ⟨t,ht,hf⟩:=hf
 cases hf
 obtain ⟨hσ,ha,ho⟩:=zjV hi I hl
 refine .in I hq fun v H1 A s1 r1 _=>⟨.ref a,hσ,.in (I.grow s1) hk fun y H2 B s2 r2 _=>?_⟩
 obtain ⟨rfl,rfl⟩:=r1.I
 have s12:=s1.trans s2
 refine ⟨a,ns.map V.int,j,t,rfl,r2.I.1,s12 _ _ ha,by rw [List.length_map];exact ht,?_⟩
 obtain ⟨h1,h2⟩:=I.turn (p:=.pen a (ns.set t z)) (o:=.lst ((ns.map V.int).set t (.int z))) (B:=[]) hi s12 hσ ho (.inl ⟨_,ha⟩) (.mkP (by rw [zW,List.map_set])) (by simp) (by simp)
 exact k _ _ _ h1 h2
noncomputable def spM(K:PySem.W.Frag)(n:Nat)(Φ:List PV->Option (PV × List Int)):Sp:=fun vs H Q _=>∃ a ns ws ps A z ns',vs=.ref a::ws/\H a=some (.lst (List.map V.int ns))/\Rps K H ps ws A/\a ∉ A/\ps.length+1=n/\Φ (.pen a ns::ps)=some (z,ns')/\
 ∀ v H' C,(∀ b o,b≠a->H b=some o->H' b=some o)->H' a=some (.lst (List.map V.int ns'))->Rp K H' z v C->C.Nodup->(∀ b ∈ C,H b=none)->Q v H'
noncomputable def ql(q:Option (Option PV))(a:Addr):Option (List Int):=match q with
 | some (some (.pen b ns))=>if b=a then some ns else none
 | _=>none
theorem zeO{q:Option (Option PV)}{a:Addr}{ns:List Int}(h:ql q a=some ns):q=some (some (.pen a ns)):=by
 unfold ql at h
 split at h
 ·split at h
  ·rename_i e;cases h;rw [e]
  ·cases h
 ·cases h
noncomputable def fnM(m:Nat)(g:FS):List PV->Option (PV × List Int):=fun ps=>match ps with
 | .pen a _::_=>(g (ps.map some++List.replicate (m - ps.length) none)).bind fun o=>match o with
  | .rt p e=>(ql e[0]? a).map fun ns=>(p,ns)
  | .nx e=>(ql e[0]? a).map fun ns=>(.non,ns)
  | _=>none
 | _=>none
theorem VI.startM{K:PySem.W.Frag}{H:Hp}{N:List Str}{ps:List PV}{ws:List V}{A:List Addr}{a:Addr}{ns:List Int}(h0:0 ∈ O)(hk:∀ i,i<ps.length->i+1 ∉ O)(ha:H a=some (.lst (ns.map V.int)))(r:Rps K H ps ws A)(hA:a ∉ A):
  VI K (ko O) (fun b=>if b=a then none else H b) (fun b=>if b=a then some 0 else none) ((.pen a ns::ps).map some++List.replicate (N.length - (ps.length+1)) none) (L2.start N (.ref a::ws)) H:=by
 have hl:=r.length
 refine ⟨by simp [L2.start,hl],fun i p e=>?_,fun b l z=>?_,fun b o z=>?_⟩
 ·cases i with
  | zero=>
   cases e
   refine ⟨.ref a,[a],rfl,.mkP ha,fun z=>?_,fun l z=>⟨by simp,fun b hb=>?_⟩⟩
   ·rw [kq h0] at z;cases z
   ·rw [kq h0] at z;cases z
    rw [List.mem_singleton.mp hb,if_pos rfl]
  | succ i=>
   rw [List.map_cons,List.cons_append,List.getElem?_cons_succ] at e
   by_cases hi:i<ps.length
   ·rw [List.getElem?_append_left (by simpa using hi),List.getElem?_map] at e
    cases q:ps[i]? with
    | none=>rw [q] at e;cases e
    | some p'=>
     rw [q] at e
     have:p'=p:=by simpa using e
     subst this
     obtain ⟨v,C,h1,h2,h3⟩:=r.get q
     refine ⟨v,C,?_,h2,fun _ b hb=>if_neg (fun (z:b=a)=>hA (z ▸ h3.subset hb)),fun l z=>?_⟩
     ·unfold L2.start
      rw [List.map_cons,List.cons_append,List.getElem?_cons_succ,List.getElem?_append_left (by rw [List.length_map,← hl];exact hi),List.getElem?_map,h1];rfl
     ·rw [qT (hk i hi)] at z;cases z
   ·rw [List.getElem?_append_right (by simpa using hi),List.getElem?_replicate] at e
    split at e<;>cases e
 ·split at z
  ·rename_i e;cases z;subst e;exact ⟨if_pos rfl,.inl ⟨_,ha⟩⟩
  ·cases z
 ·show H b=some o
  by_cases e:b=a
  ·rw [if_pos e] at z;cases z
  ·rw [if_neg e] at z;exact z
theorem zmo{P:Program}{w:World}{K:PySem.W.Frag}{mg:Str->Option Value}{base:Heap}{x qual:Str}{st:Stmt}{f:Addr}{fd:FuncData}{N ps:List Str}{k n m:Nat}{g:FS}(O:List Nat)(hn:ps.length=n)(hm:N.length=m)(h0:0 ∈ O)(hO:∀ i ∈ O,i=0∨n≤i)(hF:Fun K x qual st f fd)(S:FnScope N ps (zN st))
  (body:∀ (cdv:Value) (A:Around) (outer:List PySem.Env) (s:Shared) (H G:Hp) (E:XK),Room k (A.deeper (envOfC qual (zN st) s.heap.objs.size f cdv))->VSs (zep CX0 P w K mg base N qual (zN st) f cdv A outer s H E).nox (ko O) G (wQ st) g):
  FnOk P w K mg base CX0 (k+1) f fd ps (spM K n (fnM m g)):=by
 subst hn hm
 refine hF.ok S (fun vs H Q E hq_=>?_) fun cdv A outer s H vs Q E hr hq_=>?_
 ·obtain ⟨a,ns,ws,qs,B,z,ns',rfl,_,r,_,hl,_⟩:=hq_
  rw [List.length_cons,← r.length,hl]
 ·obtain ⟨a,ns,ws,qs,B,z,ns',rfl,ha,r,hB,hl,hΦ,k⟩:=hq_
  refine ⟨_,body cdv A outer s H (fun b=>if b=a then none else H b) E hr,?_⟩
  unfold fnM at hΦ
  dsimp only at hΦ
  replace hΦ:=Option.bind_eq_some_iff.mp hΦ;obtain ⟨o,ho,hΦ⟩:=hΦ
  have hst:=VI.startM (K:=K) (N:=N) (ps:=qs) (ws:=ws) h0 (fun i hi z=>(hO _ z).elim (fun y=>nomatch y) fun y=>by omega) ha r hB
  refine ⟨_,_,o,hst,by rw [List.length_cons] at ho;exact ho,?_⟩
  have fin:∀ (p:PV) (e:En),(ql e[0]? a).map (fun ns=>(p,ns))=some (z,ns')->∀ v H' C own' σ',VI K (ko O) (fun b=>if b=a then none else H b) own' e σ' H'->Rp K H' p v C->C.Nodup->(∀ b ∈ C,(if b=a then none else H b)=none/\own' b≠some 0)->Q v H':=by
   intro p e hp v H' C own' σ' I' r' nd fr
   obtain ⟨n2,h2,h3⟩:=Option.map_eq_some_iff.mp hp
   cases h3
   obtain ⟨v0,A0,s1,s2,_,s3⟩:=I'.slot 0 _ (zeO h2)
   obtain ⟨rfl,rfl,s4⟩:=s2.P
   have oa:=(s3 0 (kq h0)).2 a List.mem_cons_self
   refine k v H' C (fun b o hb e=>I'.same b o (by rw [if_neg hb];exact e)) s4 r' nd fun b hb=>?_
   obtain ⟨f1,f2⟩:=fr b hb
   rwa [if_neg (fun z=>f2 (by rw [z];exact oa))] at f1
  cases o with
  | rt p e=>exact fun v H' C own' σ' I' r' nd fr=>fin p e hΦ v H' C own' σ' I' r' nd fr
  | nx e=>exact fun own' σ' H' I' _=>fin .non e hΦ .non H' [] own' σ' I' .mkN .nil (by simp)
  | bk e=>cases hΦ
  | ct e=>cases hΦ
noncomputable def ExtL(l:Nat)(own:Addr->Option Nat)(H:Hp)(own':Addr->Option Nat)(H':Hp):Prop:=∀ b o,own b≠some l->H b=some o->own' b=own b/\H' b=some o
theorem ExtL.trans{l:Nat}{o1 o2 o3:Addr->Option Nat}{H1 H2 H3:Hp}(a:ExtL l o1 H1 o2 H2)(b:ExtL l o2 H2 o3 H3):ExtL l o1 H1 o3 H3:=fun x o h e=>by
 obtain ⟨h1,h2⟩:=a x o h e
 obtain ⟨h3,h4⟩:=b x o (by rw [h1];exact h) h2
 exact ⟨h3.trans h1,h4⟩
theorem ExtL.grow{l:Nat}{own:Addr->Option Nat}{H H':Hp}(s:Same H H'):ExtL l own H own H':=fun b o _ e=>⟨rfl,s b o e⟩
theorem ExtL.ext{l:Nat}{own own':Addr->Option Nat}{H H':Hp}(h:ExtL l own H own' H'):Ext own H own' H':=fun b o z e=>by
 obtain ⟨h1,h2⟩:=h b o (by rw [z];exact fun y=>nomatch y) e
 exact ⟨h1.trans z,h2⟩
noncomputable def zic:PV->Option (List Int)
 | .pen _ ns=>some ns
 | .lst qs=>vw qs
 | _=>none
noncomputable def zeN:PV->List Int->PV
 | .pen a _,ns=>.pen a ns
 | _,ns=>.lst (ns.map .int)
theorem VI.penC{K:PySem.W.Frag}{own:Addr->Option Nat}{env:En}{σ:St}{H:Hp}{i l:Nat}{p:PV}{ns:List Int}(hκ:κ i=some l)(hu:∀ j,κ j=some l->j=i)(I:VI K κ G own env σ H)(hf:zA i env=some p)(hn:zic p=some ns):
  ∃ a,σ[i]?=some (some (.ref a))/\H a=some (.lst (ns.map V.int))/\own a=some l/\(∀ b ms,p=.pen b ms->b=a)/\∀ H1 H' ns',Same H H1->(∀ b o,b≠a->H1 b=some o->H' b=some o)->H' a=some (.lst (List.map V.int ns'))->VI K κ G own (env.set i (some (zeN p ns'))) σ H'/\ExtL l own H own H':=by
 obtain ⟨v,A,h1,h2,_,h3⟩:=I.slot i _ (wE hf)
 obtain ⟨nd,hA⟩:=h3 l hκ
 obtain ⟨a,rfl,rfl,ha,hp,hput⟩:∃ a,v=.ref a/\A=[a]/\H a=some (.lst (ns.map V.int))/\(∀ b ms,p=.pen b ms->b=a)/\∀ (H':Hp) (ns':List Int),H' a=some (.lst (ns'.map V.int))->Rp K H' (zeN p ns') (.ref a) [a]:=by
  unfold zic at hn
  split at hn
  ·rename_i a ms
   cases hn
   obtain ⟨rfl,rfl,h4⟩:=h2.P
   exact ⟨a,rfl,rfl,h4,fun b ms z=>by cases z;rfl,fun H' ns' h=>.mkP h⟩
  ·rename_i qs
   have:=uL hn
   subst this
   obtain ⟨a,xs,B,rfl,h4,rfl,g⟩:=h2.L
   have e1:=jM g
   subst e1
   have e2:=Rps.data _ (ku ns) g
   subst e2
   exact ⟨a,rfl,rfl,h4,fun b ms z=>(nomatch z),fun H' ns' h=>.mkL h (w9 ns')⟩
  ·cases hn
 have oa:=hA a List.mem_cons_self
 refine ⟨a,h1,ha,oa,hp,fun H1 H' ns' s sb ha'=>?_⟩
 have ma:MutH H1 a:=.inl ⟨_,s _ _ ha⟩
 have sm:Same (upd H1 a (.lst (ns'.map V.int))) H':=fun b o e=>by
  by_cases hb:b=a
  ·subst hb;rw [zW] at e;cases e;exact ha'
  ·rw [zd hb] at e;exact sb b o hb e
 refine ⟨⟨by rw [List.length_set];exact I.len,fun j q e=>?_,fun b l' e=>?_,fun b o e=>?_⟩,fun b o hb e=>⟨rfl,?_⟩⟩
 ·rw [List.getElem?_set] at e
  by_cases hij:i=j
  ·rw [if_pos hij] at e
   subst hij
   split at e
   ·cases e
    refine ⟨.ref a,[a],h1,hput H' ns' ha',fun z=>?_,fun l' z=>?_⟩
    ·rw [hκ] at z;cases z
    ·rw [hκ] at z;cases z;exact ⟨nd,hA⟩
   ·cases e
  ·rw [if_neg hij] at e
   obtain ⟨v',A',g1,g2,g3,g4⟩:=I.slot j q e
   refine ⟨v',A',g1,Rp.same sm q (Rp.upd ma q (fun z=>?_) (Rp.same s q g2)),g3,g4⟩
   cases hk:κ j with
   | none=>have:=g3 hk a z;rw [oa] at this;cases this
   | some l'=>
    have:=(g4 l' hk).2 a z
    rw [oa] at this
    cases this
    exact hij (hu j hk).symm
 ·obtain ⟨g1,g2⟩:=I.own b l' e
  refine ⟨g1,?_⟩
  by_cases hb:b=a
  ·subst hb;exact .inl ⟨_,ha'⟩
  ·rcases g2.same s with ⟨xs,z⟩ | ⟨xs,z⟩
   ·exact .inl ⟨xs,sb b _ hb z⟩
   ·exact .inr ⟨xs,sb b _ hb z⟩
 ·have hb:b≠a:=fun z=>by rw [z,(I.own a l oa).1] at e;cases e
  exact sb b o hb (s _ _ (I.same _ _ e))
 ·exact sb b o (fun z=>hb (by rw [z];exact oa)) (s _ _ e)
noncomputable abbrev FM:=En->Option (PV × En)
open Classical in
noncomputable def zfr(Φ:List PV->Option (PV × List Int))(p:PV)(ns:List Int)(ps:List PV):Option (PV × List Int):=match p with
 | .pen a _=>Φ (.pen a ns::ps)
 | _=>if ∀ a,Φ (.pen a ns::ps)=Φ (.pen 0 ns::ps) then Φ (.pen 0 ns::ps) else none
theorem zcF{Φ:List PV->Option (PV × List Int)}{p:PV}{ns:List Int}{ps:List PV}{z:PV × List Int}(h:zfr Φ p ns ps=some z){a:Addr}(hp:∀ b ms,p=.pen b ms->b=a):Φ (.pen a ns::ps)=some z:=by
 unfold zfr at h
 split at h
 ·rename_i b ms
  rw [← hp b ms rfl];exact h
 ·split at h
  ·rename_i hq;rw [hq a];exact h
  ·cases h
noncomputable def xv(Φ:List PV->Option (PV × List Int))(i:Nat)(fs:FA):FM:=fun env=>(zA i env).bind fun p=>(fs env).bind fun ps=>(zic p).bind fun ns=>(zfr Φ p ns ps).map fun z=>(z.1,env.set i (some (zeN p z.2)))
noncomputable def tVm(K:PySem.W.Frag)(κ:Nat->Option Nat)(G:Hp)(l:Nat)(f:FM):TE:=fun σ H Q=>∃ own env p e',VI K κ G own env σ H/\f env=some (p,e')/\∀ v H' own' C,VI K κ G own' e' σ H'->ExtL l own H own' H'->Rp K H' p v C->C.Nodup->(∀ b ∈ C,H b=none/\own' b=none)->Q v H'
noncomputable def VEm(X:Cx)(κ:Nat->Option Nat)(G:Hp)(l:Nat)(e:Expr)(f:FM):Prop:=PE X e (tVm X.K κ G l f)
theorem kS{x y:Str}{k n l:Nat}{ps:List Str}{Φ:List PV->Option (PV × List Int)}{p p':Pos}{fs:FA}(i:Nat)(hκ:κ i=some l)(hu:∀ j,κ j=some l->j=i)(hF:Fn X.prog X.w X.K X.mg X.base x k ps (spM X.K n Φ))(hr:Room k X.A)(hg:Gl X x)(hn:PE X (.Name y p') (vg i))(ha:VA X κ G .sh es fs)(hl:es.length+1=n:=by rfl)
  (hdb:(x == ("__debug__":Str))=false:=by decide)(he:starEach (.Name y p'::es) X.env=(false,eval (.Name y p') X.env)::starEach es X.env:=by rfl)(hpl:(backTo pos (starEach es X.env)).any (·.1)=false:=by rfl):
  VEm X κ G l (.Call (.Name x p) (.Name y p'::es) [] pos) (xv Φ i fs):=(zig hF hr hg (zw hn ha.1 he) hdb he hpl).imp fun σ H Q hq_=>by
 obtain ⟨own,env,r,e',I,hf,k⟩:=hq_
 unfold xv at hf
 replace hf:=Option.bind_eq_some_iff.mp hf;obtain ⟨q,hv,hf⟩:=hf
 replace hf:=Option.bind_eq_some_iff.mp hf;obtain ⟨qs,hp,hf⟩:=hf
 replace hf:=Option.bind_eq_some_iff.mp hf;obtain ⟨ns,hns,hf⟩:=hf
 obtain ⟨z,hz,hf⟩:=Option.map_eq_some_iff.mp hf
 cases hf
 obtain ⟨a,hσ,hHa,ho,hpa,turn⟩:=I.penC hκ hu hv hns
 refine ⟨.ref a,hσ,.in I hp fun vs H1 A s1 r1 hc=>⟨a,ns,vs,qs,A,z.1,z.2,by simp,s1 _ _ hHa,r1,fun y=>?_,by rw [ha.2 env qs hp];exact hl,zcF hz hpa,fun v H' C sb ha' rz nd fr=>?_⟩⟩
 ·have:=hc a y
  rw [ho] at this;cases this
 ·obtain ⟨g1,g2⟩:=turn H1 H' z.2 s1 sb ha'
  refine k v H' own C g1 g2 rz nd fun b hb=>⟨s1.free (fr b hb),?_⟩
  cases hob:own b with
  | none=>rfl
  | some l'=>
   obtain ⟨o,hoo⟩:=(I.own b l' hob).2.some
   rw [s1.free (fr b hb)] at hoo;cases hoo
noncomputable abbrev FI:=En->Option (Int × En)
noncomputable def tVi(K:PySem.W.Frag)(κ:Nat->Option Nat)(G:Hp)(l:Nat)(f:FI):TE:=fun σ H Q=>∃ own env i e',VI K κ G own env σ H/\f env=some (i,e')/\∀ H' own',VI K κ G own' e' σ H'->ExtL l own H own' H'->Q (.int i) H'
noncomputable def VEi(X:Cx)(κ:Nat->Option Nat)(G:Hp)(l:Nat)(e:Expr)(f:FI):Prop:=PE X e (tVi X.K κ G l f)
theorem tVi.in{K:PySem.W.Frag}{l:Nat}{σ:St}{H:Hp}{Q:VK}{f:FI}{own:Addr->Option Nat}{env e':En}{i:Int}(I:VI K κ G own env σ H)(hf:f env=some (i,e'))(k:∀ H' own',VI K κ G own' e' σ H'->ExtL l own H own' H'->Q (.int i) H'):tVi K κ G l f σ H Q:=⟨own,env,i,e',I,hf,k⟩
theorem tVi.elim{K:PySem.W.Frag}{l:Nat}{σ:St}{H:Hp}{Q:VK}{f:FI}{C:Prop}(h:tVi K κ G l f σ H Q)(k:∀ own env i e',VI K κ G own env σ H->f env=some (i,e')->(∀ H' own',VI K κ G own' e' σ H'->ExtL l own H own' H'->Q (.int i) H')->C):C:=
 let ⟨own,env,i,e',I,hf,q⟩:=h
 k own env i e' I hf q
noncomputable def va(f:FM):FI:=fun env=>(f env).bind fun z=>match z.1 with | .int r=>some (r,z.2) | _=>none
theorem zhx{l:Nat}{f:FM}(h:VEm X κ G l e f):VEi X κ G l e (va f):=PE.imp h fun σ H Q hq_=>by
 refine hq_.elim fun own env z e' I hf k=>?_
 unfold va at hf
 replace hf:=Option.bind_eq_some_iff.mp hf;obtain ⟨x,hx,hf⟩:=hf
 split at hf
 case h_2=>cases hf
 rename_i r hr
 cases hf
 obtain ⟨x1,x2⟩:=x
 dsimp only at hr
 subst hr
 refine ⟨own,env,_,_,I,hx,fun v H' own' C I' x' r' _ _=>?_⟩
 rw [r'.I.1]
 exact k H' own' I' x'
noncomputable def zei(g:PV->PV->Option PV)(fa:FE)(fb:FI):FI:=fun env=>(fa env).bind fun x=>(fb env).bind fun y=>match x with
 | .int i=>(g (.int i) (.int y.1)).bind fun z=>match z with | .int r=>some (r,y.2) | _=>none
 | _=>none
theorem zev{l:Nat}{op:Operator}{r:R2}{g:PV->PV->Option PV}{fb:FI}(ho:OpR X (binaryOp op) r)(hv:OpV X.K r g)(ha:VE X κ G c a fa)(hb:VEi X κ G l b fb):VEi X κ G l (.BinOp a op b pos) (zei g fa fb):=(zkV ho ha hb).imp fun σ H Q hq_=>by
 refine hq_.elim fun own env z e' I hf k=>?_
 unfold zei at hf
 replace hf:=Option.bind_eq_some_iff.mp hf;obtain ⟨x,hx,hf⟩:=hf
 replace hf:=Option.bind_eq_some_iff.mp hf;obtain ⟨y,hy,hf⟩:=hf
 split at hf
 case h_2=>cases hf
 rename_i i
 replace hf:=Option.bind_eq_some_iff.mp hf;obtain ⟨w,hw,hf⟩:=hf
 split at hf
 case h_2=>cases hf
 cases hf
 refine .in I hx fun v H1 A s1 r1 _=>?_
 obtain ⟨rfl,rfl⟩:=r1.I
 refine tVi.in (I.grow s1) hy fun H2 own2 I2 x2=>?_
 refine hv H2 (.int i) (.int y.1) _ _ [] [] _ Q (.mkI i) (.mkI _) hw fun v H' C s2 r2 nd fr=>?_
 rw [r2.I.1]
 exact k H' own2 (I2.grow s2) ((ExtL.grow s1).trans (x2.trans (ExtL.grow s2)))
theorem zof{K:PySem.W.Frag}{l:Nat}{r:R2}{g:PV->PV->Option PV}{fa:FI}{Q:VK}{σ:St}{H:Hp}{own:Addr->Option Nat}{env e':En}{i j:Int}{z:PV}(hv:OpV K r g)(I:VI K κ G own env σ H)(hx:fa env=some (i,e'))(hy:fb e'=some (.int j))(hz:g (.int i) (.int j)=some z)
  (k:∀ v H' own',VI K κ G own' e' σ H'->ExtL l own H own' H'->(∃ C,Rp K H' z v C)->Q v H'):tOp r (tVi K κ G l fa) (tV K κ G c fb) σ H Q:=by
 refine tVi.in I hx fun H1 own1 I1 x1=>.in I1 hy fun v H2 A s1 r1 _=>?_
 obtain ⟨rfl,rfl⟩:=r1.I
 exact hv H2 (.int i) (.int j) _ _ [] [] z Q (.mkI i) (.mkI j) hz fun v H' C s2 r2 nd fr=>k v H' own1 (I1.grow (s1.trans s2)) (x1.trans (ExtL.grow (s1.trans s2))) ⟨C,r2⟩
noncomputable abbrev FB:=En->Option (Bool × En)
noncomputable def zmL(K:PySem.W.Frag)(κ:Nat->Option Nat)(G:Hp)(l:Nat)(f:FB):TT:=fun σ H Q=>∃ own env b e',VI K κ G own env σ H/\f env=some (b,e')/\∀ H' own',VI K κ G own' e' σ H'->ExtL l own H own' H'->Q b H'
noncomputable def VTi(X:Cx)(κ:Nat->Option Nat)(G:Hp)(l:Nat)(e:Expr)(f:FB):Prop:=PT X e (zmL X.K κ G l f)
noncomputable def zcu(g:PV->PV->Option PV)(fa:FI)(fb:FE):FB:=fun env=>(fa env).bind fun x=>(fb x.2).bind fun y=>match y with
 | .int j=>(g (.int x.1) (.int j)).bind fun z=>match z with | .bl r=>some (r,x.2) | _=>none
 | _=>none
theorem zhw{l:Nat}{op:CmpOp}{r:R2}{g:PV->PV->Option PV}{fa:FI}(ho:OpR X (compareOp op) r)(hv:OpV X.K r g)(ha:VEi X κ G l a fa)(hb:VE X κ G c b fb)(hm:behindInMarks op b=false):VTi X κ G l (.Compare a [op] [b] pos) (zcu g fa fb):=(zfL ho ha hb hm).imp fun σ H Q hq_=>by
 obtain ⟨own,env,z,e',I,hf,k⟩:=hq_
 unfold zcu at hf
 replace hf:=Option.bind_eq_some_iff.mp hf;obtain ⟨x,hx,hf⟩:=hf
 replace hf:=Option.bind_eq_some_iff.mp hf;obtain ⟨y,hy,hf⟩:=hf
 split at hf
 case h_2=>cases hf
 replace hf:=Option.bind_eq_some_iff.mp hf;obtain ⟨w,hw,hf⟩:=hf
 split at hf
 case h_2=>cases hf
 cases hf
 refine zof hv I hx hy hw fun v H' own' I' x' r'=>?_
 obtain ⟨C,r2⟩:=r'
 exact ⟨_,r2.B.1,k H' own' I' x'⟩
theorem zah{i:Nat}:∀ j,ko O j=some i->j=i:=fun j h=>(kn h).symm
noncomputable def zga(x:Nat)(f:FM):FS:=fun env=>(f env).map fun r=>.nx (r.2.set x (some r.1))
theorem zjy{l:Nat}{f:FM}{x:Nat}(hk:x ∉ O)(hp:PS X st (jF (tVm X.K (ko O) G l f) (uM x))):VS X (ko O) G st (zga x f):=hp.imp fun D σ H hq_=>by
 refine hq_.elim fun own env o I hf k=>?_
 obtain ⟨r,hr,hf⟩:=Option.map_eq_some_iff.mp hf
 subst hf
 exact ⟨own,env,_,_,I,hr,fun v H' own' C I' x' r' _ fr=>k own' _ H' (I'.set_sh (qT hk) r' fun b hb=>(fr b hb).2) x'.ext⟩
noncomputable def zbn(x:Nat)(f:FI):FS:=fun env=>(f env).map fun r=>.nx (r.2.set x (some (.int r.1)))
theorem zcH{l:Nat}{f:FI}{x:Nat}(hk:x ∉ O)(hp:PS X st (jF (tVi X.K (ko O) G l f) (uM x))):VS X (ko O) G st (zbn x f):=hp.imp fun D σ H hq_=>by
 refine hq_.elim fun own env o I hf k=>?_
 obtain ⟨r,hr,hf⟩:=Option.map_eq_some_iff.mp hf
 subst hf
 refine tVi.in I hr fun H' own' I' x'=>?_
 exact k own' _ H' (I'.set_sh (qT hk) (.mkI _) (by simp)) x'.ext
end
section
variable {X:Cx} {κ:Nat->Option Nat} {G:Hp} {O:List Nat} {fs:FA} {bnd:PV->En->Option En} {t:FB} {f:FE} {ow:List Str} {js Bs:List Nat} {tg elt iter e:Expr} {ifs:List Expr} {scope:Scope} {pos:Pos}
noncomputable def clr(n:Nat)(e:En):En:=List.replicate n none++e.drop n
noncomputable def ux(n:Nat)(bnd:PV->En->Option En)(t:FB)(f:FE):List PV->En->Option (List Int × En)
 | [],env=>some ([],env)
 | p::ps,env=>(bnd p env).bind fun e1=>(t e1).bind fun b=>if b.1=true then (f b.2).bind fun y=>match y with
   | .int z=>(ux n bnd t f ps (clr n b.2)).map fun r=>(z::r.1,r.2)
   | _=>none
  else ux n bnd t f ps (clr n b.2)
noncomputable def ziY(src:FA)(n:Nat)(js:List Nat)(i q:Nat)(bnd:PV->En->Option En)(t:FB)(f:FE):FM:=fun env=>(src env).bind fun ps=>if ps.length≤100000 then (ux n bnd t f ps (cE n js env)).bind fun r=>(r.2[q]?).join.map fun z=>(.lst (r.1.map .int),env.set i (some z)) else none
theorem VI.clr{K:PySem.W.Frag}{own:Addr->Option Nat}{env:En}{σ:St}{H:Hp}{n:Nat}(I:VI K κ G own env σ H)(hn:n≤env.length):VI K κ G own (F.clr n env) σ H:=by
 refine ⟨?_,fun i p e=>I.slot i p ?_,I.own,I.same⟩
 ·unfold F.clr
  rw [List.length_append,List.length_replicate,List.length_drop,← I.len];omega
 ·unfold F.clr at e
  by_cases hi:i<n
  ·rw [List.getElem?_append_left (by rw [List.length_replicate];exact hi),List.getElem?_replicate,if_pos hi] at e;cases e
  ·rw [List.getElem?_append_right (by rw [List.length_replicate];omega),List.length_replicate,List.getElem?_drop,show n+(i - n)=i by omega] at e
   exact e
theorem VI.updD{K:PySem.W.Frag}{own:Addr->Option Nat}{env:En}{σ:St}{H:Hp}{D:Addr}{m:Nat}{ys ys':List V}(I:VI K κ G own env σ H)(oD:own D=some m)(hk:∀ j,κ j≠some m)(hD:H D=some (.lst ys)):VI K κ G own env σ (upd H D (.lst ys')):=by
 have mD:MutH H D:=.inl ⟨_,hD⟩
 refine ⟨I.len,fun i p e=>?_,fun b l z=>?_,fun b o z=>?_⟩
 ·obtain ⟨v,A,h1,h2,h3,h4⟩:=I.slot i p e
  refine ⟨v,A,h1,Rp.upd mD p (fun z=>?_) h2,h3,h4⟩
  cases hi:κ i with
  | none=>have:=h3 hi D z;rw [oD] at this;cases this
  | some l=>
   have:=(h4 l hi).2 D z
   rw [oD] at this
   cases this
   exact hk i hi
 ·obtain ⟨g1,g2⟩:=I.own b l z
  refine ⟨g1,?_⟩
  by_cases hb:b=D
  ·subst hb;exact .inl ⟨_,zW⟩
  ·rcases g2 with ⟨xs,z⟩ | ⟨xs,z⟩
   ·exact .inl ⟨xs,by rw [zd hb];exact z⟩
   ·exact .inr ⟨xs,by rw [zd hb];exact z⟩
 ·have hb:b≠D:=fun y=>by rw [y,(I.own D m oD).1] at z;cases z
  rw [zd hb];exact I.same b o z
theorem zgE {K : PySem.W.Frag} {l q i0 : Nat} (hκ : κ i0 = some l) (hu : ∀ j, κ j = some l → j = i0) (hm : ∀ j, κ j ≠ some 1000000) (hq0 : ow.length ≤ q) (hq1 : js[q - ow.length]? = some i0) (hB : ∀ i ∈ Bs, i < ow.length) (σ : St) (H : Hp) (Q : VK)
    (hq : tVm K κ G l (ziY fs ow.length js i0 q bnd t f) σ H Q) :
    zfD (tVI K κ G true fs) ow js (fun _ _ _ _ => tVG K (cK ow.length js κ) G Bs bnd) (fun _ _ _ _ => zmL K (cK ow.length js κ) G l t) (fun _ _ _ _ => tV K (cK ow.length js κ) G .bo f) σ H Q := by
  obtain ⟨own, env, w, e', I, e, k⟩ := hq
  unfold ziY at e
  replace e := Option.bind_eq_some_iff.mp e; obtain ⟨ps, hp, e⟩ := e
  split at e
  case isFalse => cases e
  rename_i hlen
  replace e := Option.bind_eq_some_iff.mp e; obtain ⟨r, hr, e⟩ := e
  obtain ⟨z, hz, e⟩ := Option.map_eq_some_iff.mp e
  cases e
  have hl : l ≠ 1000000 := fun y => hm i0 (by rw [hκ, y])
  have hmc : ∀ j, cK ow.length js κ j ≠ some 1000000 := fun j y => by
    unfold cK at y
    split at y
    · cases y
    · split at y
      · exact hm _ y
      · cases y
  have hcq : cK ow.length js κ q = some l := by
    unfold cK
    rw [if_neg (Nat.not_lt_of_le hq0), hq1]; exact hκ
  refine tVI.in I hp fun J H1 s1 hw C s₀ H₀ fp D hD => ?_
  have I0 := I.grow s1
  have I1 : VI K (cK ow.length js κ) G own (cE ow.length js env) (cS ow js σ) H1 := I0.block
  have sD : Same H1 (upd H1 D (.lst [])) := z0 (Same.refl _) hD
  have IM := I1.mark hD sD zW
  have neD : ∀ b o, H1 b = some o → b ≠ D := fun b o h y => by rw [y, hD] at h; cases h
  refine ⟨fun i m σ1 H2 => ∃ own2 envc zs r2, VI K (cK ow.length js κ) G own2 envc σ1 H2 ∧ (∀ b o, own b ≠ some l → H1 b = some o → own2 b = own b ∧ H2 b = some o) ∧ own2 D = some 1000000 ∧ H2 D = some (.lst (List.map V.int zs)) ∧ σ1[q]? = (cS ow js σ)[q]? ∧ ow.length ≤ envc.length ∧
      ux ow.length bnd t f (ps.drop i) envc = some r2 ∧ r.1 = zs ++ r2.1 ∧ r.2 = r2.2 ∧ i ≤ ps.length ∧ zs.length ≤ i ∧ m = ps.length - i,
    ⟨ps.length, kj own D, cE ow.length js env, [], r, IM, fun b o hb h => ⟨ki (neD b o h), sD b o h⟩, if_pos rfl, zW, rfl, by simp [cE], by rw [List.drop_zero]; exact hr, rfl, rfl, Nat.zero_le _, Nat.le_refl _, by simp⟩, ?_⟩
  rintro i m σ1 H2 ⟨own2, envc, zs, r2, I2, ex, oD, hD2, hσ, hen, h2, hz1, hz2, hi, hzl, rfl⟩
  have st : Stay own H1 H2 := fun b o hb h => (ex b o (by rw [hb]; exact fun y => nomatch y) h).2
  have Wk := hw i H2 (show (if true = true then Stay own H1 H2 else Same H1 H2) by rw [if_pos rfl]; exact st)
  by_cases hlt : i < ps.length
  · have hpi : ps[i]? = some ps[i] := List.getElem?_eq_getElem hlt
    obtain ⟨go, yl⟩ := Wk.1 _ hpi
    refine .inr ⟨go, fun x H3 hyl => ?_⟩
    obtain ⟨s3, A, r3, hA⟩ := yl x H3 hyl
    rw [List.drop_eq_getElem_cons hlt] at h2
    unfold ux at h2
    replace h2 := Option.bind_eq_some_iff.mp h2; obtain ⟨e1, hb1, h2⟩ := h2
    replace h2 := Option.bind_eq_some_iff.mp h2; obtain ⟨b, ht, h2⟩ := h2
    obtain ⟨bb, e2⟩ := b
    dsimp only at h2
    refine ⟨own2, envc, ps[i], A, e1, I2.grow s3, r3, fun a ha => ?_, hb1, fun σ2 I3 q3 l3 => ?_⟩
    · obtain ⟨oa, o, ho⟩ := hA a ha
      rw [(ex a o (by rw [oa]; exact fun y => nomatch y) ho).1]; exact oa
    refine ⟨own2, e1, bb, e2, I3, ht, fun H5 own3 I5 x5 => ?_⟩
    obtain ⟨o3, hD5⟩ := x5 D _ (by rw [oD]; exact fun y => hl (Option.some.inj y).symm) (s3 _ _ hD2)
    rw [oD] at o3
    have ex5 : ∀ b o, own b ≠ some l → H1 b = some o → own3 b = own b ∧ H5 b = some o := fun b o hb h => by
      obtain ⟨g1, g2⟩ := ex b o hb h
      obtain ⟨g3, g4⟩ := x5 b o (by rw [g1]; exact hb) (s3 _ _ g2)
      exact ⟨g3.trans g1, g4⟩
    have hσ2 : σ2[q]? = (cS ow js σ)[q]? := (q3 q fun y => absurd (hB q y) (Nat.not_lt_of_le hq0)).trans hσ
    have hn2 : ow.length ≤ e2.length := by
      have a1 := I5.len
      have a2 := I2.len
      omega
    have hcl : ow.length ≤ (F.clr ow.length e2).length := by
      unfold F.clr
      rw [List.length_append, List.length_replicate]; omega
    have I6 := I5.clr hn2
    cases bb with
    | false =>
      rw [if_neg Bool.false_ne_true] at h2
      exact ite_ff ⟨ps.length - (i + 1), by omega, own3, _, zs, r2, I6, ex5, o3, hD5, hσ2, hcl, h2, hz1, hz2, hlt, by omega, rfl⟩
    | true =>
      rw [if_pos rfl] at h2
      replace h2 := Option.bind_eq_some_iff.mp h2; obtain ⟨y, hy, h2⟩ := h2
      split at h2
      case h_2 => cases h2
      rename_i zz
      obtain ⟨r4, hr4, h2⟩ := Option.map_eq_some_iff.mp h2
      subst h2
      refine ite_tt (.in I5 hy fun y' H6 C6 s6 r6 _ => ?_)
      obtain ⟨rfl, rfl⟩ := r6.I
      have hD6 := s6 _ _ hD5
      refine ⟨zs.map V.int, hD6, by rw [List.length_map, sizeLine_eq]; omega, ps.length - (i + 1), by omega, own3, _, zs ++ [zz], r4, (I6.grow s6).updD o3 hmc hD6, fun b o hb h => ?_, o3, by rw [zW, List.map_append]; rfl, hσ2, hcl, hr4, by rw [hz1, List.append_assoc]; rfl, hz2, hlt, by rw [List.length_append, List.length_singleton]; omega, rfl⟩
      obtain ⟨g1, g2⟩ := ex5 b o hb h
      exact ⟨g1, by rw [zd (neD b o h)]; exact s6 _ _ g2⟩
  · have ei : i = ps.length := by omega
    subst ei
    rw [List.drop_length] at h2
    cases h2
    refine .inl ⟨Wk.2 (Nat.le_refl _), ?_⟩
    rw [List.append_nil] at hz1
    dsimp only at hz2
    let own' : Addr → Option Nat := fun b => if b = D then none else own2 b
    have own'_ne : ∀ b, b ≠ D → own' b = own2 b := fun b hb => if_neg hb
    rw [hz1] at k
    refine k (.ref D) H2 own' [D] ⟨by rw [List.length_set]; exact I.len, fun j p h => ?_, fun b l' h => ?_, I2.same⟩ (fun b o hb h => ?_) (.mkL hD2 (w9 zs)) (by simp) (fun b hb => ?_)
    · rw [List.getElem?_set] at h
      by_cases hj : i0 = j
      · subst hj
        rw [if_pos rfl] at h
        split at h
        · cases h
          rw [hz2] at hz
          have hzq : envc[q]? = some (some z) := by
            cases y : envc[q]? with
            | none => rw [y] at hz; cases hz
            | some u => rw [y] at hz; have : u = some z := by simpa using hz
                        rw [this]
          obtain ⟨v, A, g1, g2, g3, g4⟩ := I2.slot q z hzq
          refine ⟨v, A, ?_, g2, fun y => ?_, fun l' y => ?_⟩
          · rw [hσ] at g1
            unfold cS at g1
            rw [List.getElem?_append_right (by rw [List.length_map]; exact hq0), List.length_map, List.getElem?_map, hq1] at g1
            have g1' : (σ[i0]?).join = some v := Option.some.inj g1
            cases y : σ[i0]? with
            | none => rw [y] at g1'; cases g1'
            | some u => rw [y] at g1'; have : u = some v := by simpa using g1'
                        rw [this]
          · rw [hκ] at y; cases y
          · rw [hκ] at y; cases y
            obtain ⟨nd, hA⟩ := g4 l hcq
            refine ⟨nd, fun a ha => ?_⟩
            rw [own'_ne a (fun y => by have := hA a ha; rw [y, oD] at this; exact hl (Option.some.inj this).symm)]
            exact hA a ha
        · cases h
      · rw [if_neg hj] at h
        obtain ⟨v, A, g1, g2, g3, g4⟩ := I0.slot j p h
        have hA : ∀ a ∈ A, own a ≠ some l := fun a ha y => by
          cases hk : κ j with
          | none => rw [g3 hk a ha] at y; cases y
          | some l' =>
            rw [(g4 l' hk).2 a ha] at y
            cases y
            exact hj (hu j hk).symm
        have oA : ∀ a ∈ A, own' a = own a := fun a ha => by
          obtain ⟨o, ho⟩ := g2.alloc ha
          rw [own'_ne a (neD a o ho)]
          exact (ex a o (hA a ha) ho).1
        refine ⟨v, A, g1, Rp.stay (own := fun b => if own b = some l then some l else none) (fun b o hb h => (ex b o (fun y => ?_) h).2) (fun b l' h => ?_) p (fun a ha => if_neg (hA a ha)) g2, fun y a ha => (oA a ha).trans (g3 y a ha), fun l' y => ⟨(g4 l' y).1, fun a ha => (oA a ha).trans ((g4 l' y).2 a ha)⟩⟩
        · have hb' : (if own b = some l then some l else none) = none := hb
          rw [if_pos y] at hb'; cases hb'
        · have h' : (if own b = some l then some l else none) = some l' := h
          split at h'
          · rename_i y; exact (I0.own b l y).2
          · cases h'
    · have hb : b ≠ D := fun y => by
        have h' : own' D = some l' := y ▸ h
        rw [show own' D = none from if_pos rfl] at h'; cases h'
      rw [own'_ne b hb] at h
      exact I2.own b l' h
    · have h1' := s1 _ _ h
      obtain ⟨g1, g2⟩ := ex b o hb h1'
      exact ⟨(own'_ne b (neD b o h1')).trans g1, g2⟩
    · rw [List.mem_singleton.mp hb]
      exact ⟨s1.free hD, if_pos rfl⟩
end
section
variable {X:Cx} {κ:Nat->Option Nat} {G:Hp} {O:List Nat} {st:Stmt} {fs:FA} {bnd:PV->En->Option En} {t:FB} {f:FE} {ow:List Str} {js Bs:List Nat} {tg elt iter e:Expr} {ifs:List Expr} {scope:Scope} {pos:Pos}
theorem zkJ{n q l:Nat}{js:List Nat}(nd:js.Nodup)(hq:n≤q)(h1:js[q - n]?=some l):∀ j,cK n js (ko O) j=some l->j=q:=fun j h=>by
 unfold cK at h
 split at h
 ·cases h
 ·rename_i hj
  split at h
  ·rename_i j' hj'
   have:=kn h
   subst this
   obtain ⟨a1,a2⟩:=List.getElem?_eq_some_iff.mp hj'
   obtain ⟨b1,b2⟩:=List.getElem?_eq_some_iff.mp h1
   have:j - n=q - n:=by
    rcases Nat.lt_trichotomy (j - n) (q - n) with z | z | z
    ·exact absurd (a2.trans b2.symm) (List.pairwise_iff_getElem.mp nd _ _ a1 b1 z)
    ·exact z
    ·exact absurd (b2.trans a2.symm) (List.pairwise_iff_getElem.mp nd _ _ b1 a1 z)
   omega
  ·cases h
theorem ziC(h:1000000 ∉ O):∀ j,ko O j≠some 1000000:=fun j z=>by
 have:=kn z
 subst this
 unfold ko at z
 rw [if_neg h] at z;cases z
theorem zlE{i q:Nat}{x:Nat}{y:Str}{py spos:Pos}(hκ:ko O i=some i)(hO:1000000 ∉ O)(hq0:ow.length≤q)(hq1:js[q - ow.length]?=some i)(hN:X.N.Nodup)(hi':X.N[x]?=some y)(hx:Loc X.env.scope y)(hB:∀ i ∈ Bs,i<ow.length)(hc:X.calm=true)(hi:VIt X (ko O) G true tg iter fs)(hg:∀ C s₀ H₀ fp,VG (yg X ow js scope C s₀ H₀ fp) (cK ow.length js (ko O)) G Bs tg bnd)
  (ht:∀ C s₀ H₀ fp,VTi (yg X ow js scope C s₀ H₀ fp) (cK ow.length js (ko O)) G i e t)(he:∀ C s₀ H₀ fp,VE (yg X ow js scope C s₀ H₀ fp) (cK ow.length js (ko O)) G .bo elt f)
  (ok:zbA js scope X.env.kindOf X.N=true:=by first | rfl | decide +kernel)(hs:∀ x,foldedSetIterable iter X.env x=pure x:=by intro _;rfl)
  (hsw:swapsWith (.ListComp elt [⟨tg,iter,[e],0⟩] scope pos) (some (.Name y py)) spos.line X.env=pure true:=by rfl)(hf:X.fn y=true∨X.env.scope.names.lookup y=some .local:=by first | exact .inl rfl | exact .inr rfl | assumption):
  PS X (.Assign [.Name y py] (.ListComp elt [⟨tg,iter,[e],0⟩] scope pos) spos) (jF (tVm X.K (ko O) G i (ziY fs ow.length js i q bnd t f)) (uM x)):=
 (zfM (own:=ow) (js:=js) hN hi' hx hc hi hg (fun C s₀ H₀ fp=>zfK (ht C s₀ H₀ fp)) he ok hs hsw hf).imp fun D σ H h=>zgE hκ (fun j h=>(kn h).symm) (ziC hO) hq0 hq1 hB σ H _ h
noncomputable def zak(i j:Nat)(f:FI):FS:=fun env=>match zA i env,zA j env with
 | some (.lst _),some (.lst _)=>(f env).bind fun r=>match zA j r.2 with
  | some (.lst qs)=>(vw qs).bind fun ns=>if 0≤r.1/\r.1<ns.length/\ns.length≤100000 then (ns[r.1.toNat]?).bind fun z=>match zA i (r.2.set j (some (.lst ((ns.eraseIdx r.1.toNat).map .int)))) with
    | some (.lst ps)=>if isDatas ps=true/\ps.length<100000 then some (.nx ((r.2.set j (some (.lst ((ns.eraseIdx r.1.toNat).map .int)))).set i (some (.lst (ps++[.int z]))))) else none
    | _=>none
   else none
  | _=>none
 | _,_=>none
theorem zcw{α β:Type}(f:α->β):∀ (l:List α) (k:Nat),(l.map f).eraseIdx k=(l.eraseIdx k).map f
 | [],_=>rfl
 | _::_,0=>rfl
 | x::l,k+1=>by rw [List.map_cons,List.eraseIdx_cons_succ,List.eraseIdx_cons_succ,List.map_cons,zcw f l k]
theorem zgx{l:Nat}{f:FI}(i j:Nat)(hi:i ∈ O)(hj:j ∈ O)(hp:PS X st (zax (tBM X.K "list" kd (vg i) (kY (tBM X.K "list" zeI (vg j) (kY (tVi X.K (ko O) G l f) zcJ)) zcJ)))):VS X (ko O) G st (zak i j f):=hp.imp fun D σ H hq_=>by
 refine hq_.elim fun own env o I hf k=>?_
 unfold zak at hf
 split at hf
 case h_2=>cases hf
 rename_i p0 q0 hvi hvj
 replace hf:=Option.bind_eq_some_iff.mp hf;obtain ⟨r,hr,hf⟩:=hf
 obtain ⟨r,e1⟩:=r
 dsimp only at hf
 split at hf
 case h_2=>cases hf
 rename_i qs hvj1
 replace hf:=Option.bind_eq_some_iff.mp hf;obtain ⟨ns,hns,hf⟩:=hf
 split at hf
 case isFalse=>cases hf
 rename_i hc
 replace hf:=Option.bind_eq_some_iff.mp hf;obtain ⟨z,hz,hf⟩:=hf
 split at hf
 case h_2=>cases hf
 rename_i ps hvi2
 split at hf
 case isFalse=>cases hf
 rename_i hd
 cases hf
 have:=uL hns
 subst this
 obtain ⟨a,xs,Ba,hσa,ha,_⟩:=uC hi I hvi
 obtain ⟨b,ys,Bb,hσb,hb,_⟩:=uC hj I hvj
 refine ⟨.ref a,hσa,.inl ⟨rfl,xs,SqL.of ha⟩,.ref b,hσb,.inl ⟨rfl,ys,SqL.of hb⟩,tVi.in I hr fun H1 own1 I1 x1=>?_⟩
 obtain ⟨b',ys1,Bb1,hσb1,hb1,rb1,ndb,ob1,_⟩:=uC hj I1 hvj1
 rw [hσb] at hσb1
 cases hσb1
 have e2:=jM rb1
 subst e2
 have hlt:r.toNat<ns.length:=by omega
 refine ⟨b,ns.map V.int,r,r.toNat,.int z,rfl,rfl,hb1,by omega,?_,?_,by rw [List.getElem?_map,hz];rfl,?_⟩
 ·omega
 ·rw [List.length_map]
  exact PySem.StrLaws.seqIndex_nonneg hc.1 hc.2.1
 ·have er:(ns.map V.int).eraseIdx r.toNat=(ns.eraseIdx r.toNat).map V.int:=zcw _ _ _
  obtain ⟨g1,g2⟩:=I1.turn (p:=.lst ((ns.eraseIdx r.toNat).map .int)) (o:=.lst ((ns.map V.int).eraseIdx r.toNat)) (B:=[]) hj (Same.refl _) hσb ob1 (.inl ⟨_,hb1⟩) (.mkL zW (by rw [er];exact w9 _)) (by simp) (by simp)
  obtain ⟨a',xs2,Ba2,hσa2,ha2,ra2,nda,oa2,hBa2⟩:=uC hi g1 hvi2
  rw [hσa] at hσa2
  cases hσa2
  have eB:=Rps.data ps hd.1 ra2
  subst eB
  refine ⟨a,xs2,.int z,rfl,rfl,ha2,by rw [← ra2.length,sizeLine_eq];omega,?_⟩
  obtain ⟨g3,g4⟩:=g1.turn (p:=.lst (ps++[.int z])) (o:=.lst (xs2++[.int z])) (B:=[]) hi (Same.refl _) hσa oa2 (.inl ⟨_,ha2⟩) (.mkL zW ((Rps.upd (.inl ⟨_,ha2⟩) ps (by simp) ra2).append (Rps.one (.mkI z)))) (by simp) (by simp)
  exact k _ _ _ g3 (x1.ext.trans (g2.trans g4))
end
section
variable {X:Cx} {κ:Nat->Option Nat} {G:Hp} {e:Expr} {es:List Expr} {f:FE} {fs:FA} {pos:Pos}
noncomputable def kG(Φ:List PV->Option (PV × List Int))(f:FE)(fs:FA):FE:=fun env=>(f env).bind fun p=>(fs env).bind fun ps=>match p with
 | .lst qs=>(vw qs).bind fun ns=>if isDatas ps=true then (zfr Φ (.lst qs) ns ps).map fun z=>z.1 else none
 | _=>none
theorem zaq{x:Str}{k n:Nat}{ps:List Str}{Φ:List PV->Option (PV × List Int)}{p:Pos}{c:Cat}(hF:Fn X.prog X.w X.K X.mg X.base x k ps (spM X.K n Φ))(hr:Room k X.A)(hg:Gl X x)(h0:VE X κ G (.mv []) e f)(ha:VA X κ G c es fs)(hl:es.length+1=n:=by rfl)
  (hdb:(x == ("__debug__":Str))=false:=by decide)(he:starEach (e::es) X.env=(false,eval e X.env)::starEach es X.env:=by rfl)(hpl:(backTo pos (starEach es X.env)).any (·.1)=false:=by rfl):
  VE X κ G (.mv []) (.Call (.Name x p) (e::es) [] pos) (kG Φ f fs):=(zig hF hr hg (zw h0 ha.1 he) hdb he hpl).imp fun σ H Q hq_=>by
 refine hq_.elim fun own env r I hf k=>?_
 unfold kG at hf
 replace hf:=Option.bind_eq_some_iff.mp hf;obtain ⟨q,hv,hf⟩:=hf
 replace hf:=Option.bind_eq_some_iff.mp hf;obtain ⟨qs,hp,hf⟩:=hf
 split at hf
 case h_2=>cases hf
 rename_i is
 replace hf:=Option.bind_eq_some_iff.mp hf;obtain ⟨ns,hns,hf⟩:=hf
 split at hf
 case isFalse=>cases hf
 rename_i hd
 obtain ⟨z,hz,hf⟩:=Option.map_eq_some_iff.mp hf
 subst hf
 have:=uL hns
 subst this
 refine .in I hv fun v H1 A s1 r1 hc=>.in (I.grow s1) hp fun vs H2 B s2 r2 _=>?_
 obtain ⟨a,xs,B',rfl,h1,rfl,g⟩:=r1.L
 have e1:=jM g
 subst e1
 have e2:=Rps.data _ hd r2
 subst e2
 have hHa:H a=none:=(hc.2 a List.mem_cons_self).elim id fun ⟨_,y,_⟩=>nomatch y
 refine ⟨a,ns,vs,qs,[],z.1,z.2,by simp,s2 _ _ h1,r2,by simp,by rw [ha.2 env qs hp];exact hl,zcF hz (fun b ms y=>nomatch y),fun v H' C sb ha' rz nd fr=>?_⟩
 have s12:=s1.trans s2
 refine k v H' C (fun b o h=>sb b o (fun y=>by rw [y,hHa] at h;cases h) (s12 b o h)) rz ⟨nd,fun b hb=>.inl (s12.free (fr b hb))⟩
end
end F
namespace F
open PySem
namespace Tab
noncomputable def qi(mask:Nat):Nat->Nat->Nat
 | 0,i=>i
 | n+1,i=>qi mask n ((i * 5+1) % (mask+1))
theorem zgI(mask:Nat):∀ (a b i:Nat),qi mask (a+b) i=qi mask b (qi mask a i)
 | 0,b,i=>by rw [Nat.zero_add];rfl
 | a+1,b,i=>by rw [Nat.succ_add];exact zgI mask a b _
noncomputable def zmC(mask:Nat):Prop:=qi mask (mask+1) 0=0/\∀ j,j≤mask->∃ a,a≤mask/\qi mask a 0=j
noncomputable def zil(mask:Nat):Nat->Nat->List Nat
 | 0,_=>[]
 | n+1,i=>i::zil mask n ((i * 5+1) % (mask+1))
theorem zcn(mask:Nat):∀ (n i j:Nat),j ∈ zil mask n i->∃ a,a<n/\qi mask a i=j
 | 0,i,j,h=>by cases h
 | n+1,i,j,h=>by
  rcases List.mem_cons.mp h with rfl | h
  ·exact ⟨0,Nat.succ_pos _,rfl⟩
  ·obtain ⟨a,ha,e⟩:=zcn mask n _ j h
   exact ⟨a+1,Nat.succ_lt_succ ha,e⟩
theorem zkB{mask:Nat}(h1:qi mask (mask+1) 0=0)(h2:((List.range (mask+1)).all fun j=>(zil mask (mask+1) 0).contains j)=true):zmC mask:=by
 refine ⟨h1,fun j hj=>?_⟩
 have:=List.all_eq_true.mp h2 j (List.mem_range.mpr (Nat.lt_succ_of_le hj))
 obtain ⟨a,ha,e⟩:=zcn mask (mask+1) 0 j (List.contains_iff_mem.mp this)
 exact ⟨a,Nat.le_of_lt_succ ha,e⟩
theorem zoO:zmC 7:=zkB (by decide +kernel) (by decide +kernel)
structure Laid (mask:Nat) (owner:Array (Option Nat)) (k:Nat):Prop where
 size:owner.size=mask+1
 perm:(owner.toList.filterMap id).Perm (List.range k).reverse
noncomputable def zoH(xs:Array Nat):Prop:=xs.toList.Pairwise (·<·)
structure Good (t:SetTable) (n:Nat) (led:Bool):Prop where
 full:zmC t.mask
 size:t.place.size=n
 room:n≤t.mask
 dm:t.dummies=#[]
 rise:zoH t.place
 le:∀ j ∈ t.place.toList,j≤t.mask
 led:t.led=led
 plain:t.plain=true
end Tab
end F
namespace F
open PySem PySem.Spec PyProof.Rows
noncomputable def elN(e:Int × Value):Int:=numOf e.2
structure SetTb (prog:Program) (w:World) (es:Array (Int × Value)) (t:SetTable) (L:List Int) (led:Bool):Prop where
 el:ElemsOf (intKind prog w) es.toList
 perm:(es.toList.map elN).Perm L
 good:Tab.Good t es.size led
 mask:t.mask=7∨t.mask=31∨t.mask=127
 nf:es.size * 5<t.mask * 3
noncomputable def zpa(prog:Program)(w:World)(h:Heap)(a:Addr)(L:List Int)(led:Bool):Prop:=∃ o es ep t,h.get? a=some o/\o.ExactSet/\o.data=.set es ep t/\SetTb prog w es t L led
end F
namespace F
open PySem PySem.Spec PyProof.Rows PySem.W
noncomputable def zpb(h:Heap)(it a:Addr)(slot i n ep:Nat):Prop:=∃ o,h.get? it=some o/\o.cls=.type "set_iterator"/\o.data=.fields #[.int slot 0,.int i 0,.ref a,.int n 0,.int ep 0]
noncomputable def zoY(h:Heap)(a:Addr)(es:Array (Int × Value))(ep:Nat)(t:SetTable):Prop:=∃ o,h.get? a=some o/\o.ExactSet/\o.data=.set es ep t
end F
namespace L2
open PySem PySem.Spec PyProof.Rows F
end L2
namespace F
open PySem PySem.Spec PyProof.Rows L2
end F
namespace L2
open PySem PySem.Spec PyProof.Rows PySem.W
end L2
namespace F
open PySem PySem.Spec PyProof.Rows L2
end F
namespace HT
open PySem PySem.Spec PyProof.Rows
end HT
namespace L2
open PySem PySem.Spec PyProof.Rows
end L2
namespace F
open PySem PySem.Spec PyProof.Rows L2
section
variable {X:Cx} {κ:Nat->Option Nat} {G:Hp} {O:List Nat} {st:Stmt} {es:List Expr} {pos:Pos}
noncomputable def zoP(O':List Nat)(own:Addr->Option Nat):Addr->Option Nat:=fun a=>(own a).bind fun l=>if l ∈ O' then some l else none
end
end F
namespace F
open PySem PySem.Spec PyProof.Rows L2 PySem.W
inductive Df (K:PySem.W.Frag) (x:Str) (st:Stmt):Prop
 | mk {f:Addr} {oc:Value} {od:Option Addr} {kV dc pm:Value} {an:Option Addr} {cd ct:Value} {sl:Array (Option Value)} (a:nsIn K mainGlobals x=some (some (.ref f))) (l:K.lookup f=some ⟨oc,od,.func (fnOf x x (uz st) (wQ st) (zN st) .none kV dc pm an cd ct),sl⟩) (c:codeIn K cd x=true) (k:keepIn K (.ref f)=true):Df K x st
theorem Df.fn{P:Program}{w:World}{K:PySem.W.Frag}{h:Heap}{mg:Str->Option Value}{base:Heap}{x:Str}{st:Stmt}{k:Nat}{ps:List Str}{sp:Sp}(d:Df K x st)(X:K.In h)(G:h.Ns mainGlobals mg)(ok:∀ f fd,Fun K x x st f fd->FnOk P w K mg base CX0 k f fd ps sp)
  (hb:∀ (kV doc pm:Value) (an:Option Addr) (cdv ct:Value) (us:List Value),us.length=ps.length->bindArgs (PySem.W.fnOf x x (uz st) (wQ st) (zN st) .none kV doc pm an cdv ct) ⟨us,[]⟩=pure (ps.zip us)):Fn P w K mg base x k ps sp:=by
 obtain ⟨a,l,c,k⟩:=d
 have F:=ziS (st:=st) l c k
 exact ⟨_,_,ok _ _ F,mg_of X G a,k,F.binds hb⟩
end F
namespace L2
open PySem PySem.Spec PyProof.Rows
end L2
namespace F
open PySem PySem.Spec PyProof.Rows L2
end F
namespace F
open PySem PySem.W PyProof.Rows
section
variable {O:KeyOrd} {key:Nat->O.α} {n:Nat} {α β:Type}
noncomputable def Ans(key:Nat->O.α)(n:Nat):KasT α->(α->Prop)->Prop
 | .ret a,P=>P a
 | .ask i j k,P=>(i<n/\j<n/\i≠j)/\Ans key n (k (O.blt (key i) (key j))) P
noncomputable def Kp(key:Nat->O.α)(p:Array Nat)(i:Nat):O.α:=key (p.getD i 0)
noncomputable def Up(key:Nat->O.α)(p:Array Nat)(k:Nat):Prop:=∀ i j,i≤j->j<k->O.kle (Kp key p i) (Kp key p j)
noncomputable def Dn(key:Nat->O.α)(p:Array Nat)(k:Nat):Prop:=∀ i j,i≤j->j<k->O.kle (Kp key p j) (Kp key p i)
structure Pm (n:Nat) (p:Array Nat):Prop where
 sz:p.size=n
 pm:p.toList.Perm (List.range n)
structure Fall (key:Nat->O.α) (n r:Nat) (x:Array Nat × Nat × Nat):Prop where
 pm:Pm n x.1
 lo:1≤x.2.1
 hi:x.2.1≤r
 dn:Dn key x.1 x.2.1
 q:x.2.2+1≤x.2.1
 eq:∀ i,x.2.1 - (x.2.2+1)≤i->i<x.2.1->Kp key x.1 i=Kp key x.1 (x.2.1 - 1)
end
end F
namespace HT
open PySem PySem.Spec PyProof.Rows
open PySem.AutoSeq1 (wpAny_loadPart')
open PySem.MeetsSeq PySem.MeetsSeq2 PySem.MeetsSeq3
end HT
namespace F
open PySem PySem.Spec PySem.W PyProof.Rows
structure Heads (h:Heap) (a:Addr) (vs:List Value) (hs:List Int):Prop where
 len:vs.length=hs.length
 at':∀ i,i<vs.length->∃ l items t m,vs.getD i Value.none=.ref l/\l≠a/\h.get? l=some { cls:=.type "list",dict:=none,data:=.seq items m,slots:=#[] }/\items[0]?=some (.int (hs.getD i 0) t)
 nd:hs.Nodup
end F
namespace L2
open PySem PySem.Spec PySem.W PyProof.Rows
structure HeadsV (H:Hp) (xs:List V) (hs:List Int):Prop where
 len:xs.length=hs.length
 at':∀ i,i<xs.length->∃ l r,xs[i]?=some (.ref l)/\H l=some (.lst (.int (hs.getD i 0)::r))
 nd:hs.Nodup
end L2
namespace F
open PySem PySem.Spec PyProof.Rows L2
end F
namespace HT
open PySem PySem.Spec PySem.W PyProof.Rows
open PySem.AutoSeq1 (wpAny_loadPart')
theorem xp:plainId "dict.update.loop"=true:=by decide +kernel
theorem je:entryFor table "dict.update.loop"=some Builtin.«dict.update.loop»:=entryFor_of_fast (by kernel_rfl)
section
variable {prog:Program} {w:World} {K:Type} [DecidableEq K]
noncomputable def zmA(knd:KeyKind prog w K)(h:Heap)(it d:Addr)(items:Array Value)(ps:List (K × Value))(j:Nat):Prop:=
 ∃ a o key n k v,items[j]?=some (.ref a)/\a≠it/\a≠d/\h.get? a=some o/\o.cls=.type "tuple"/\o.data=.seq #[key,v] n/\ps[j]?=some (k,v)/\knd.is k key=true
theorem zhD(knd:KeyKind prog w K)(d it l:Addr)(items:Array Value)(ps:List (K × Value))(hlen:items.size=ps.length)(hsz:ps.length≤sizeLine)(hdi:d≠it)(hli:l≠it)(hld:l≠d)(hn:(ps.map (·.1)).Nodup)(m:Nat):
  ∀ i:Nat,items.size - i=m->i≤items.size->MeetsIn prog w (Builtin.«dict.update.loop» ⟨[.ref d,.ref it,rawInt i,.none],[]⟩)
   (fun A R s=>A.handled=none/\s.heap.IsListIter it l i/\s.heap.IsList l items/\s.heap.DictOf knd d (ps.take i)/\(∀ j,j<items.size->zmA knd s.heap it d items ps j)/\
    ∀ h' t',h'.DictOf knd d ps->(∀ b o,b≠it->b≠d->s.heap.get? b=some o->h'.get? b=some o)->R (.ok (.ret .none)) { s with heap:=h',toks:=t' }):=by
 induction m with
 | zero=>
  intro i hk hi A R s h
  obtain ⟨hh,hit,hl,hd,hp,h⟩:=h
  have hi':i=items.size:=by omega
  subst hi'
  unfold Builtin.«dict.update.loop»
  show wpAny _ _ (pyNext (.ref it) >>= _) _ _ s
  refine wpAny_bind (wpAny_pyNext_list_end hh hit hl (by simp) fun h' e=>?_)
  show wpAny _ _ (Builtin.Dict.addKeywords d [] >>= _) _ _ _
  refine wpAny_bind (wpAny_pure (wpAny_pure (h h' s.toks ?_ fun b o hb _ hbo=>e b o hb hbo)))
  rw [hlen,List.take_length] at hd
  exact hd.extBut e hdi
 | succ m ih=>
  intro i hk hi A R s h
  obtain ⟨hh,hit,hl,hd,hp,h⟩:=h
  have hlt:i<items.size:=by omega
  obtain ⟨a,o,key,n,k,v,e1,e2,e3,e4,e5,e6,e7,e8⟩:=hp i hlt
  unfold Builtin.«dict.update.loop»
  show wpAny _ _ (pyNext (.ref it) >>= _) _ _ s
  refine wpAny_bind (wpAny_pyNext_list_item hit hl e1 fun h1 hit1 sb=>?_)
  dsimp only
  have e4':h1.get? a=some o:=(sb.2 a e2).trans e4
  have hd1:h1.DictOf knd d (ps.take i):=hd.sameBut sb hdi
  have hi1:i<ps.length:=by omega
  have hnew:stored (ps.take i) k v=ps.take (i+1):=by
   have e9:ps.take (i+1)=ps.take i++[(k,v)]:=by
    rw [List.take_succ,e7];rfl
   have hno:(ps.take i).any (fun kv=>kv.1=k)=false:=by
    rw [List.any_eq_false]
    intro kv hkv hc
    have hc':kv.1=k:=by simpa using hc
    have hn':=hn
    rw [← List.take_append_drop (i+1) ps,e9,List.map_append,List.map_append] at hn'
    have h3:=(List.nodup_append.mp (List.nodup_append.mp hn').1).2.2 kv.1 (List.mem_map.mpr ⟨kv,hkv,rfl⟩) k (by simp)
    exact h3 hc'
   unfold stored
   rw [hno,e9];rfl
  refine wpAny_bind (wpAny_holding (wpAny_bind (wpAny_tryCatch ?_)))
  unfold Builtin.Dict.pairItems
  refine wpAny_bind (wpAny_typeOf (T:="tuple") ⟨o,e4',e5⟩ ?_)
  rw [if_pos (by decide)]
  refine wpAny_bind (wpAny_seqItems e4' e6 (wpAny_pure ?_))
  show wpAny _ _ (holding [key,v] (dictSet d key v)) _ _ _
  refine wpAny_holding (wpAny_dictSet_pairs e8 hd1 (fun h2 hd2 sb2=>?_) (by rw [List.length_take];omega))
  rw [hnew] at hd2
  have keep:∀ b u,b≠it->b≠d->s.heap.get? b=some u->h2.get? b=some u:=fun b u h1' h2' hb=>(sb2.2 b h2').trans ((sb.2 b h1').trans hb)
  refine wpAny_pure ⟨plainId_quiet xp _,codeAny_builtin je (by
   rw [Around.under_plainId xp _]
   have hc:((i:Int)+1)=((i+1:Nat):Int):=by push_cast;rfl
   rw [hc]
   refine ih (i+1) (by omega) hlt A R _ ⟨hh,?_,?_,hd2,fun j hj=>?_,fun h' t' q1 q2=>?_⟩
   ·obtain ⟨o',ho',r⟩:=hit1
    exact ⟨o',(sb2.2 it (Ne.symm hdi)).trans ho',r⟩
   ·obtain ⟨o',ho',r⟩:=hl
    exact ⟨o',keep l o' hli hld ho',r⟩
   ·obtain ⟨a,o,key,n,k,v,e1,e2,e3,e4,r⟩:=hp j hj
    exact ⟨a,o,key,n,k,v,e1,e2,e3,keep _ _ e2 e3 e4,r⟩
   ·exact h h' t' q1 fun b u b1 b2 hb=>q2 b u b1 b2 (keep b u b1 b2 hb))⟩
end
theorem zgX:typeLookup (.type "list") "keys"=pure none:=by rw [typeLookup_type,builtinLookup_eq_fast];kernel_rfl
section
variable {prog:Program} {w:World} {A:Around} {E:Value->Shared->Prop} {s:Shared}
theorem zkl{a:Addr}{o:Obj}{xs:Array Value}{k:Nat}{Q:Option Value->Shared->Prop}(hx:s.heap.get? a=some o)(hc:o.cls=.type "list")(hdat:o.data=.seq xs k)(hd:o.dict=none)(hA:A.handled=none)
  (h:∀ h' tk,(∀ b u,s.heap.get? b=some u->h'.get? b=some u)->Q none { s with heap:=h',toks:=tk }):wpAny (model prog w) A (getAttr? (.ref a) "keys") Q E s:=by
 obtain ⟨c,dct,dat,sl⟩:=o
 simp only at hc hdat hd
 subst hc hdat hd
 obtain ⟨hp,g,d,tk,os⟩:=s
 have hT:∀ tk',(⟨hp,g,d,tk',os⟩:Shared).TypeIs (.ref a) "list":=fun _=>⟨_,hx,rfl⟩
 have f1:=sub_AttributeError
 have f3:=PySem.F.slot_list_getattribute.lookup
 have f4:=PySem.F.slot_list_getattribute.bind (.ref a)
 have f5:=am_list_getattr_none
 unfold getAttr? getAttrBy? getAttrBy
 repeat (any_goals (first | assumption | exact hT _ | ((with_reducible show wpAny _ _ (call (Value.builtin "list.__getattribute__") _ _) _ _ _);refine call_meets PySem.F.slot_list_getattribute (hT _) am_entry_list_getattribute (PySem.F.args_list_getattribute_2 _ _) (meets_getattribute_miss_list a xs k sl "keys" _ zgX (by decide) (by decide +kernel)) ⟨hx,hA,fun h' tk' e hx'=>?_⟩) | wp_step))
 obtain ⟨t',u',he⟩:=hx'.there
 show wpAny _ _ (getattributeRaised _ _ _ _ _ _ _) _ _ _
 unfold getattributeRaised
 repeat (any_goals (first | assumption | wp_step))
 exact h h' tk' hx'.keeps
end
section
variable {prog:Program} {w:World} {K:Type} [DecidableEq K] {knd:KeyKind prog w K} {A:Around} {E:Value->Shared->Prop} {s:Shared}
noncomputable def zmz(knd:KeyKind prog w K)(h:Heap)(items:Array Value)(ps:List (K × Value))(j:Nat):Prop:=
 ∃ a o key n k v,items[j]?=some (.ref a)/\h.get? a=some o/\o.cls=.type "tuple"/\o.data=.seq #[key,v] n/\ps[j]?=some (k,v)/\knd.is k key=true
theorem dict_pairs{l:Addr}{o:Obj}{items:Array Value}{k:Nat}{ps:List (K × Value)}{Q:Value->Shared->Prop}(ho:s.heap.get? l=some o)(hc:o.cls=.type "list")(hdat:o.data=.seq items k)(hd:o.dict=none)(hA:A.handled=none)
  (hlen:items.size=ps.length)(hsz:ps.length≤sizeLine)(hn:(ps.map (·.1)).Nodup)(hp:∀ j,j<items.size->zmz knd s.heap items ps j)
  (h:∀ h' t',h'.DictOf knd s.heap.objs.size ps->(∀ b u,s.heap.get? b=some u->h'.get? b=some u)->Q (.ref s.heap.objs.size) { s with heap:=h',toks:=t' }):
  wpAny (model prog w) A (call (.type "dict") [.ref l]) Q E s:=by
 refine callType_codes (Q₁:=fun obj s₁=>obj=.ref s.heap.objs.size/\s₁={ s with heap:=s.heap.push { cls:=.type "dict",data:=.dict #[] } }) PySem.F.kt_called_dict (PySem.F.kt_typeCall_dict_1 _) PySem.F.entry_dict_init (kt_code_dict_new _ ⟨rfl,rfl⟩) ?_
 rintro obj s₁ ⟨rfl,rfl⟩
 have hnew:(s.heap.push { cls:=.type "dict",data:=.dict #[] }).DictOf knd s.heap.objs.size []:=Heap.DictOf.new s.heap
 have keep0:∀ b u,s.heap.get? b=some u->(s.heap.push { cls:=.type "dict",data:=.dict #[] }).get? b=some u:=fun b u e=>Heap.get?_push_of_some _ e
 refine ⟨hnew.typeIs,PySem.F.args_dict_init_2 _ _,?_⟩
 unfold Builtin.«dict.__init__»
 refine wpAny_bind ?_
 unfold Builtin.Dict.selfAndRest
 refine wpAny_bind (wpAny_notOrdered_dict hnew.typeIs ?_)
 show wpAny _ _ (pure (s.heap.objs.size,[Value.ref l])) _ _ _
 refine wpAny_pure ?_
 show wpAny _ _ (Builtin.Dict.updateFrom "dict.__init__" s.heap.objs.size (.ref l) [] .none) _ _ _
 unfold Builtin.Dict.updateFrom
 refine wpAny_bind (wpAny_typeOf (T:="list") ⟨o,keep0 _ _ ho,hc⟩ ?_)
 rw [if_pos (by decide)]
 refine wpAny_bind (zkl (keep0 _ _ ho) hc hdat hd hA fun h1 tk1 keep1=>?_)
 rw [if_pos (show (none:Option Value).isNone=true from rfl)]
 have hl1:h1.IsList l items:=⟨o,keep1 _ _ (keep0 _ _ ho),hc,k,hdat⟩
 refine wpAny_bind (wpAny_rule (wpAny_bind (wpAny_pyIter_list hl1 ?_)))
 obtain ⟨od,es,ep,hod,rd⟩:=hnew
 have hd1:h1.get? s.heap.objs.size=some od:=keep1 _ _ hod
 have old:∀ b u,s.heap.get? b=some u->b≠h1.objs.size/\b≠s.heap.objs.size:=fun b u e=>⟨Nat.ne_of_lt (Heap.lt_size (keep1 _ _ (keep0 _ _ e))),Nat.ne_of_lt (Heap.lt_size e)⟩
 refine wpAny_pure ⟨plainId_quiet xp _,codeAny_builtin je (by
  rw [Around.under_plainId xp _]
  refine zhD knd s.heap.objs.size h1.objs.size l items ps hlen hsz (Nat.ne_of_lt (Heap.lt_size hd1)) (old _ _ ho).1 (old _ _ ho).2 hn items.size 0 rfl (Nat.zero_le _) A.in1 _ _ ⟨hA,?_,?_,?_,fun j hj=>?_,fun h' t' q1 q2=>?_⟩
  ·exact ⟨_,Heap.get?_push_size _ rfl,rfl,rfl⟩
  ·obtain ⟨o',ho',r⟩:=hl1
   exact ⟨o',Heap.get?_push_of_some _ ho',r⟩
  ·exact ⟨od,es,ep,Heap.get?_push_of_some _ hd1,rd⟩
  ·obtain ⟨a,o,key,n,k,v,e1,e2,r⟩:=hp j hj
   exact ⟨a,o,key,n,k,v,e1,(old _ _ e2).1,(old _ _ e2).2,Heap.get?_push_of_some _ (keep1 _ _ (keep0 _ _ e2)),r⟩
  ·exact ⟨rfl,h h' t' q1 fun b u e=>q2 b u (old _ _ e).1 (old _ _ e).2 (Heap.get?_push_of_some _ (keep1 _ _ (keep0 _ _ e)))⟩)⟩
end
end HT
namespace L2
open PySem PySem.Spec PySem.W PyProof.Rows
section
variable {X:Cx} {pins:List (Addr × Obj)} {σ:St} {H:Hp} {s:Shared}
theorem zdM(I:Inv X pins σ H s):∀ (kvs:List (Key × V)) {qs:List V} {its:List Value},Vals qs its->qs.length=kvs.length->(∀ (j:Nat) (kv:Key × V),kvs[j]?=some kv->∃ a,qs[j]?=some (V.ref a)/\SqT X.K H a [kV kv.1,kv.2])->
  ∃ vs:List (Key × Value),KV kvs vs/\∀ j,j<its.length->∃ a o key n k v,its[j]?=some (Value.ref a)/\s.heap.get? a=some o/\o.cls=.type "tuple"/\o.data=.seq #[key,v] n/\vs[j]?=some (k,v)/\(zk X.prog X.w).is k key=true
 | [],qs,its,r,e,_=>⟨[],.nil,fun j hj=>by rw [← r.length,e] at hj;cases hj⟩
 | kv::kvs,[],its,r,e,_=>nomatch e
 | kv::kvs,q::qs,its,r,e,h=>by
  cases r with
  | cons rq rr=>
   obtain ⟨a,e1,e2⟩:=h 0 kv rfl
   cases (Option.some.inj e1)
   obtain ⟨is,ri,⟨o,ho,hc,n,hd⟩,_⟩:=I.tuple e2
   cases rq
   cases ri with
   | cons rk rr2=>
    cases rr2 with
    | cons rv rr3=>
     cases rr3
     obtain ⟨vs,g1,g2⟩:=zdM I kvs rr (Nat.succ.inj e) fun j kv hj=>h (j+1) kv hj
     refine ⟨(kv.1,_)::vs,.cons ⟨rfl,rv⟩ g1,fun j hj=>?_⟩
     cases j with
     | zero=>exact ⟨a,o,_,n,kv.1,_,rfl,ho,hc,hd,rfl,kt rk⟩
     | succ j=>exact g2 j (Nat.lt_of_succ_lt_succ hj)
theorem zfn(hc:X.calm=true):CallR X (.type "dict") (fun xs H Q=>∃ p,∃ (qs:List V) (kvs:List (Key × V)),xs=[.ref p]/\SqL X.K H p qs/\qs.length=kvs.length/\kvs.length≤1000/\(kvs.map (·.1)).Nodup/\(∀ (j:Nat) (kv:Key × V),kvs[j]?=some kv->∃ a,qs[j]?=some (V.ref a)/\SqT X.K H a [kV kv.1,kv.2])/\
  ∀ l,H l=none->Q (.ref l) (upd H l (.dK kvs))):=by
 intro pins s σ H vs us Q I r q
 obtain ⟨p,qs,kvs,e,hq,hl,hz,hn,hp,q⟩:=q
 subst e
 cases r with
 | cons r rr=>
  cases rr
  cases r
  obtain ⟨its,rv,⟨o,n,ho,h1,h2,h3⟩,_⟩:=I.list hq
  obtain ⟨ws,g1,g2⟩:=zdM I kvs rv hl hp
  have hlw:kvs.length=ws.length:=Paired.length g1
  have hkey:ws.map (·.1)=kvs.map (·.1):=by
   clear g2 hlw hn hz hl hp q
   induction g1 with
   | nil=>rfl
   | cons r _ ih=>rw [List.map_cons,List.map_cons,r.1,ih]
  refine HT.dict_pairs (knd:=zk X.prog X.w) (ps:=ws) ho h1 h3 h2 (I.ok.hd hc) (by rw [List.size_toArray,← rv.length,hl,hlw]) (by rw [← hlw,sizeLine_eq];omega) (by rw [hkey];exact hn) (fun j hj=>?_) fun h' t' q1 q2=>?_
  ·obtain ⟨a,o,key,n,k,v,e1,r⟩:=g2 j (by simpa using hj)
   exact ⟨a,o,key,n,k,v,by simpa using e1,r⟩
  ·exact ⟨.ref s.heap.objs.size,_,I.laid (a:=s.heap.objs.size) (o:=.dK kvs) (t':=t') q2 (Nat.le_refl _) (zbt (by rw [sizeLine_eq];omega) (beq_eq_false_iff_ne.mpr (Ne.symm (Nat.ne_of_lt I.big))) g1 q1),rfl,q _ (I.hok.fresh (Nat.le_refl _))⟩
end
end L2
namespace F
open PySem PySem.Spec PyProof.Rows L2
noncomputable def pairsOf:List PV->Option (List (Int × PV))
 | []=>some []
 | p::ps=>match p with
  | .tup [.int k,q]=>if zl q=true then (pairsOf ps).map ((k,q)::·) else none
  | _=>none
noncomputable def zau:List PV->Option PV
 | [.lst ps]=>(pairsOf ps).bind fun L=>if (L.map (·.1)).Nodup/\L.length≤1000 then some (.dct (L.map fun z=>Sum.inl z.1) (L.map (·.2))) else none
 | _=>none
theorem zch{K:PySem.W.Frag}{H:Hp}:∀ {ps:List PV} {L:List (Int × PV)} {xs:List V} {B:List Addr},pairsOf ps=some L->Rps K H ps xs B->
  ∃ ws:List V,Rps K H (L.map (·.2)) ws []/\xs.length=L.length/\∀ (j:Nat) (kw:Key × V),((L.map fun z=>(Sum.inl z.1:Key)).zip ws)[j]?=some kw->∃ a,xs[j]?=some (V.ref a)/\SqT K H a [kV kw.1,kw.2]
 | [],L,xs,B,e,r=>by
  cases e
  obtain ⟨rfl,_⟩:=r.inv0
  exact ⟨[],.nil,rfl,fun j kw h=>by cases h⟩
 | p::ps,L,xs,B,e,r=>by
  unfold pairsOf at e
  split at e
  case h_2=>cases e
  rename_i k q
  split at e
  case isFalse=>cases e
  rename_i hq
  cases hL:pairsOf ps with
  | none=>rw [hL] at e;cases e
  | some L'=>
   rw [hL] at e
   cases e
   obtain ⟨v,xs',A1,A2,rfl,_,r1,r2⟩:=r.inv
   obtain ⟨a,ys,rfl,hT,r3⟩:=r1.T
   obtain ⟨y1,y2,C1,C2,rfl,_,r4,r5⟩:=zex r3
   obtain ⟨rfl,_⟩:=r4.I
   have hC:=Rp.data _ hq r5
   subst hC
   obtain ⟨ws,g1,g2,g3⟩:=zch hL r2
   refine ⟨y2::ws,Rps.cons (A:=[]) r5 g1,by rw [List.length_cons,g2];rfl,fun j kw h=>?_⟩
   cases j with
   | zero=>cases h;exact ⟨a,rfl,hT⟩
   | succ j=>exact g3 j kw h
theorem zjg{K:PySem.W.Frag}:j2 K (fun xs H Q=>∃ p,∃ (qs:List V) (kvs:List (Key × V)),xs=[.ref p]/\SqL K H p qs/\qs.length=kvs.length/\kvs.length≤1000/\(kvs.map (·.1)).Nodup/\(∀ (j:Nat) (kv:Key × V),kvs[j]?=some kv->∃ a,qs[j]?=some (V.ref a)/\SqT K H a [kV kv.1,kv.2])/\
  ∀ l,H l=none->Q (.ref l) (upd H l (.dK kvs))) zau:=by
 intro H ps vs A z Q r e k
 unfold zau at e
 split at e
 case h_2=>cases e
 rename_i qs
 replace e:=Option.bind_eq_some_iff.mp e;obtain ⟨L,hL,e⟩:=e
 split at e
 case isFalse=>cases e
 rename_i hh
 cases e
 obtain ⟨v,rfl,rv⟩:=yy r
 obtain ⟨a,ys,B,rfl,h1,_,g⟩:=rv.L
 obtain ⟨ws,g1,g2,g3⟩:=zch hL g
 have hw:L.length=ws.length:=by have:=g1.length;rwa [List.length_map] at this
 have hz:((L.map fun z=>(Sum.inl z.1:Key)).zip ws).length=L.length:=by rw [List.length_zip,List.length_map,← hw,Nat.min_self]
 refine ⟨a,ys,(L.map fun z=>(Sum.inl z.1:Key)).zip ws,rfl,SqL.of h1,by rw [hz,g2],by rw [hz];exact hh.2,?_,g3,fun l hn=>?_⟩
 ·rw [show (((L.map fun z=>(Sum.inl z.1:Key)).zip ws).map (·.1))=L.map fun z=>(Sum.inl z.1:Key) from List.map_fst_zip (by rw [List.length_map,hw];exact Nat.le_refl _)]
  have:=hh.1
  rw [List.nodup_iff_pairwise_ne,List.pairwise_map] at this ⊢
  exact this.imp fun h e=>h (Sum.inl.inj e)
 ·have s1:Same H (upd H l (.dK ((L.map fun z=>(Sum.inl z.1:Key)).zip ws))):=z0 (Same.refl _) hn
  exact k _ _ [l] s1 (.mkD zW (by rw [List.length_map,List.length_map]) (Rps.same s1 _ g1)) (by simp) (by simpa using hn)
end F
namespace L2
open PySem PySem.Spec PySem.W PyProof.Rows
section
variable {X:Cx}
noncomputable def zjt(K:PySem.W.Frag)(H:Hp)(x y:V)(d:PyData)(ds:List PyData):Prop:=Rep K H x d/\(Rep K H y (.list ds)∨Rep K H y (.tuple ds))/\PyData.canLayAll0 ds=true/\d.canLay0=true/\d.depth≤62
noncomputable def zjI(K:PySem.W.Frag)(neg:Bool):R2:=fun x y H Q=>∃ d ds,zjt K H x y d ds/\Q (.bl (if neg then !(ds.any fun z=>PyData.eqv z d) else ds.any fun z=>PyData.eqv z d)) H
theorem zad{u k d:Nat}(hu:u+64<cLine)(h:d≤62):u+1+min k d<cLine:=by have:=Nat.min_le_right k d;omega
open PySem.SeqAt in
theorem zim(hu:X.A.units+64<cLine):OpR X (compareOp .In) (zjI X.K false):=by
 intro pins s σ H x y v u Q I rx ry h
 obtain ⟨d,ds,⟨hd,he,h1,h2,h3⟩,q⟩:=h
 obtain ⟨as,ra⟩:=hd.reads I rx
 rcases he with he | he
 ·obtain ⟨bs,rb⟩:=he.reads I ry
  exact in_list_reads rb ra h1 h2 (zad hu h3) ⟨.bl _,H,I,rfl,q⟩
 ·obtain ⟨bs,rb⟩:=he.reads I ry
  exact in_tuple_reads rb ra h1 h2 (zad hu h3) ⟨.bl _,H,I,rfl,q⟩
open PySem.SeqAt in
theorem zck(hu:X.A.units+64<cLine):OpR X (compareOp .NotIn) (zjI X.K true):=by
 intro pins s σ H x y v u Q I rx ry h
 obtain ⟨d,ds,⟨hd,he,h1,h2,h3⟩,q⟩:=h
 obtain ⟨as,ra⟩:=hd.reads I rx
 rcases he with he | he
 ·obtain ⟨bs,rb⟩:=he.reads I ry
  exact notIn_list_reads rb ra h1 h2 (zad hu h3) ⟨.bl _,H,I,rfl,q⟩
 ·obtain ⟨bs,rb⟩:=he.reads I ry
  exact notIn_tuple_reads rb ra h1 h2 (zad hu h3) ⟨.bl _,H,I,rfl,q⟩
end
end L2
namespace F
open PySem PySem.Spec PyProof.Rows L2
noncomputable def zkw(p:PV)(xs:List PV):Bool:=ug p && (y6 p).canLay0 && decide ((y6 p).depth≤62) && okPys xs && PyData.canLayAll0 (toPys xs)
noncomputable def inD(p:PV)(xs:List PV):Option Bool:=if zkw p xs=true then some ((toPys xs).any fun z=>PyData.eqv z (y6 p)) else none
noncomputable def zhC(p:PV):PV->Option Bool
 | .lst xs=>inD p xs
 | .tup xs=>inD p xs
 | _=>none
noncomputable def zat(p q:PV):Option PV:=(zhC p q).map .bl
noncomputable def vM(p q:PV):Option PV:=(zhC p q).map fun b=>.bl (!b)
theorem ziK{K:PySem.W.Frag}{H:Hp}{p q:PV}{x y:V}{A B:List Addr}{b:Bool}(r1:Rp K H p x A)(r2:Rp K H q y B)(e:zhC p q=some b):∃ d ds,zjt K H x y d ds/\(b=ds.any fun z=>PyData.eqv z d):=by
 have key:∀ xs,inD p xs=some b->(okPys xs=true->Rep K H y (.list (toPys xs))∨Rep K H y (.tuple (toPys xs)))->∃ d ds,zjt K H x y d ds/\(b=ds.any fun z=>PyData.eqv z d):=fun xs h hr=>by
  unfold inD at h
  split at h
  case isFalse=>cases h
  rename_i hc
  cases h
  unfold zkw at hc
  simp only [Bool.and_eq_true,decide_eq_true_eq] at hc
  obtain ⟨⟨⟨⟨h1,h2⟩,h3⟩,h4⟩,h5⟩:=hc
  exact ⟨_,_,⟨Rp.rep p h1 r1,hr h4,h5,h2,h3⟩,rfl⟩
 unfold zhC at e
 split at e
 ·rename_i xs
  exact key xs e fun h=>.inl (by have:=Rp.rep (.lst xs) (by unfold ug;exact h) r2;unfold y6 at this;exact this)
 ·rename_i xs
  exact key xs e fun h=>.inr (by have:=Rp.rep (.tup xs) (by unfold ug;exact h) r2;unfold y6 at this;exact this)
 ·cases e
theorem zij{K:PySem.W.Frag}:OpV K (zjI K false) zat:=by
 intro H p q x y A B z Q r1 r2 e k
 unfold zat at e
 obtain ⟨b,hb,rfl⟩:=Option.map_eq_some_iff.mp e
 obtain ⟨d,ds,h,rfl⟩:=ziK r1 r2 hb
 exact ⟨d,ds,h,k _ H [] (Same.refl _) (.mkB _) .nil (by simp)⟩
theorem zci{K:PySem.W.Frag}:OpV K (zjI K true) vM:=by
 intro H p q x y A B z Q r1 r2 e k
 unfold vM at e
 obtain ⟨b,hb,rfl⟩:=Option.map_eq_some_iff.mp e
 obtain ⟨d,ds,h,rfl⟩:=ziK r1 r2 hb
 exact ⟨d,ds,h,k _ H [] (Same.refl _) (.mkB _) .nil (by simp)⟩
end F
namespace F
open PySem L2
section
variable {env:En} {f fa fb fc:FE} {t u:FT} {fs:FA} {g h:FS} {p q:PV}
@[simp] theorem qf(i:Nat):zA i env=(env[i]?).join:=rfl
@[simp] theorem zfq(p:PV):fC p env=some p:=rfl
@[simp] theorem yA(k:PV->PV->Option PV):fOp k fa fb env=(fa env).bind fun x=>(fb env).bind fun y=>k x y:=rfl
@[simp] theorem zoT(k:PV->Option PV):fUn k fa env=(fa env).bind k:=rfl
@[simp] theorem qg:zm f env=(f env).bind fun p=>if zl p=true then some p else none:=rfl
@[simp] theorem jg:fT f env=(f env).bind yC:=rfl
@[simp] theorem zoE:zdj t u env=(t env).bind fun b=>if b=true then u env else some false:=rfl
@[simp] theorem qy:fOr t u env=(t env).bind fun b=>if b=true then some true else u env:=rfl
@[simp] theorem zdt:uN t env=(t env).map fun b=>!b:=rfl
@[simp] theorem zoV:fIf t fa fb env=(t env).bind fun c=>if c=true then fa env else fb env:=rfl
@[simp] theorem zjq:zI env=some []:=rfl
@[simp] theorem zS:zC f fs env=(f env).bind fun p=>(fs env).map fun ps=>p::ps:=rfl
@[simp] theorem zfo:xJ fs env=(fs env).map .tup:=rfl
@[simp] theorem zfp:xA fs env=(fs env).map .lst:=rfl
@[simp] theorem zgp(Φ:List PV->Option PV):zJ Φ fs env=(fs env).bind Φ:=rfl
@[simp] theorem znJ(k k':PV->PV->Option PV):vF k k' fa fb fc env=(fa env).bind fun x=>(fb env).bind fun y=>(k x y).bind fun z=>(yC z).bind fun b=>if b=true then (fc env).bind fun w=>k' y w else some (.bl false):=rfl
@[simp] theorem znX:zcv fa fb env=(fa env).bind fun x=>(yC x).bind fun k=>if k=true then fb env else some (.bl false):=rfl
@[simp] theorem zoD:ziW fa fb env=(fa env).bind fun x=>(yC x).bind fun k=>if k=true then some (.bl true) else fb env:=rfl
@[simp] theorem znW:zgd fa env=(fa env).bind fun x=>(yC x).map fun k=>.bl (!k):=rfl
@[simp] theorem zoU:fNx env=some (.nx env):=rfl
@[simp] theorem zoX:fBk env=some (.bk env):=rfl
@[simp] theorem zoW:fCt env=some (.ct env):=rfl
@[simp] theorem wK:yM f env=(f env).map fun p=>.rt p env:=rfl
@[simp] theorem znV:znz env=some (.rt .non env):=rfl
@[simp] theorem zr:y7 t g h env=(t env).bind fun b=>if b=true then g env else h env:=rfl
@[simp] theorem kO(i:Nat):zh i f env=(f env).map fun p=>.nx (env.set i (some p)):=rfl
@[simp] theorem zjs(b:PV->En->Option En):zff b f env=(f env).bind fun p=>(b p env).map .nx:=rfl
@[simp] theorem yi(b:PV->En->Option En):xu fs b g env=(fs env).bind fun ps=>zbo b g ps env:=rfl
@[simp] theorem xX:zY f env=(f env).bind wW:=rfl
@[simp] theorem znU:zny f env=(f env).bind fun p=>(wW p).bind fun ps=>if isDatas ps=true then some ps else none:=rfl
@[simp] theorem zjr(i:Nat):zP i p env=some (env.set i (some p)):=rfl
@[simp] theorem zoC:ja env=some true:=rfl
@[simp] theorem znI:jc env=some (.dct [] []):=rfl
@[simp] theorem zmG:vZ env=some none:=rfl
@[simp] theorem zld(n:Nat)(js:List Nat)(b:PV->En->Option En):fLC fs n js b t f env=(fs env).bind fun ps=>if ps.length≤100000 then (yO b t f ps (cE n js env)).map .lst else none:=rfl
theorem zF{e:En}(hg:g env=some (.nx e)):zU g h env=h e:=by unfold zU;rw [hg];rfl
theorem zkD{e:En}(hg:g env=some (.rt p e)):zU g h env=some (.rt p e):=by unfold zU;rw [hg];rfl
@[simp] theorem zgb:zU g h env=(g env).bind fun o=>match o with | .nx e=>h e | o=>some o:=rfl
end
section
variable {i j:Int} {xs ys:List Int} {ps qs:List PV}
@[simp] theorem zeo:zl (.int i)=true:=rfl
@[simp] theorem zkH{b:Bool}:zl (.bl b)=true:=rfl
@[simp] theorem znD{x:Str}:zl (.str x)=true:=rfl
@[simp] theorem znE:zl .non=true:=rfl
@[simp] theorem zen:zl (.tup ps)=isDatas ps:=by simp [zl]
@[simp] theorem zmE:isDatas []=true:=rfl
@[simp] theorem zms{p:PV}:isDatas (p::ps)=(zl p && isDatas ps):=by simp [isDatas]
@[simp] theorem xK:isDatas (xs.map PV.int)=true:=ku xs
@[simp] theorem zmF:isDatas (ps++qs)=(isDatas ps && isDatas qs):=xb ps qs
@[simp] theorem zjp{b:Bool}:yC (.bl b)=some b:=rfl
@[simp] theorem zmx:yX (.int i) (.int j)=some (.int (i+j)):=rfl
@[simp] theorem zol:xi (.int i) (.int j)=some (.int (i - j)):=rfl
@[simp] theorem zkY:vLt (.int i) (.int j)=some (.bl (decide (i<j))):=rfl
@[simp] theorem zoK:vLe (.int i) (.int j)=some (.bl (decide (i≤j))):=rfl
@[simp] theorem zoM:vGt (.int i) (.int j)=some (.bl (decide (j<i))):=rfl
@[simp] theorem zoN:vGe (.int i) (.int j)=some (.bl (decide (j≤i))):=rfl
@[simp] theorem zoJ:zlj (.int i)=some (.int (-i)):=rfl
theorem kB(h:IntMulOk i j):wa (.int i) (.int j)=some (.int (i * j)):=by simp [wa,h]
theorem jo(h : -(2 ^ 64)<i/\i<2 ^ 64):IntMulOk i j:=.of_left (intBits_le_64 h.1 h.2)
theorem zkp(h : -(2 ^ 64)<j/\j<2 ^ 64):IntMulOk i j:=.of_right (intBits_le_64 h.1 h.2)
theorem ziq(h : -(2 ^ 64)<i/\i<2 ^ 64):wa (.int i) (.int j)=some (.int (i * j)):=kB (jo h)
theorem znr(h : -(2 ^ 64)<j/\j<2 ^ 64):wa (.int i) (.int j)=some (.int (i * j)):=kB (zkp h)
theorem jp(h:0<j/\j<1073741824):uH (.int i) (.int j)=some (.int (i / j)):=by simp [uH,h]
theorem xZ(h:0<j):wB (.int i) (.int j)=some (.int (i % j)):=by simp [wB,h]
@[simp] theorem znP:wW (.lst ps)=some ps:=rfl
@[simp] theorem znQ:wW (.fls ps)=some ps:=rfl
@[simp] theorem znO:wW (.tup ps)=some ps:=rfl
@[simp] theorem zhL:zfF (.lst ps)=some ps:=rfl
@[simp] theorem zmU:zfF (.tup ps)=some ps:=rfl
@[simp] theorem ui:yo [.lst ps]=some (.int ps.length):=rfl
@[simp] theorem znR:yo [.fls ps]=some (.int ps.length):=rfl
@[simp] theorem zfR:yo [.tup ps]=some (.int ps.length):=rfl
@[simp] theorem znS{ks:List Key}:yo [.dct ks ps]=some (.int ks.length):=rfl
@[simp] theorem zmD:jE [.lst ps]=if isDatas ps=true then some (.tup ps) else none:=rfl
@[simp] theorem ziw:xH [.tup ps]=if isDatas ps=true then some (.lst ps) else none:=rfl
@[simp] theorem ziz:xH [.lst ps]=if isDatas ps=true then some (.lst ps) else none:=rfl
@[simp] theorem zoq{b:Bool}:znY [.bl b]=some (.int (if b then 1 else 0)):=rfl
@[simp] theorem ziH:vIx (.lst ps) (.int i)=atI ps i:=rfl
@[simp] theorem zop:vIx (.fls ps) (.int i)=atI ps i:=rfl
@[simp] theorem ix_tup:vIx (.tup ps) (.int i)=atI ps i:=rfl
theorem zgn{α β:Type}(f:α->β)(l:List α)(i:Int):atI (l.map f) i=(atI l i).map f:=by
 unfold atI
 rw [List.length_map]
 cases ixN l.length i with
 | none=>rfl
 | some j=>simp
theorem uP{α:Type}{l:List α}{i:Int}(h0:0≤i)(h1:i<l.length):atI l i=l[i.toNat]?:=by
 unfold atI ixN
 rw [if_pos h0,if_pos h1];rfl
@[simp] theorem zgo{α:Type}{a:α}{l:List α}:atI (a::l) 0=some a:=by
 rw [uP (by decide) (by simp only [List.length_cons];omega)];rfl
@[simp] theorem zlc{α:Type}{a b:α}{l:List α}:atI (a::b::l) 1=some b:=by
 rw [uP (by decide) (by simp only [List.length_cons];omega)];rfl
@[simp] theorem znH{α:Type}{a b c:α}{l:List α}:atI (a::b::c::l) 2=some c:=by
 rw [uP (by decide) (by simp only [List.length_cons];omega)];rfl
@[simp] theorem zoS{α:Type}{a b c d:α}{l:List α}:atI (a::b::c::d::l) 3=some d:=by
 rw [uP (by decide) (by simp only [List.length_cons];omega)];rfl
theorem k4(n:Int):∀ xs:List Int,inP (.int n) (xs.map PV.int)=decide (n ∈ xs)
 | []=>rfl
 | m::r=>by
  have ih:=k4 n r
  unfold inP at ih ⊢
  rw [List.map_cons,List.any_cons,ih]
  by_cases e:m=n
  ·subst e;simp [eqS]
  ·have e':¬ n=m:=fun z=>e z.symm
   simp [eqS,e,e']
theorem qZ(xs:List Int):(xs.map PV.int).all vE=true:=by
 rw [List.all_map];exact List.all_eq_true.mpr fun _ _=>rfl
@[simp] theorem zfc:vIn (.int i) (.lst (xs.map .int))=some (decide (i ∈ xs)):=by simp only [vIn,qZ,k4];rfl
@[simp] theorem zor:vIn (.int i) (.fls (xs.map .int))=some (decide (i ∈ xs)):=by simp only [vIn,qZ,k4];rfl
@[simp] theorem ziJ:vIn (.int i) (.tup (xs.map .int))=some (decide (i ∈ xs)):=by simp only [vIn,qZ,k4];rfl
@[simp] theorem zfV:vIn (.int i) (.tup [.int j,.int k])=some (decide (i=j∨i=k)):=by
 have:=ziJ (i:=i) (xs:=[j,k])
 simpa using this
@[simp] theorem inE{p q:PV}:xz p q=(vIn p q).map .bl:=rfl
@[simp] theorem zlW{p q:PV}:z4 p q=(vIn p q).map fun b=>.bl (!b):=rfl
@[simp] theorem zoy:eqP (.int i) (.int j)=decide (i=j):=by
 unfold eqP y6 PyData.eqv
 simp [Bool.beq_eq_decide_eq]
@[simp] theorem zoz:k7 (.int i)=true:=by simp [k7,ug,y6,PyData.canLay0,PyData.depth]
@[simp] theorem zgg:vEq (.int i) (.int j)=some (.bl (decide (i=j))):=by simp [vEq]
@[simp] theorem zkX:vNe (.int i) (.int j)=some (.bl (!decide (i=j))):=by simp [vNe]
end
section
variable {b:PV->En->Option En} {g:FS} {t:FT} {f:FE}
theorem zao(P:En->Prop)(μ:En->Nat)(step:∀ e,P e->t e=some false∨(t e=some true/\∃ e',(g e=some (.nx e')∨g e=some (.ct e'))/\P e'/\μ e'<μ e)):
  ∀ (n:Nat) (env:En),P env->μ env<n->∃ e,fWh t g n env=some (.nx e)/\P e/\t e=some false
 | 0,_,_,h=>absurd h (Nat.not_lt_zero _)
 | n+1,env,hp,hm=>by
  unfold fWh
  rcases step env hp with h | ⟨h,e',h2,h3,h4⟩
  ·refine ⟨env,?_,hp,h⟩
   rw [h];rfl
  ·obtain ⟨e,h5,h6,h7⟩:=zao P μ step n e' h3 (by omega)
   refine ⟨e,?_,h6,h7⟩
   rw [h,Option.bind_some,if_pos rfl]
   rcases h2 with h2 | h2<;>(rw [h2,Option.bind_some];exact h5)
theorem zgj{env:En}(T:PV->Bool)(W:PV->PV):∀ (ps:List PV),(∀ p ∈ ps,∃ e,b p env=some e/\t e=some (T p)/\(T p=true->f e=some (W p)))->yO b t f ps env=some ((ps.filter T).map W)
 | [],_=>rfl
 | p::ps,h=>by
  obtain ⟨e,h1,h2,h3⟩:=h p List.mem_cons_self
  have ih:=zgj T W ps fun q hq=>h q (List.mem_cons_of_mem _ hq)
  unfold yO
  rw [h1,Option.bind_some,h2,Option.bind_some,ih]
  cases hT:T p with
  | true=>rw [if_pos rfl,h3 hT,Option.bind_some,List.filter_cons,if_pos hT];rfl
  | false=>rw [if_neg Bool.false_ne_true,List.filter_cons,if_neg (by rw [hT];exact Bool.false_ne_true)]
theorem yd{env:En}(T:Int->Bool)(W:Int->PV)(xs:List Int)(h:∀ n ∈ xs,∃ e,b (.int n) env=some e/\t e=some (T n)/\(T n=true->f e=some (W n))):yO b t f (xs.map PV.int) env=some ((xs.filter T).map W):=by
 have:=zgj (env:=env) (b:=b) (t:=t) (f:=f) (fun p=>match p with | .int n=>T n | _=>false) (fun p=>match p with | .int n=>W n | p=>p) (xs.map PV.int) (by
  intro p hp
  obtain ⟨n,hn,rfl⟩:=List.mem_map.mp hp
  exact h n hn)
 rw [this,List.filter_map,List.map_map]
 rfl
theorem zhO(lo:Int)(n:Nat):j9 lo n=((List.range n).map fun (i:Nat)=>lo+(i:Int)).map PV.int:=by
 unfold j9;rw [List.map_map];rfl
theorem zmZ(n:Nat):j9 0 n=((List.range n).map fun (i:Nat)=>(i:Int)).map PV.int:=by
 rw [zhO];simp
end
noncomputable abbrev zaw(L:List Int):PV:=.dct (L.map Sum.inl) (L.map fun _=>.bl true)
theorem vA(L:List Int)(p:Int):ul (L.map Sum.inl) (.inl p)=decide (p ∈ L):=by
 rw [Bool.eq_iff_iff,ziO,decide_eq_true_eq]
 constructor
 ·intro h;obtain ⟨q,hq,e⟩:=List.mem_map.mp h;cases e;exact hq
 ·intro h;exact List.mem_map.mpr ⟨p,h,rfl⟩
@[simp] theorem zmj{L:List Int}{p:Int}:vIn (.int p) (zaw L)=some (decide (p ∈ L)):=by simp only [vIn,vA]
theorem zhh(L:List Int):isDatas (L.map fun _=>PV.bl true)=true:=ye _ (fun _=>rfl) L
theorem zjL{L:List Int}{p:Int}(h:p ∉ L)(hl:L.length<100000):zas (zaw L) (.int p) (.bl true)=some (zaw (L++[p])):=by
 simp only [zas,zhh,zkH,List.length_map,hl,decide_true,Bool.and_self,if_true]
 unfold wY
 rw [vA,decide_eq_false h,if_neg Bool.false_ne_true]
 simp [zaw]
theorem wr:∀ xs:List Int,toPys (xs.map PV.int)=xs.map PyData.int
 | []=>rfl
 | x::r=>by rw [List.map_cons,toPys,wr r];rfl
theorem kA:∀ xs:List Int,okPys (xs.map PV.int)=true
 | []=>rfl
 | x::r=>by rw [List.map_cons,okPys,kA r];rfl
theorem jd:∀ xs ys:List Int,PyData.eqvAll (xs.map PyData.int) (ys.map PyData.int)=decide (xs=ys)
 | [],[]=>rfl
 | [],_::_=>rfl
 | _::_,[]=>rfl
 | x::r,y::t=>by
  simp only [List.map_cons,PyData.eqvAll,PyData.eqv,jd r t]
  by_cases h:x=y<;>by_cases h':r=t<;>simp [h,h']
theorem zaZ:∀ xs:List Int,PyData.canLayAll0 (xs.map PyData.int)=true
 | []=>rfl
 | x::r=>by rw [List.map_cons,PyData.canLayAll0,zaZ r];rfl
theorem kH:∀ xs:List Int,PyData.depthAll (xs.map PyData.int)≤1
 | []=>by simp [PyData.depthAll]
 | x::r=>by
  have:=kH r
  rw [List.map_cons,PyData.depthAll,PyData.depth]
  omega
@[simp] theorem zej{xs:List Int}:k7 (.lst (xs.map PV.int))=true:=by
 have h1:=kH xs
 have h2:PyData.depth (.list (xs.map PyData.int))≤64:=by rw [PyData.depth];omega
 simp only [k7,ug,kA,y6,wr,PyData.canLay0,zaZ,h2,decide_true,Bool.and_self]
@[simp] theorem znB{xs:List Int}:k7 (.tup (xs.map PV.int))=true:=by
 have h1:=kH xs
 have h2:PyData.depth (.tuple (xs.map PyData.int))≤64:=by rw [PyData.depth];omega
 simp only [k7,ug,kA,y6,wr,PyData.canLay0,zaZ,h2,decide_true,Bool.and_self]
@[simp] theorem zgh{xs ys:List Int}:eqP (.lst (xs.map PV.int)) (.lst (ys.map PV.int))=decide (xs=ys):=by
 simp only [eqP,y6,wr,PyData.eqv,jd]
@[simp] theorem znT{xs ys:List Int}:eqP (.tup (xs.map PV.int)) (.tup (ys.map PV.int))=decide (xs=ys):=by
 simp only [eqP,y6,wr,PyData.eqv,jd]
theorem zja{xs ys:List Int}:vEq (.lst (xs.map PV.int)) (.lst (ys.map PV.int))=some (.bl (decide (xs=ys))):=by simp only [vEq,zej,zgh];rfl
theorem zio{xs ys:List Int}:vNe (.lst (xs.map PV.int)) (.lst (ys.map PV.int))=some (.bl (!decide (xs=ys))):=by simp only [vNe,zej,zgh];rfl
theorem zmq{xs:List Int}:vEq (.lst (xs.map PV.int)) (.lst [])=some (.bl (decide (xs=[]))):=zja (ys:=[])
theorem zlb(xs:List Int):zeq (xs.map PV.int) none (some 1)=(xs.take 1).map PV.int:=by
 unfold zeq HT.sIx
 cases xs with
 | nil=>rfl
 | cons x r=>simp
end F
namespace F
open PySem PySem.Spec PyProof.Rows L2
theorem zcd{K:PySem.W.Frag}{H:Hp}:∀ ns:List Int,Rps K H (ns.map PV.int) (ns.map V.int) []
 | []=>.nil
 | n::ns=>by
  have:=Rps.cons (K:=K) (H:=H) (Rp.mkI n) (zcd ns)
  exact this
theorem zma{K:PySem.W.Frag}{Φ:List PV->Option PV}{H:Hp}{a:Addr}{ns:List Int}(ho:zkN H)(hs:SqL K H a (ns.map V.int))(h:Φ [.fls (ns.map PV.int)]=some (.bl true)):spV K 1 Φ [.ref a] H (fun v _=>v=.bl true) (fun _ _ _=>False):=by
 have fz:Fz K H a (ns.map V.int):=by
  rcases hs with (hs | hs) | hs
  ·rcases ho a with z | ⟨o,xs,z⟩
   ·rw [hs] at z;cases z
   ·rw [hs] at z;cases z
  ·exact .inl hs
  ·exact .inr hs
 refine ⟨[.fls (ns.map PV.int)],[],.bl true,Rps.one (by unfold Rp;exact ⟨a,_,rfl,fz,zcd ns⟩),rfl,h,fun v H' C _ r _ _=>r.B.1⟩
end F
namespace F
open PySem L2
section
variable {env:En} {f fk:FE} {fs:FA}
@[simp] theorem zkK:zge fs env=(fs env).bind fun ps=>if ps.length≤100000 then some (.lst ps) else none:=rfl
@[simp] theorem zmw:zkC fs env=(fs env).bind fun ps=>match ps with | [p,q]=>(wW p).bind fun xs=>(wW q).bind fun ys=>some ((List.zip xs ys).map fun z=>PV.tup [z.1,z.2]) | _=>none:=rfl
end
noncomputable def dF(L:List Int)(G:Int->PV):PV:=.dct (L.map Sum.inl) (L.map G)
section
variable {L:List Int} {G:Int->PV} {p:Int} {q x:PV}
@[simp] theorem zoL:vIn (.int p) (dF L G)=some (decide (p ∈ L)):=by simp only [dF,vIn,vA]
@[simp] theorem zos:vIn .non (dF L G)=some false:=rfl
@[simp] theorem zoo:yo [dF L G]=some (.int L.length):=by simp [dF]
theorem zdl(h:p ∈ L):u0 (L.map Sum.inl) (L.map G) (.inl p)=some (G p):=by
 unfold u0
 induction L with
 | nil=>cases h
 | cons a r ih=>
  rw [List.map_cons,List.map_cons,List.zip_cons_cons,List.find?_cons]
  by_cases e:a=p
  ·subst e;simp
  ·have:decide ((((Sum.inl a:Key),G a):Key × PV).1=Sum.inl p)=false:=decide_eq_false fun z=>e (Sum.inl.inj z)
   rw [this]
   exact ih ((List.mem_cons.mp h).resolve_left fun z=>e z.symm)
theorem zcy(h:p ∉ L):u0 (L.map Sum.inl) (L.map G) (.inl p)=none:=by
 unfold u0
 induction L with
 | nil=>rfl
 | cons a r ih=>
  rw [List.map_cons,List.map_cons,List.zip_cons_cons,List.find?_cons]
  have e:¬ a=p:=fun z=>h (z ▸ List.mem_cons_self)
  have:decide ((((Sum.inl a:Key),G a):Key × PV).1=Sum.inl p)=false:=decide_eq_false fun z=>e (Sum.inl.inj z)
  rw [this]
  exact ih fun z=>h (List.mem_cons_of_mem _ z)
theorem jz(h:p ∈ L):vIx (dF L G) (.int p)=some (G p):=zdl h
noncomputable def kP(L:List Int)(G:Int->PV):Prop:=∀ p ∈ L,zl (G p)=true
theorem zem(h:kP L G):isDatas (L.map G)=true:=by
 rw [wX]
 intro y hy
 obtain ⟨a,ha,rfl⟩:=List.mem_map.mp hy
 exact h a ha
theorem zmm(hd:kP L G)(hx:zl x=true):zjC (dF L G) (.int p) x=some (if p ∈ L then G p else x):=by
 simp only [dF,zjC,zem hd,hx,Bool.and_self,if_true,wz,Option.map_some]
 by_cases h:p ∈ L
 ·rw [if_pos h,zdl h];rfl
 ·rw [if_neg h,zcy h];rfl
noncomputable def upF(G:Int->PV)(p:Int)(q:PV):Int->PV:=fun y=>if y=p then q else G y
@[simp] theorem xj:upF G p q p=q:=if_pos rfl
theorem vf{y:Int}(h:y≠p):upF G p q y=G y:=if_neg h
theorem zaG(hd:kP L G)(hq:zl q=true)(hl:L.length<100000):zas (dF L G) (.int p) q=some (dF (if p ∈ L then L else L++[p]) (upF G p q)):=by
 simp only [dF,zas,zem hd,hq,List.length_map,hl,decide_true,Bool.and_self,if_true]
 unfold wY
 rw [vA]
 by_cases h:p ∈ L
 ·rw [decide_eq_true h,if_pos rfl,if_pos h]
  congr 2
  clear h hl hd
  induction L with
  | nil=>rfl
  | cons a r ih=>
   simp only [List.map_cons,List.zipWith_cons_cons,ih]
   congr 1
   unfold upF
   by_cases e:a=p
   ·simp [e]
   ·simp [e]
 ·rw [decide_eq_false h,if_neg Bool.false_ne_true,if_neg h]
  simp only [List.map_append,List.map_cons,List.map_nil,xj]
  congr 3
  exact List.map_congr_left fun a ha=>(vf (show a≠p from fun z=>h (by rw [← z];exact ha))).symm
end
@[simp] theorem zoB(G:Int->PV):PV.dct [] []=dF [] G:=rfl
noncomputable def okB(d:Nat)(p:PV):Prop:=ug p=true/\(y6 p).canLay0=true/\(y6 p).depth≤d
theorem okB.mono{d e:Nat}{p:PV}(h:okB d p)(hd:d≤e):okB e p:=⟨h.1,h.2.1,Nat.le_trans h.2.2 hd⟩
theorem okB.ok{d:Nat}{p:PV}(h:okB d p)(hd:d≤64):k7 p=true:=by
 have h3:(y6 p).depth≤64:=Nat.le_trans h.2.2 hd
 simp [k7,h.1,h.2.1,h3]
theorem zfN(i:Int):okB 0 (.int i):=⟨rfl,rfl,by simp [y6,PyData.depth]⟩
theorem zkj{x:Str}(h:PyData.canLay0 (.str x)=true):okB 0 (.str x):=⟨rfl,h,by simp [y6,PyData.depth]⟩
theorem zkh{d:Nat}:∀ {ps:List PV},(∀ p ∈ ps,okB d p)->okPys ps=true/\PyData.canLayAll0 (toPys ps)=true/\PyData.depthAll (toPys ps)≤d
 | [],_=>⟨rfl,rfl,by simp [toPys,PyData.depthAll]⟩
 | p::ps,h=>by
  obtain ⟨h1,h2,h3⟩:=h p List.mem_cons_self
  obtain ⟨g1,g2,g3⟩:=zkh fun q hq=>h q (List.mem_cons_of_mem _ hq)
  refine ⟨by rw [okPys,h1,g1];rfl,by rw [toPys,PyData.canLayAll0,h2,g2];rfl,by rw [toPys,PyData.depthAll];omega⟩
theorem kh{d:Nat}{ps:List PV}(h:∀ p ∈ ps,okB d p):okB (d+1) (.lst ps):=by
 obtain ⟨h1,h2,h3⟩:=zkh h
 exact ⟨by rw [ug];exact h1,by rw [y6,PyData.canLay0];exact h2,by rw [y6,PyData.depth];omega⟩
theorem zki{d:Nat}{ps:List PV}(h:∀ p ∈ ps,okB d p):okB (d+1) (.tup ps):=by
 obtain ⟨h1,h2,h3⟩:=zkh h
 exact ⟨by rw [ug];exact h1,by rw [y6,PyData.canLay0];exact h2,by rw [y6,PyData.depth];omega⟩
theorem zdX(xs:List Int):∀ p ∈ xs.map PV.int,okB 0 p:=fun p hp=>by
 obtain ⟨i,_,rfl⟩:=List.mem_map.mp hp;exact zfN i
theorem zjc{d:Nat}{p:PV}(h:okB d p):eqP p p=true:=PySem.SeqAt.eqv_refl _ h.2.1
theorem zcZ{d:Nat}{p:PV}(h:okB d p)(hd:d≤64):vNe p p=some (.bl false):=by simp [vNe,h.ok hd,zjc h]
section
variable {b:PV->En->Option En} {g:FS} {t:FT} {f:FE}
theorem yh{α:Type}{xs:List α}{hh:α->PV}{env:En}(P:List α->En->Prop)(h0:P [] env)
  (step:∀ pre a post e,xs=pre++a::post->P pre e->∃ e1 e2,b (hh a) e=some e1/\(g e1=some (.nx e2)∨g e1=some (.ct e2))/\P (pre++[a]) e2):∃ e,zbo b g (xs.map hh) env=some (.nx e)/\P xs e:=by
 have go:∀ (post pre:List α) (e:En),xs=pre++post->P pre e->∃ e',zbo b g (post.map hh) e=some (.nx e')/\P xs e':=by
  intro post
  induction post with
  | nil=>intro pre e hp h;exact ⟨e,rfl,by rw [hp,List.append_nil];exact h⟩
  | cons p post ih=>
   intro pre e hp h
   obtain ⟨e1,e2,h1,h2,h3⟩:=step pre p post e hp h
   obtain ⟨e',h4,h5⟩:=ih (pre++[p]) e2 (by rw [hp,List.append_assoc];rfl) h3
   refine ⟨e',?_,h5⟩
   rw [List.map_cons]
   unfold zbo
   rw [h1,Option.bind_some]
   rcases h2 with h2 | h2<;>(rw [h2,Option.bind_some];exact h4)
 exact go xs [] env rfl h0
theorem wZ{α:Type}{env:En}{hh:α->PV}(W:α->PV):∀ (xs:List α),(∀ a ∈ xs,∃ e,b (hh a) env=some e/\t e=some true/\f e=some (W a))->yO b t f (xs.map hh) env=some (xs.map W)
 | [],_=>rfl
 | a::xs,h=>by
  obtain ⟨e,h1,h2,h3⟩:=h a List.mem_cons_self
  have ih:=wZ W xs fun q hq=>h q (List.mem_cons_of_mem _ hq)
  rw [List.map_cons]
  unfold yO
  rw [h1,Option.bind_some,h2,Option.bind_some,ih,if_pos rfl,h3,Option.bind_some];rfl
theorem qd{α:Type}{env:En}{hh:α->PV}(T:α->Bool)(W:α->PV):∀ (xs:List α),(∀ a ∈ xs,∃ e,b (hh a) env=some e/\t e=some (T a)/\(T a=true->f e=some (W a)))->yO b t f (xs.map hh) env=some ((xs.filter T).map W)
 | [],_=>rfl
 | a::xs,h=>by
  obtain ⟨e,h1,h2,h3⟩:=h a List.mem_cons_self
  have ih:=qd T W xs fun q hq=>h q (List.mem_cons_of_mem _ hq)
  rw [List.map_cons]
  unfold yO
  rw [h1,Option.bind_some,h2,Option.bind_some,ih]
  cases hT:T a with
  | true=>rw [if_pos rfl,h3 hT,Option.bind_some,List.filter_cons,if_pos hT];rfl
  | false=>rw [if_neg Bool.false_ne_true,List.filter_cons,if_neg (by rw [hT];exact Bool.false_ne_true)]
end
theorem z8{fs:FA}{env:En}{i:Nat}{as:List PV}{p:PV}{Φ:List PV->Option PV}(h:fs env=some as)(h2:Φ as=some p):zh i (zJ Φ fs) env=some (.nx (env.set i (some p))):=by
 rw [kO,zgp,h,Option.bind_some,h2];rfl
theorem zT{fs:FA}{env:En}{as:List PV}{p:PV}{Φ:List PV->Option PV}(h:fs env=some as)(h2:Φ as=some p):zJ Φ fs env=some p:=by
 rw [zgp,h,Option.bind_some,h2]
theorem yT{m:Nat}{g:FS}{ps:List PV}{p:PV}{e:En}(env:En)(he:ps.map some++List.replicate (m - ps.length) none=env)(h:g env=some (.rt p e)):fnV m g ps=some p:=by
 unfold fnV;rw [he,h];rfl
theorem zcN{fs:FA}{env:En}{j:Int}(h:fs env=some [.int j])(h1 : -1000000≤j)(h2:j≤1000000):u8 fs env=some (j9 0 j.toNat):=by
 have hj:j<4611686018427387904/\-4611686018427387904≤j:=by omega
 unfold u8
 rw [h,Option.bind_some]
 simp [hj]
theorem zkv{n k:Nat}(h:k<n):ixN n (k:Int)=some k:=by
 unfold ixN
 rw [if_pos (by omega),if_pos (by omega)];rfl
theorem atI_nat{α:Type}{l:List α}{k:Nat}(h:k<l.length):atI l (k:Int)=some l[k]:=by
 rw [uP (by omega) (by omega)]
 simp [h]
end F
namespace CB
variable {F:List Int} {d:Int} {stop:Int->Bool} {pre:List Int} {ps:List (Int × Nat)} {f:Int}
theorem Runs.next(r:Runs0 F d stop pre ps)(nf:f ∉ pre){a:Nat}{x:Int × Nat}(ha:ps[a]?=some x)(hc:f - d ∈ z9 d x.1 x.2):f=x.1+x.2 * d:=by
 obtain ⟨i,hi,e⟩:=mem_chain.mp hc
 by_cases h:i+1<x.2
 ·have:=(r.inn _ (List.mem_of_getElem? ha) (i+1) h).1
  rw [zbJ] at this
  exact absurd (by rwa [show f=x.1+(i * d+d) by omega]) nf
 ·have:x.2=i+1:=by omega
  rw [this,zbJ];omega
theorem Runs.len(r:Runs0 F d stop pre ps):ps.length≤pre.length:=by
 have:=congrArg List.length r.heads
 rw [List.length_map] at this
 rw [this]
 exact List.length_filter_le _ _
theorem Runs.len0(r:Runs0 F d stop pre ps)(hd:0<d){a:Nat}{x:Int × Nat}(ha:ps[a]?=some x):x.2≤pre.length:=by
 have:=zL (z9 d x.1 x.2) pre (jf hd _ _) fun y hy=>by
  obtain ⟨i,hi,rfl⟩:=mem_chain.mp hy
  exact (r.inn x (List.mem_of_getElem? ha) i hi).1
 rwa [zcA] at this
end CB
namespace Cb
open PySem L2 F CB PyProof.Rows
noncomputable def qB:FS:=(y7 (fT (fOp xz (zA 5) (zA 3))) (zU (vY 3 (zA 4) (fOp vIx (zA 3) (zA 5)))
 (ziZ 2 (fOp vIx (zA 3) (zA 4)) (zag (zm (zA 4))))) (zU (vY 3 (zA 4) (zJ yo (zC (zA 2) zI)))
 (zt 2 (xA (zC (zm (zA 4)) zI)))))
noncomputable def zfd:FS:=(zU (zh 2 (xA zI))
 (zU (zh 3 jc)
 (zU (xu (zkC (zC (zA 0) (zC (zA 1) zI))) (kM 2 (yu (zP 4) (yu (zP 5) kN))) qB)
 (yM (fLC (zY (zA 2)) 1 [] (zP 0) ja (zJ jE (zC (zA 0) zI)))))))
noncomputable def uQ:List PV->Option PV:=fnV 6 zfd
noncomputable def wm:FS:=(yM (fIf (fT (fOp vEq (fOp wB (zA 1) (fOp vIx (zA 0) (fC (.int 0)))) (fC (.int 0)))) (fC .non) (fOp xi (zA 1) (fC (.int 1)))))
noncomputable def y4:List PV->Option PV:=fnV 2 wm
noncomputable def kE:FS:=(yM (zJ uQ (zC (fOp vIx (zA 0) (fC (.int 2))) (zC (fLC (zY (fOp vIx (zA 0) (fC (.int 2)))) 1 [0] (zP 0) ja (zJ y4 (zC (zA 1) (zC (zA 0) zI)))) zI))))
noncomputable def wT:List PV->Option PV:=fnV 1 kE
noncomputable def vy:FS:=(yM (fOp xi (zA 1) (fOp vIx (zA 0) (fC (.int 0)))))
noncomputable def xB:List PV->Option PV:=fnV 2 vy
noncomputable def vz:FS:=(yM (zJ uQ (zC (fOp vIx (zA 0) (fC (.int 2))) (zC (fLC (zY (fOp vIx (zA 0) (fC (.int 2)))) 1 [0] (zP 0) ja (zJ xB (zC (zA 1) (zC (zA 0) zI)))) zI))))
noncomputable def xC:List PV->Option PV:=fnV 1 vz
noncomputable def zbg:FS:=(zU (zh 1 (fLC (zY (zJ wT (zC (zA 0) zI))) 1 [] (zP 0) ja (xJ (zC (fC (.str "row")) (zC (zm (zA 0)) zI)))))
 (zU (zh 2 (fLC (zY (zJ xC (zC (zA 0) zI))) 1 [] (zP 0) ja (xJ (zC (fC (.str "column")) (zC (zm (zA 0)) zI)))))
 (yM (fOp yX (zA 1) (zA 2)))))
noncomputable def zq:List PV->Option PV:=fnV 3 zbg
noncomputable def uF:FS:=(vY 1 (zA 4) (fOp yX (zkE (zA 1) (zA 4) (xJ zI)) (xJ (zC (zA 2) zI))))
noncomputable def uE:FS:=(xu (zY (fOp vIx (zA 3) (fC (.int 1)))) (zP 4) uF)
noncomputable def jY:FS:=(zU (zh 1 jc)
 (zU (xu (zbp (zC (zJ zq (zC (zA 0) zI)) zI)) (kM 2 (yu (zP 2) (yu (zP 3) kN))) uE)
 (yM (zA 1))))
noncomputable def yQ:List PV->Option PV:=fnV 5 jY
noncomputable def ya(d:Int)(stop:Int->Bool)(f:Int):PV:=if stop f=true then .non else .int (f - d)
noncomputable def qN(d:Int)(x:Int × Nat):PV:=.lst ((z9 d x.1 x.2).map PV.int)
noncomputable def zcM(d:Int)(x:Int × Nat):PV:=.tup ((z9 d x.1 x.2).map PV.int)
theorem zfH{F:List Int}{d:Int}{stop:Int->Bool}(hd:0<d)(rise:F.Pairwise (·<·))(hl:F.length≤1000):
  ∃ ps,uQ [.tup (F.map PV.int),.lst (F.map (ya d stop))]=some (.lst (ps.map (zcM d)))/\Runs F d stop F ps:=by
 let mk:List (Int × Nat)->List Int->(Int->PV)->Option PV->Option PV->En:=fun ps pre G x y=>[some (.tup (F.map PV.int)),some (.lst (F.map (ya d stop))),some (.lst (ps.map (qN d))),some (dF pre G),x,y]
 obtain ⟨e,h1,ps,G,x,y,rfl,hr,hG⟩:=yh (b:=kM 2 (yu (zP 4) (yu (zP 5) kN))) (g:=qB) (xs:=F) (hh:=fun f=>PV.tup [.int f,ya d stop f]) (env:=mk [] [] (fun _=>.non) none none)
  (fun pre e=>∃ ps G x y,e=mk ps pre G x y/\Runs F d stop pre ps/\∀ f ∈ pre,∃ (k:Nat) (z:Int × Nat),G f=.int k/\ps[k]?=some z/\f ∈ z9 d z.1 z.2)
  ⟨[],_,none,none,rfl,.nil,by simp⟩ (by
   rintro pre f post e hF ⟨ps,G,x,y,rfl,r,hG⟩
   have sub:∀ p ∈ pre,p ∈ F:=fun p hp=>by rw [hF];exact List.mem_append_left _ hp
   have lt:∀ p ∈ pre,p<f:=fun p hp=>by
    rw [hF,List.pairwise_append] at rise
    exact rise.2.2 p hp f List.mem_cons_self
   have gt:∀ p ∈ F,p<f->p ∈ pre:=fun p hp h=>by
    rw [hF,List.pairwise_append] at rise
    rw [hF] at hp
    rcases List.mem_append.mp hp with hp | hp
    ·exact hp
    ·rcases List.mem_cons.mp hp with rfl | hp
     ·omega
     ·have:=(List.pairwise_cons.mp rise.2.1).1 p hp;omega
   have nf:f ∉ pre:=fun h=>by have:=lt f h;omega
   have nd:pre.Nodup:=by
    rw [hF,List.pairwise_append] at rise
    exact zi rise.1
   have hD:kP pre G:=fun p hp=>by obtain ⟨k,z,e,_⟩:=hG p hp;rw [e];rfl
   have hpl:pre.length<1000:=by rw [hF,List.length_append,List.length_cons] at hl;omega
   have hpsl:=Runs.len r.toRuns0
   refine ⟨mk ps pre G (some (.int f)) (some (ya d stop f)),?_⟩
   by_cases hin:stop f=false/\f - d ∈ pre
   ·-- it goes on
    obtain ⟨hs,hp⟩:=hin
    obtain ⟨k,z,e1,e2,e3⟩:=hG _ hp
    have hz:=Runs.next r.toRuns0 nf e2 e3
    have hst:yD F d stop f=false:=by simp [yD,hs,sub _ hp]
    obtain ⟨kl,kz⟩:=List.getElem?_eq_some_iff.mp e2
    refine ⟨mk (ps.set k (z.1,z.2+1)) (pre++[f]) (upF G f (.int k)) (some (.int f)) (some (ya d stop f)),by simp [kM,yu,kN,mk],.inl ?_,_,_,_,_,rfl,r.ext hd sub nd lt hst e2 hz,?_⟩
    ·have ha:ya d stop f=.int (f - d):=by simp [ya,hs]
     have hput:=zaG (p:=f) (q:=.int k) hD rfl (show pre.length<100000 by omega)
     rw [if_neg nf] at hput
     have hzl:z.2≤1000:=by
      have h1:=Runs.len0 r.toRuns0 hd e2
      omega
     have hset:(ps.set k (z.1,z.2+1)).map (qN d)=(ps.map (qN d)).set k (.lst ((z9 d z.1 z.2).map PV.int++[.int f])):=by
      rw [List.map_set]
      congr 1
      simp [qN,kJ,← hz]
     have ht:fT (fOp xz (zA 5) (zA 3)) (mk ps pre G (some (.int f)) (some (ya d stop f)))=some true:=by simp [mk,ha,hp]
     unfold qB
     rw [zr,ht,Option.bind_some,if_pos rfl]
     rw [zF (e:=mk ps (pre++[f]) (upF G f (.int k)) (some (.int f)) (some (ya d stop f))) (by simp [mk,vY,ha,jz hp,e1,hput])]
     have hk:ixN (ps.map (qN d)).length (k:Int)=some k:=zkv (by simpa using kl)
     have hg:(ps.map (qN d))[k]?=some (.lst ((z9 d z.1 z.2).map PV.int)):=by simp [kl,kz,qN]
     have hi:fOp vIx (zA 3) (zA 4) (mk ps (pre++[f]) (upF G f (.int k)) (some (.int f)) (some (ya d stop f)))=some (.int k):=by simp [mk,jz (L:=pre++[f]) (p:=f)]
     unfold ziZ
     rw [hi]
     have hv:zA 2 (mk ps (pre++[f]) (upF G f (.int k)) (some (.int f)) (some (ya d stop f)))=some (.lst (ps.map (qN d))):=rfl
     rw [hv,Option.bind_some,Option.bind_some]
     simp only [zai,Option.bind_some,hk,hg]
     simp only [zag,mk,qg,qf,List.getElem?_cons_succ,List.getElem?_cons_zero,Option.join_some,Option.bind_some,zeo,if_true,List.length_map,zcA,show z.2<100000 by omega,Option.map_some,hset]
     rfl
    ·intro p hp'
     rcases List.mem_append.mp hp' with hp' | hp'
     ·obtain ⟨k',z',f1,f2,f3⟩:=hG p hp'
      refine ⟨k',if k'=k then (z.1,z.2+1) else z',by rw [vf (show p≠f from fun h=>nf (by rw [← h];exact hp'))];exact f1,?_,?_⟩
      ·rw [List.getElem?_set]
       by_cases hk:k=k'
       ·subst hk;simp [kl]
       ·rw [if_neg hk,if_neg (fun h=>hk h.symm)];exact f2
      ·split
       ·rename_i hk
        subst hk
        rw [e2] at f2;cases f2
        simp only [kJ]
        exact List.mem_append_left _ f3
       ·exact f3
     ·rw [List.mem_singleton.mp hp']
      refine ⟨k,(z.1,z.2+1),xj,by rw [List.getElem?_set,if_pos rfl,if_pos kl],?_⟩
      simp only [kJ,← hz];simp
   ·have hst:yD F d stop f=true:=by
     by_cases hs:stop f=false
     ·have:f - d ∉ F:=fun h=>hin ⟨hs,gt _ h (by omega)⟩
      simp [yD,this]
     ·simp [yD,hs]
    refine ⟨mk (ps++[(f,1)]) (pre++[f]) (upF G f (.int ps.length)) (some (.int f)) (some (ya d stop f)),by simp [kM,yu,kN,mk],.inl ?_,_,_,_,_,rfl,r.new hd sub lt hst,?_⟩
    ·have hput:=zaG (p:=f) (q:=.int ps.length) hD rfl (show pre.length<100000 by omega)
     rw [if_neg nf] at hput
     have hno:vIn (ya d stop f) (dF pre G)=some false:=by
      unfold ya
      by_cases hs:stop f=true
      ·rw [if_pos hs];rfl
      ·rw [if_neg hs]
       have:f - d ∉ pre:=fun h=>hin ⟨by simpa using hs,h⟩
       simp [this]
     have hap:(ps.map (qN d))++[.lst [.int f]]=(ps++[(f,1)]).map (qN d):=by simp [qN,zgm]
     unfold qB
     simp [mk,hno,vY,hput,zt,show ps.length<100000 by omega,hap]
    ·intro p hp'
     rcases List.mem_append.mp hp' with hp' | hp'
     ·obtain ⟨k',z',f1,f2,f3⟩:=hG p hp'
      exact ⟨k',z',by rw [vf (show p≠f from fun h=>nf (by rw [← h];exact hp'))];exact f1,by rw [List.getElem?_append_left (List.getElem?_eq_some_iff.mp f2).1];exact f2,f3⟩
     ·rw [List.mem_singleton.mp hp']
      exact ⟨ps.length,(f,1),xj,by simp,by simp [zgm]⟩)
 refine ⟨ps,?_,hr⟩
 have hz:(List.zip (F.map PV.int) (F.map (ya d stop))).map (fun z=>PV.tup [z.1,z.2])=F.map fun f=>PV.tup [.int f,ya d stop f]:=by
  rw [List.zip_map',List.map_map];rfl
 have hpl:=Runs.len hr.toRuns0
 have hc:yO (zP 0) ja (zJ jE (zC (zA 0) zI)) (ps.map (qN d)) [none]=some (ps.map (zcM d)):=wZ _ _ fun a _=>⟨_,rfl,rfl,by simp [qN,zcM]⟩
 unfold uQ fnV zfd
 rw [zF (e:=[some (.tup (F.map PV.int)),some (.lst (F.map (ya d stop))),some (.lst []),none,none,none]) (by simp)]
 rw [zF (e:=mk [] [] (fun _=>.non) none none) (by simp [mk];rfl)]
 rw [zF (e:=mk ps F G x y) (by rw [yi,zmw];simp only [mk,zS,qf,zjq];simp [hz];exact h1)]
 simp [mk,show ps.length≤100000 by omega,cE,hc]
noncomputable abbrev flV(w h:Int)(F:List Int):PV:=.tup [.int w,.int h,.tup (F.map PV.int)]
noncomputable def wP(w:Int)(f:Int):Bool:=decide (f % w=0)
noncomputable def u3(_:Int):Bool:=false
theorem xc{w h:Int}{F:List Int}(fl:IsFloor w h F):F.length≤36:=by
 have h1:=fl.h1
 have wh:w * h≤6 * 6:=Int.mul_le_mul fl.w6 fl.h6 (by omega) (by omega)
 have:=zL F (places w h) (zi fl.rise) fun p hp=>mem_places.mpr (fl.inn p hp)
 simp [places] at this
 omega
theorem zdF{w h:Int}{F:List Int}(fl:IsFloor w h F):∃ ps,wT [flV w h F]=some (.lst (ps.map (zcM 1)))/\Runs F 1 (wP w) F ps:=by
 have hl:=xc fl
 obtain ⟨ps,h1,h2⟩:=zfH (d:=1) (stop:=wP w) (by decide) fl.rise (by omega)
 refine ⟨ps,?_,h2⟩
 have hw:0<w:=by have:=fl.w1;omega
 have hc:yO (zP 0) ja (zJ y4 (zC (zA 1) (zC (zA 0) zI))) (F.map PV.int) [none,some (flV w h F)]=some (F.map (ya 1 (wP w))):=wZ _ _ fun a _=>⟨_,rfl,rfl,by
  by_cases hz:a % w=0
  ·simp [y4,fnV,wm,xZ hw,hz,ya,wP]
  ·simp [y4,fnV,wm,xZ hw,hz,ya,wP]⟩
 simp [wT,fnV,kE,show F.length≤100000 by omega,cE,hc,h1]
theorem zbB{w h:Int}{F:List Int}(fl:IsFloor w h F):∃ ps,xC [flV w h F]=some (.lst (ps.map (zcM w)))/\Runs F w u3 F ps:=by
 have hl:=xc fl
 have hw:0<w:=by have:=fl.w1;omega
 obtain ⟨ps,h1,h2⟩:=zfH (d:=w) (stop:=u3) hw fl.rise (by omega)
 refine ⟨ps,?_,h2⟩
 have hc:yO (zP 0) ja (zJ xB (zC (zA 1) (zC (zA 0) zI))) (F.map PV.int) [none,some (flV w h F)]=some (F.map (ya w u3)):=wZ _ _ fun a _=>⟨_,rfl,rfl,by
  simp [xB,fnV,vy,ya,u3]⟩
 simp [xC,fnV,vz,show F.length≤100000 by omega,cE,hc,h1]
theorem zbu(d:Int)(x:Int × Nat):zl (zcM d x)=true:=by simp [zcM]
noncomputable def zn(w:Int)(rs cs:List (Int × Nat)):List (List Int):=rs.map (fun x=>z9 1 x.1 x.2)++cs.map (fun x=>z9 w x.1 x.2)
noncomputable def zp(z:Str × List Int):PV:=.tup [.str z.1,.tup (z.2.map PV.int)]
noncomputable def jC(w:Int)(rs cs:List (Int × Nat)):List (Str × List Int):=rs.map (fun x=>(Str.ofString "row",z9 1 x.1 x.2))++cs.map (fun x=>(Str.ofString "column",z9 w x.1 x.2))
theorem zhJ(w:Int)(rs cs:List (Int × Nat)):(jC w rs cs).map (·.2)=zn w rs cs:=by simp [jC,zn,List.map_map,Function.comp_def]
structure Strips (w h:Int) (F:List Int) (rs cs:List (Int × Nat)):Prop where
 fl:IsFloor w h F
 rows:Runs F 1 (wP w) F rs
 cols:Runs F w u3 F cs
theorem zgF{w h:Int}{F:List Int}(fl:IsFloor w h F):∃ rs cs,zq [flV w h F]=some (.lst ((jC w rs cs).map zp))/\Strips w h F rs cs:=by
 obtain ⟨rs,h1,r1⟩:=zdF fl
 obtain ⟨cs,h2,r2⟩:=zbB fl
 refine ⟨rs,cs,?_,fl,r1,r2⟩
 have hl:=xc fl
 have l1:=Runs.len r1.toRuns0
 have l2:=Runs.len r2.toRuns0
 have c1:yO (zP 0) ja (xJ (zC (fC (.str "row")) (zC (zm (zA 0)) zI))) (rs.map (zcM 1)) [none]=some (rs.map fun x=>zp ("row",z9 1 x.1 x.2)):=wZ _ _ fun a _=>⟨_,rfl,rfl,by simp [zbu,zp];rfl⟩
 have c2:yO (zP 0) ja (xJ (zC (fC (.str "column")) (zC (zm (zA 0)) zI))) (cs.map (zcM w)) [none]=some (cs.map fun x=>zp ("column",z9 w x.1 x.2)):=wZ _ _ fun a _=>⟨_,rfl,rfl,by simp [zbu,zp];rfl⟩
 unfold zq fnV zbg
 rw [zF (e:=[some (flV w h F),some (.lst (rs.map fun x=>zp ("row",z9 1 x.1 x.2))),none]) (by simp [h1,show rs.length≤100000 by omega,cE,c1])]
 rw [zF (e:=[some (flV w h F),some (.lst (rs.map fun x=>zp ("row",z9 1 x.1 x.2))),some (.lst (cs.map fun x=>zp ("column",z9 w x.1 x.2)))]) (by simp [h2,show cs.length≤100000 by omega,cE,c2])]
 have e:(jC w rs cs).map zp=(rs.map fun x=>zp ("row",z9 1 x.1 x.2))++(cs.map fun x=>zp ("column",z9 w x.1 x.2)):=by simp [jC,List.map_map,Function.comp_def]
 rw [e]
 have d1:isDatas (rs.map fun x=>zp (Str.ofString "row",z9 1 x.1 x.2))=true:=ye _ (fun x=>by simp [zp]) rs
 have d2:isDatas (cs.map fun x=>zp (Str.ofString "column",z9 w x.1 x.2))=true:=ye _ (fun x=>by simp [zp]) cs
 simp [yX,d1,d2,show rs.length+cs.length≤100000 by omega]
noncomputable def idx(ls:List (List Int))(f:Int):List Nat:=(List.range ls.length).filter fun k=>decide (f ∈ (ls[k]?).getD [])
theorem ziL(ls:List (List Int))(z:List Int)(f:Int):idx (ls++[z]) f=idx ls f++(if f ∈ z then [ls.length] else []):=by
 unfold idx
 rw [List.length_append,List.length_singleton,List.range_succ,List.filter_append]
 congr 1
 ·refine List.filter_congr fun k hk=>?_
  have:=List.mem_range.mp hk
  rw [List.getElem?_append_left this]
 ·by_cases h:f ∈ z<;>simp [h]
theorem zbm{n k:Nat}{p:Nat->Bool}(hk:k<n)(h:∀ j,j<n->(p j=true ↔ j=k)):(List.range n).filter p=[k]:=by
 have e:(List.range n).filter p=(List.range n).filter (· == k):=List.filter_congr fun j hj=>by
  rw [Bool.eq_iff_iff,h j (List.mem_range.mp hj)];simp
 rw [e,List.filter_beq,List.nodup_range.count,if_pos (List.mem_range.mpr hk)];rfl
theorem zfX{A B:List (List Int)}{f:Int}{r c:Nat}(hr:r<A.length)(hc:c<B.length)(h1:∀ j,j<A.length->(f ∈ (A[j]?).getD [] ↔ j=r))(h2:∀ j,j<B.length->(f ∈ (B[j]?).getD [] ↔ j=c)):idx (A++B) f=[r,A.length+c]:=by
 unfold idx
 rw [List.length_append,List.range_add,List.filter_append,List.filter_map]
 have e1:(List.range A.length).filter (fun k=>decide (f ∈ ((A++B)[k]?).getD []))=[r]:=zbm hr fun j hj=>by
  rw [List.getElem?_append_left hj,decide_eq_true_eq];exact h1 j hj
 have e2:(List.range B.length).filter ((fun k=>decide (f ∈ ((A++B)[k]?).getD [])) ∘ fun x=>A.length+x)=[c]:=zbm hc fun j hj=>by
  simp only [Function.comp_apply,decide_eq_true_eq]
  rw [List.getElem?_append_right (Nat.le_add_right _ _),Nat.add_sub_cancel_left]
  exact h2 j hj
 rw [e1,e2];rfl
theorem Strips.pair{w h:Int}{F:List Int}{rs cs:List (Int × Nat)}(S:Strips w h F rs cs){f:Int}(hf:f ∈ F):∃ r c:Nat,idx (zn w rs cs) f=[r,c]/\r<rs.length/\rs.length≤c/\c<rs.length+cs.length:=by
 have nd:=zi S.fl.rise
 obtain ⟨r,hr,h1⟩:=Runs.one S.rows (fun _ h=>h) nd hf
 obtain ⟨c,hc,h2⟩:=Runs.one S.cols (fun _ h=>h) nd hf
 refine ⟨r,rs.length+c,?_,hr,by omega,by omega⟩
 have:=zfX (A:=rs.map fun x=>z9 1 x.1 x.2) (B:=cs.map fun x=>z9 w x.1 x.2) (f:=f) (r:=r) (c:=c) (by simpa using hr) (by simpa using hc)
  (fun j hj=>by
   have hj':j<rs.length:=by simpa using hj
   rw [List.getElem?_eq_getElem hj,List.getElem_map]
   exact h1 j _ (List.getElem?_eq_getElem hj'))
  (fun j hj=>by
   have hj':j<cs.length:=by simpa using hj
   rw [List.getElem?_eq_getElem hj,List.getElem_map]
   exact h2 j _ (List.getElem?_eq_getElem hj'))
 rw [List.length_map] at this
 exact this
theorem Strips.sub{w h:Int}{F:List Int}{rs cs:List (Int × Nat)}(S:Strips w h F rs cs){z:List Int}(hz:z ∈ zn w rs cs):z.Nodup/\∀ f ∈ z,f ∈ F:=by
 unfold zn at hz
 rcases List.mem_append.mp hz with hz | hz
 ·obtain ⟨x,hx,rfl⟩:=List.mem_map.mp hz
  exact ⟨jf (by decide) _ _,fun f hf=>by obtain ⟨i,hi,rfl⟩:=mem_chain.mp hf;exact (S.rows.inn x hx i hi).1⟩
 ·obtain ⟨x,hx,rfl⟩:=List.mem_map.mp hz
  exact ⟨jf (by have:=S.fl.w1;omega) _ _,fun f hf=>by obtain ⟨i,hi,rfl⟩:=mem_chain.mp hf;exact (S.cols.inn x hx i hi).1⟩
noncomputable def kI(ls:List (List Int))(f:Int):PV:=.tup ((idx ls f).map fun (k:Nat)=>PV.int k)
theorem qc(l:List Nat):isDatas (l.map fun (k:Nat)=>PV.int k)=true:=ye _ (fun _=>rfl) l
theorem zdm{src:PV}{zs:List (Str × List Int)}{F:List Int}(hs:zq [src]=some (.lst (zs.map zp)))(hz:∀ z ∈ zs,z.2.Nodup/\∀ f ∈ z.2,f ∈ F)(hF:F.Nodup)(hl:F.length≤1000)(hzl:zs.length≤1000):
  ∃ L G,yQ [src]=some (dF L G)/\(∀ f,f ∈ L ↔ ∃ z ∈ zs,f ∈ z.2)/\∀ f ∈ L,G f=kI (zs.map (·.2)) f:=by
 let mk:List Int->(Int->PV)->Option PV->Option PV->Option PV->En:=fun L G x y z=>[some src,some (dF L G),x,y,z]
 obtain ⟨e,h1,L,G,x,y,z,rfl,nd,mm,hG⟩:=yh (b:=kM 2 (yu (zP 2) (yu (zP 3) kN))) (g:=uE) (xs:=zs.zipIdx) (hh:=fun z=>PV.tup [.int (z.2:Int),zp z.1]) (env:=mk [] (fun _=>.non) none none none)
  (fun pre e=>∃ L G x y z,e=mk L G x y z/\L.Nodup/\(∀ f,f ∈ L ↔ ∃ z ∈ pre.map (·.1),f ∈ z.2)/\∀ f ∈ L,G f=kI ((pre.map (·.1)).map (·.2)) f)
  ⟨[],_,none,none,none,rfl,.nil,by simp,by simp⟩ (by
   rintro pre ⟨a,n⟩ post e hpre ⟨L,G,x,y,z,rfl,nd,mm,hG⟩
   have hn:n=pre.length:=by
    have:=List.getElem?_zipIdx (l:=zs) (i:=0) (j:=pre.length)
    rw [hpre,List.getElem?_append_right (Nat.le_refl _),Nat.sub_self,List.getElem?_cons_zero] at this
    cases hq:zs[pre.length]? with
    | none=>rw [hq] at this;cases this
    | some q=>rw [hq] at this;simp at this;exact this.2
   have ha:a ∈ zs:=by
    have h:(a,n) ∈ zs.zipIdx:=by rw [hpre];simp
    have:=List.mem_map_of_mem (f:=Prod.fst) h
    rwa [List.zipIdx_map_fst] at this
   have hpz:∀ z ∈ pre.map (·.1),z ∈ zs:=fun z hzz=>by
    obtain ⟨q,hq,rfl⟩:=List.mem_map.mp hzz
    have h:q ∈ zs.zipIdx:=by rw [hpre];exact List.mem_append_left _ hq
    have:=List.mem_map_of_mem (f:=Prod.fst) h
    rwa [List.zipIdx_map_fst] at this
   obtain ⟨and,asub⟩:=hz a ha
   generalize hls:(pre.map (·.1)).map (·.2)=ls at hG
   have hln:ls.length=n:=by rw [← hls,hn];simp
   have mm0:∀ f,f ∈ L ↔ ∃ z ∈ ls,f ∈ z:=fun f=>by
    rw [mm f,← hls]
    exact ⟨fun ⟨z,h1,h2⟩=>⟨z.2,List.mem_map.mpr ⟨z,h1,rfl⟩,h2⟩,fun ⟨z,h1,h2⟩=>by obtain ⟨q,hq,rfl⟩:=List.mem_map.mp h1;exact ⟨q,hq,h2⟩⟩
   have lsub:∀ z ∈ ls,∀ f ∈ z,f ∈ F:=fun z hzz f hf=>by
    rw [← hls] at hzz
    obtain ⟨q,hq,rfl⟩:=List.mem_map.mp hzz
    exact (hz q (hpz q hq)).2 f hf
   obtain ⟨e',g1,L',G',z',rfl,nd',mm',hG'⟩:=yh (b:=zP 4) (g:=uF) (xs:=a.2) (hh:=PV.int) (env:=mk L G (some (.int n)) (some (zp a)) z)
    (fun q e=>∃ L G z,e=mk L G (some (.int n)) (some (zp a)) z/\L.Nodup/\(∀ f,f ∈ L ↔ (∃ z ∈ ls,f ∈ z)∨f ∈ q)/\∀ f ∈ L,G f=.tup ((idx ls f++if f ∈ q then [n] else []).map fun (k:Nat)=>PV.int k))
    ⟨L,G,z,rfl,nd,by simpa using mm0,fun f hf=>by rw [hG f hf];simp [kI]⟩ (by
     rintro q f post e hq ⟨L,G,z,rfl,nd,mm,hG⟩
     have hfa:f ∈ a.2:=by rw [hq];simp
     have nfq:f ∉ q:=by
      rw [hq,List.nodup_append] at and
      exact fun h=>and.2.2 f h f List.mem_cons_self rfl
     have Lsub:∀ f ∈ L,f ∈ F:=fun g hg=>by
      rcases (mm g).mp hg with ⟨z,h1,h2⟩ | h
      ·exact lsub z h1 g h2
      ·exact asub g (by rw [hq];exact List.mem_append_left _ h)
     have Ll:L.length≤1000:=Nat.le_trans (zL L F nd Lsub) hl
     have hD:kP L G:=fun p hp=>by rw [hG p hp];simp only [zen,qc]
     have hget:=zmm (p:=f) (x:=.tup []) hD rfl
     have hval:(if f ∈ L then G f else PV.tup [])=.tup ((idx ls f).map fun (k:Nat)=>PV.int k):=by
      by_cases h:f ∈ L
      ·rw [if_pos h,hG f h,if_neg nfq,List.append_nil]
      ·rw [if_neg h]
       have:idx ls f=[]:=by
        unfold idx
        rw [List.filter_eq_nil_iff]
        intro k hk hc
        have hk':=List.mem_range.mp hk
        rw [decide_eq_true_eq,List.getElem?_eq_getElem hk'] at hc
        exact h ((mm f).mpr (.inl ⟨_,List.getElem_mem hk',hc⟩))
       rw [this];rfl
     rw [hval] at hget
     have hput:=zaG (p:=f) (q:=.tup ((idx ls f++[n]).map fun (k:Nat)=>PV.int k)) hD (by simp only [zen,qc]) (show L.length<100000 by omega)
     refine ⟨mk L G (some (.int n)) (some (zp a)) (some (.int f)),mk (if f ∈ L then L else L++[f]) (upF G f (.tup ((idx ls f++[n]).map fun (k:Nat)=>PV.int k))) (some (.int n)) (some (zp a)) (some (.int f)),rfl,.inl ?_,_,_,_,rfl,?_,?_,?_⟩
     ·have hil:(idx ls f).length≤ls.length:=by unfold idx;exact Nat.le_trans (List.length_filter_le _ _) (by simp)
      have hadd:yX (.tup ((idx ls f).map fun (k:Nat)=>PV.int k)) (.tup [.int n])=some (.tup ((idx ls f++[n]).map fun (k:Nat)=>PV.int k)):=by
       have nl:n≤1000:=by
        have:=congrArg List.length hpre
        rw [List.length_zipIdx,List.length_append,List.length_cons] at this
        omega
       simp [yX,qc,show (idx ls f).length+1≤100000 by omega]
      unfold uF vY
      simp only [yA,zkE,mk,qf,zfo,zS,zjq,List.getElem?_cons_succ,List.getElem?_cons_zero,Option.join_some,Option.bind_some,Option.map_some,hget,hadd,hput]
      rfl
     ·split
      ·exact nd
      ·rename_i h
       exact List.nodup_append.mpr ⟨nd,by simp,fun a ha b hb=>by rw [List.mem_singleton.mp hb];exact fun e=>h (e ▸ ha)⟩
     ·intro g
      rw [List.mem_append,List.mem_singleton,← or_assoc,← mm g]
      split
      ·rename_i h
       exact ⟨.inl,fun z=>z.elim id fun e=>e ▸ h⟩
      ·rw [List.mem_append,List.mem_singleton]
     ·intro g hg
      by_cases e:g=f
      ·subst e
       rw [xj,if_pos (by simp)]
      ·rw [vf e,hG g (by
        split at hg
        ·exact hg
        ·exact (List.mem_append.mp hg).resolve_right fun z=>e (List.mem_singleton.mp z))]
       have:(g ∈ q++[f]) ↔ g ∈ q:=by simp [e]
       simp only [this])
   refine ⟨mk L G (some (.int n)) (some (zp a)) z,mk L' G' (some (.int n)) (some (zp a)) z',by simp [kM,yu,kN,mk],.inl ?_,_,_,_,_,_,rfl,nd',?_,?_⟩
   ·unfold uE
    rw [yi]
    have:zY (fOp vIx (zA 3) (fC (.int 1))) (mk L G (some (.int n)) (some (zp a)) z)=some (a.2.map PV.int):=by simp [mk,zp]
    rw [this,Option.bind_some]
    exact g1
   ·intro f
    rw [mm' f,← hls]
    simp only [List.map_append,List.map_cons,List.map_nil,List.mem_append,List.mem_singleton,List.mem_map]
    constructor
    ·rintro (⟨z,⟨q,hq,rfl⟩,hf⟩ | hf)
     ·exact ⟨q,.inl hq,hf⟩
     ·exact ⟨a,.inr rfl,hf⟩
    ·rintro ⟨z,hz | rfl,hf⟩
     ·exact .inl ⟨z.2,⟨z,hz,rfl⟩,hf⟩
     ·exact .inr hf
   ·intro f hf
    rw [hG' f hf]
    simp only [List.map_append,List.map_cons,List.map_nil,kI]
    rw [hls,ziL,hln,List.map_append])
 refine ⟨L,G,?_,fun f=>?_,fun f hf=>?_⟩
 ·unfold yQ fnV jY
  rw [zF (e:=mk [] (fun _=>.non) none none none) (by simp [mk];rfl)]
  rw [zF (e:=mk L G x y z) (by
   rw [yi]
   have:zbp (zC (zJ zq (zC (zA 0) zI)) zI) (mk [] (fun _=>.non) none none none)=some (zs.zipIdx.map fun z=>PV.tup [.int (z.2:Int),zp z.1]):=by
    simp [zbp,mk,hs,k8,List.zipIdx_map,List.map_map,Function.comp_def]
   rw [this,Option.bind_some]
   exact h1)]
  simp [mk]
 ·rw [mm f,List.zipIdx_map_fst]
 ·rw [hG f hf,List.zipIdx_map_fst]
theorem Strips.lens{w h:Int}{F:List Int}{rs cs:List (Int × Nat)}(S:Strips w h F rs cs):rs.length≤36/\cs.length≤36:=by
 have:=xc S.fl
 have l1:=Runs.len S.rows.toRuns0
 have l2:=Runs.len S.cols.toRuns0
 omega
theorem zjh{w h:Int}{F:List Int}(fl:IsFloor w h F):∃ rs cs,Strips w h F rs cs/\zq [flV w h F]=some (.lst ((jC w rs cs).map zp))/\
  ∃ L G,yQ [flV w h F]=some (dF L G)/\(∀ f,f ∈ L ↔ f ∈ F)/\∀ f ∈ F,G f=kI (zn w rs cs) f:=by
 obtain ⟨rs,cs,h1,S⟩:=zgF fl
 refine ⟨rs,cs,S,h1,?_⟩
 have hz:∀ z ∈ jC w rs cs,z.2.Nodup/\∀ f ∈ z.2,f ∈ F:=fun z hz=>S.sub (by rw [← zhJ];exact List.mem_map.mpr ⟨z,hz,rfl⟩)
 obtain ⟨L,G,e,m,g⟩:=zdm h1 hz (zi fl.rise) (by have:=xc fl;omega) (by have:=S.lens;simp [jC];omega)
 have mm:∀ f,f ∈ L ↔ f ∈ F:=fun f=>by
  rw [m f]
  refine ⟨fun ⟨z,h1,h2⟩=>(hz z h1).2 f h2,fun hf=>?_⟩
  obtain ⟨x,hx,i,hi,e⟩:=S.rows.cov f hf
  exact ⟨(Str.ofString "row",z9 1 x.1 x.2),List.mem_append_left _ (List.mem_map.mpr ⟨x,hx,rfl⟩),mem_chain.mpr ⟨i,hi,e⟩⟩
 refine ⟨L,G,e,mm,fun f hf=>?_⟩
 rw [g f ((mm f).mpr hf),zhJ]
structure Cross (w h:Int) (F:List Int) (ls:List (List Int)) (L:List Int) (G:Int->PV):Prop where
 val:yQ [flV w h F]=some (dF L G)
 mem:∀ f,f ∈ L ↔ f ∈ F
 at':∀ f ∈ F,G f=kI ls f
theorem Cross.ix{w h:Int}{F:List Int}{ls:List (List Int)}{L:List Int}{G:Int->PV}(C:Cross w h F ls L G){f:Int}(hf:f ∈ F){r c:Nat}(hi:idx ls f=[r,c]):vIx (dF L G) (.int f)=some (.tup [.int r,.int c]):=by
 rw [jz ((C.mem f).mpr hf),C.at' f hf]
 simp [kI,hi]
noncomputable def rc(ls:List (List Int))(f:Int):Nat × Nat:=match idx ls f with | [r,c]=>(r,c) | _=>(0,0)
theorem zhm{w h:Int}{F:List Int}(fl:IsFloor w h F):∃ rs cs L G,Strips w h F rs cs/\zq [flV w h F]=some (.lst ((jC w rs cs).map zp))/\Cross w h F (zn w rs cs) L G:=by
 obtain ⟨rs,cs,S,h1,L,G,h2,h3,h4⟩:=zjh fl
 exact ⟨rs,cs,L,G,S,h1,h2,h3,h4⟩
theorem Strips.pairX{w h:Int}{F:List Int}{rs cs:List (Int × Nat)}(S:Strips w h F rs cs){f:Int}(hf:f ∈ F):∃ r c:Nat,idx (zn w rs cs) f=[r,rs.length+c]/\r<rs.length/\c<cs.length/\(∀ j x,rs[j]?=some x->(f ∈ z9 1 x.1 x.2 ↔ j=r))/\∀ j x,cs[j]?=some x->(f ∈ z9 w x.1 x.2 ↔ j=c):=by
 have nd:=zi S.fl.rise
 obtain ⟨r,hr,h1⟩:=Runs.one S.rows (fun _ h=>h) nd hf
 obtain ⟨c,hc,h2⟩:=Runs.one S.cols (fun _ h=>h) nd hf
 refine ⟨r,c,?_,hr,hc,h1,h2⟩
 have:=zfX (A:=rs.map fun x=>z9 1 x.1 x.2) (B:=cs.map fun x=>z9 w x.1 x.2) (f:=f) (r:=r) (c:=c) (by simpa using hr) (by simpa using hc)
  (fun j hj=>by
   have hj':j<rs.length:=by simpa using hj
   rw [List.getElem?_eq_getElem hj,List.getElem_map]
   exact h1 j _ (List.getElem?_eq_getElem hj'))
  (fun j hj=>by
   have hj':j<cs.length:=by simpa using hj
   rw [List.getElem?_eq_getElem hj,List.getElem_map]
   exact h2 j _ (List.getElem?_eq_getElem hj'))
 rw [List.length_map] at this
 exact this
theorem Strips.rc_of{w h:Int}{F:List Int}{rs cs:List (Int × Nat)}(S:Strips w h F rs cs){f:Int}(hf:f ∈ F):idx (zn w rs cs) f=[(rc (zn w rs cs) f).1,(rc (zn w rs cs) f).2]/\(rc (zn w rs cs) f).1<rs.length/\rs.length≤(rc (zn w rs cs) f).2/\(rc (zn w rs cs) f).2<rs.length+cs.length:=by
 obtain ⟨r,c,h1,h2,h3,h4⟩:=S.pair hf
 simp only [rc,h1]
 exact ⟨trivial,h2,h3,h4⟩
theorem Strips.ne{w h:Int}{F:List Int}{rs cs:List (Int × Nat)}(S:Strips w h F rs cs):0<rs.length/\0<cs.length:=by
 obtain ⟨f,hf⟩:=List.exists_mem_of_ne_nil F S.fl.ne
 obtain ⟨r,c,_,h1,h2,h3⟩:=S.pair hf
 omega
noncomputable def vD:FS:=(zU (y7 (fT (fOp vEq (zJ yo (zC (zA 0) zI)) (fC (.int 0)))) (yM (xA (zC (fOp yX (fOp wa (fC (.int 17)) (zA 1)) (fC (.int 6))) (zC (fC (.int 1)) zI)))) fNx)
 (zU (y7 (fT (fOp vEq (fOp wB (fOp vIx (zA 0) (fC (.int 0))) (fC (.int 2))) (fC (.int 1)))) (yM (xA (zC (fOp wB (fOp yX (fOp vIx (zA 0) (fOp wB (fOp yX (fC (.int 1)) (zA 1)) (zJ yo (zC (zA 0) zI)))) (fOp wa (fC (.int 1009)) (zA 1))) (fC (.int 2147483629))) (zC (fC (.int 1)) zI)))) fNx)
 (zU (zh 2 (fC (.int 0)))
 (zU (y7 (fT (fOp vLt (fOp yX (zA 1) (fC (.int 1))) (zJ yo (zC (zA 0) zI)))) (zh 2 (fOp vIx (zA 0) (fOp yX (zA 1) (fC (.int 1))))) fNx)
 (yM (xA (zC (zm (zA 2)) (zC (fC (.int 0)) zI))))))))
noncomputable def xD:List PV->Option PV:=fnV 3 vD
noncomputable def vX:FS:=(zU (y7 (fT (fOp vEq (fOp vIx (jb 0) (fC (.int 1))) (fC (.int 1)))) (zU (jq 0 (fC (.int 0)) (fOp wB (fOp yX (fOp yX (fOp wa (fOp vIx (jb 0) (fC (.int 0))) (fOp vIx (jb 0) (fC (.int 0)))) (fOp wa (fC (.int 16807)) (fOp vIx (jb 0) (fC (.int 0))))) (fC (.int 3))) (fC (.int 2147483629))))
 (yM (fOp wB (fOp uH (fOp wB (fOp wa (fOp vIx (jb 0) (fC (.int 0))) (fC (.int 69621))) (fC (.int 2147483587))) (fC (.int 11))) (zA 1)))) fNx)
 (zU (zh 2 (fOp wB (fOp vIx (jb 0) (fC (.int 0))) (zA 1)))
 (zU (jq 0 (fC (.int 0)) (fOp uH (fOp vIx (jb 0) (fC (.int 0))) (zA 1)))
 (yM (zm (zA 2))))))
noncomputable def ze:List PV->Option (PV × List Int):=fnM 3 vX
noncomputable def Pen(ns:List Int):Prop:=∃ x k,ns=[x,k]/\(k=0∨k=1/\0≤x/\x<2147483629)
theorem kX{ns:List Int}{m:Int}(hp:Pen ns)(h1:1≤m)(h2:m≤1000000):∃ r ns',Pen ns'/\0≤r/\r<m/\∀ a,ze [.pen a ns,.int m]=some (.int r,ns'):=by
 obtain ⟨x,k,rfl,rfl | ⟨rfl,x0,x1⟩⟩:=hp
 ·have hm:=xZ (i:=x) (show 0<m by omega)
  have hd:=jp (i:=x) (show 0<m/\m<1073741824 by omega)
  refine ⟨x % m,[x / m,0],⟨_,_,rfl,.inl rfl⟩,Int.emod_nonneg _ (by omega),Int.emod_lt_of_pos _ (by omega),fun a=>?_⟩
  simp [ze,fnM,vX,zgb,jb,jq,ql,hm,hd,ixN]
 ·generalize hy:(x * x+16807 * x+3) % 2147483629=y
  have y0:0≤y:=by rw [← hy];exact Int.emod_nonneg _ (by decide)
  have y1:y<2147483629:=by rw [← hy];exact Int.emod_lt_of_pos _ (by decide)
  have m1:=kB (jo (i:=x) (j:=x) ⟨by omega,by omega⟩)
  have m2:=kB (jo (i:=16807) (j:=x) ⟨by decide,by decide⟩)
  have m3:=kB (jo (i:=y) (j:=69621) ⟨by omega,by omega⟩)
  have d1:=xZ (i:=x * x+16807 * x+3) (show (0:Int)<2147483629 by decide)
  have d2:=xZ (i:=y * 69621) (show (0:Int)<2147483587 by decide)
  have d3:=jp (i:=y * 69621 % 2147483587) (show (0:Int)<11/\(11:Int)<1073741824 by decide)
  have d4:=xZ (i:=y * 69621 % 2147483587 / 11) (show 0<m by omega)
  rw [hy] at d1
  refine ⟨y * 69621 % 2147483587 / 11 % m,[y,1],⟨_,_,rfl,.inr ⟨rfl,y0,y1⟩⟩,Int.emod_nonneg _ (by omega),Int.emod_lt_of_pos _ (by omega),fun a=>?_⟩
  simp [ze,fnM,vX,zgb,jb,jq,ql,m1,m2,m3,d1,d2,d3,d4,ixN]
theorem qe{Φ:List PV->Option (PV × List Int)}{i:Nat}{fs:FA}{env:En}{a:Addr}{ns ns':List Int}{ps:List PV}{z:PV}(hv:zA i env=some (.pen a ns))(hf:fs env=some ps)(h:∀ a,Φ (.pen a ns::ps)=some (z,ns')):xv Φ i fs env=some (z,env.set i (some (.pen a ns'))):=by
 unfold xv
 rw [hv,hf,Option.bind_some,Option.bind_some]
 show (zfr Φ (.pen a ns) ns ps).map _=_
 unfold zfr
 dsimp only
 rw [h a];rfl
theorem zdf{f:FM}{env e':En}{r:Int}(h:f env=some (.int r,e')):va f env=some (r,e'):=by
 unfold va
 rw [h];rfl
theorem ziT{m:Nat}{g:FS}{a:Addr}{ns ns':List Int}{ps:List PV}{p:PV}{e:En}(env:En)(he:(PV.pen a ns::ps).map some++List.replicate (m - (ps.length+1)) none=env)(h:g env=some (.rt p e))(hp:e[0]?=some (some (.pen a ns'))):fnM m g (.pen a ns::ps)=some (p,ns'):=by
 unfold fnM
 dsimp only
 rw [List.length_cons,he,h,Option.bind_some]
 dsimp only
 rw [hp]
 unfold ql
 dsimp only
 rw [if_pos rfl];rfl
theorem zjo{T:List Int}{i:Int}(h0:0≤i)(h1:i<T.length):atI (T.map PV.int) i=some (.int (T.getD i.toNat 0)):=by
 rw [zgn,uP h0 h1,List.getElem?_eq_getElem (by omega)]
 simp [List.getD,show i.toNat<T.length by omega]
structure Scr (ns:List Int):Prop where
 len:ns.length≤63
 bits:∀ m ∈ ns,Builtin.Int.intBits m≤1048576
noncomputable abbrev scr(ns:List Int):PV:=.fls (ns.map PV.int)
theorem zeM{ns:List Int}(S:Scr ns){j:Int}(j0:0≤j)(j1:j≤10):∃ ms,xD [scr ns,.int j]=some (.lst (ms.map PV.int))/\Pen ms:=by
 have m1:=kB (jo (i:=17) (j:=j) ⟨by decide,by decide⟩)
 have m2:=kB (jo (i:=1009) (j:=j) ⟨by decide,by decide⟩)
 cases ns with
 | nil=>
  refine ⟨[17 * j+6,1],?_,_,_,rfl,.inr ⟨rfl,by omega,by omega⟩⟩
  simp [xD,fnV,vD,m1]
 | cons s r=>
  have hl:((s::r).length:Int)≠0:=by rw [List.length_cons];omega
  have d1:=xZ (i:=s) (show (0:Int)<2 by decide)
  have hlen:zJ yo (zC (zA 0) zI) [some (scr (s::r)),some (.int j),none]=some (.int ((s::r).length:Int)):=zT (as:=[scr (s::r)]) rfl (by simp)
  have t1:fT (fOp vEq (zJ yo (zC (zA 0) zI)) (fC (.int 0))) [some (scr (s::r)),some (.int j),none]=some false:=by
   rw [jg,yA,hlen]
   show (vEq (.int _) (.int 0)).bind yC=_
   rw [zgg,decide_eq_false hl];rfl
  have v0:fOp vIx (zA 0) (fC (.int 0)) [some (scr (s::r)),some (.int j),none]=some (.int s):=by
   show atI ((s::r).map PV.int) 0=_
   rw [List.map_cons,zgo]
  have t2:fT (fOp vEq (fOp wB (fOp vIx (zA 0) (fC (.int 0))) (fC (.int 2))) (fC (.int 1))) [some (scr (s::r)),some (.int j),none]=some (decide (s % 2=1)):=by
   rw [jg,yA,yA,v0]
   show ((wB (.int s) (.int 2)).bind fun x=>vEq x (.int 1)).bind yC=_
   rw [d1,Option.bind_some,zgg];rfl
  by_cases hs:s % 2=1
  ·obtain ⟨i,hi,h0,h1⟩:∃ i:Int,(1+j) % ((s::r).length:Int)=i/\0≤i/\i<((s::r).length:Int):=⟨_,rfl,Int.emod_nonneg _ hl,Int.emod_lt_of_pos _ (by omega)⟩
   have d2:=xZ (i:=1+j) (show (0:Int)<((s::r).length:Int) by omega)
   rw [hi] at d2
   have hv:=zjo (T:=s::r) h0 h1
   generalize (s::r).getD i.toNat 0=v at hv
   have d3:=xZ (i:=v+1009 * j) (show (0:Int)<2147483629 by decide)
   refine ⟨[(v+1009 * j) % 2147483629,1],?_,_,_,rfl,.inr ⟨rfl,Int.emod_nonneg _ (by decide),Int.emod_lt_of_pos _ (by decide)⟩⟩
   have e1:fOp vIx (zA 0) (fOp wB (fOp yX (fC (.int 1)) (zA 1)) (zJ yo (zC (zA 0) zI))) [some (scr (s::r)),some (.int j),none]=some (.int v):=by
    rw [yA,yA,hlen]
    show ((wB (.int (1+j)) (.int _)).bind fun y=>vIx (scr (s::r)) y)=_
    rw [d2];exact hv
   refine yT (e:=[some (scr (s::r)),some (.int j),none]) [some (scr (s::r)),some (.int j),none] rfl ?_
   unfold vD
   rw [zF (e:=[some (scr (s::r)),some (.int j),none]) (by rw [zr,t1,Option.bind_some,if_neg Bool.false_ne_true];rfl)]
   refine zkD ?_
   rw [zr,t2,decide_eq_true hs,Option.bind_some,if_pos rfl]
   have e2:fOp wB (fOp yX (fOp vIx (zA 0) (fOp wB (fOp yX (fC (.int 1)) (zA 1)) (zJ yo (zC (zA 0) zI)))) (fOp wa (fC (.int 1009)) (zA 1))) (fC (.int 2147483629)) [some (scr (s::r)),some (.int j),none]=some (.int ((v+1009 * j) % 2147483629)):=by
    rw [yA,yA,e1]
    show (((wa (.int 1009) (.int j)).bind fun y=>yX (.int v) y).bind fun x=>wB x (.int 2147483629))=_
    rw [m2,Option.bind_some,zmx,Option.bind_some,d3]
   rw [wK,zfp,zS,e2];rfl
  ·obtain ⟨x,hx⟩:∃ x,y7 (fT (fOp vLt (fOp yX (zA 1) (fC (.int 1))) (zJ yo (zC (zA 0) zI)))) (zh 2 (fOp vIx (zA 0) (fOp yX (zA 1) (fC (.int 1))))) fNx [some (scr (s::r)),some (.int j),some (.int 0)]=some (.nx [some (scr (s::r)),some (.int j),some (.int x)]):=by
    have hlen':zJ yo (zC (zA 0) zI) [some (scr (s::r)),some (.int j),some (.int 0)]=some (.int ((s::r).length:Int)):=zT (as:=[scr (s::r)]) rfl (by simp)
    have ht:fT (fOp vLt (fOp yX (zA 1) (fC (.int 1))) (zJ yo (zC (zA 0) zI))) [some (scr (s::r)),some (.int j),some (.int 0)]=some (decide (j+1<((s::r).length:Int))):=by
     rw [jg,yA,hlen'];rfl
    rw [zr,ht,Option.bind_some]
    by_cases hj:j+1<((s::r).length:Int)
    ·refine ⟨(s::r).getD (j+1).toNat 0,?_⟩
     have hv:=zjo (T:=s::r) (i:=j+1) (by omega) hj
     rw [if_pos (decide_eq_true hj),kO]
     show (atI ((s::r).map PV.int) (j+1)).map _=_
     rw [hv];rfl
    ·exact ⟨0,by rw [if_neg (by rw [decide_eq_false hj];exact Bool.false_ne_true)];rfl⟩
   refine ⟨[x,0],?_,_,_,rfl,.inl rfl⟩
   refine yT (e:=[some (scr (s::r)),some (.int j),some (.int x)]) [some (scr (s::r)),some (.int j),none] rfl ?_
   unfold vD
   rw [zF (e:=[some (scr (s::r)),some (.int j),none]) (by rw [zr,t1,Option.bind_some,if_neg Bool.false_ne_true];rfl)]
   rw [zF (e:=[some (scr (s::r)),some (.int j),none]) (by rw [zr,t2,decide_eq_false hs,Option.bind_some,if_neg Bool.false_ne_true];rfl)]
   rw [zF (e:=[some (scr (s::r)),some (.int j),some (.int 0)]) rfl,zF hx]
   rfl
theorem xo{f:FE}{env:En}{i:Nat}{p:PV}(h:f env=some p):zh i f env=some (.nx (env.set i (some p))):=by rw [kO,h];rfl
theorem vW{E E':En}{src:FA}{n:Nat}{js:List Nat}{qs R:List PV}{b:PV->En->Option En}{t:FT}{f:FE}(hX:src E=some qs)(hce:cE n js E=E')(hl:qs.length≤100000)(hc:yO b t f qs E'=some R):fLC src n js b t f E=some (.lst R):=by
 rw [zld,hX,Option.bind_some,if_pos hl,hce,hc];rfl
theorem j4{xs:List Int}(h:xs.length<64):xG [.lst (xs.map PV.int)]=some (.lst ((vQ xs).map PV.int)):=by
 show kW [.lst (xs.map PV.int)]=_
 unfold kW
 dsimp only
 rw [uk]
 dsimp only
 rw [if_pos h]
theorem uK(B:List Int):xH [.lst (B.map PV.int)]=some (.lst (B.map PV.int)):=by simp
theorem zjN{x:Nat}{f:FI}{env e':En}{r:Int}(h:f env=some (r,e')):zbn x f env=some (.nx (e'.set x (some (.int r)))):=by
 unfold zbn
 rw [h];rfl
theorem zjH{x:Nat}{f:FM}{env e':En}{p:PV}(h:f env=some (p,e')):zga x f env=some (.nx (e'.set x (some p))):=by
 unfold zga
 rw [h];rfl
theorem zlU{fb:FI}{env e':En}{k r:Int}(h:fb env=some (r,e')):zei yX (fC (.int k)) fb env=some (k+r,e'):=by
 unfold zei
 rw [zfq,Option.bind_some,h];rfl
theorem zbF{Φ:List PV->Option (PV × List Int)}{f:FE}{fs:FA}{env:En}{ns ns':List Int}{ps:List PV}{z:PV}(hv:f env=some (.lst (ns.map PV.int)))(hf:fs env=some ps)(hd:isDatas ps=true)(h:∀ a,Φ (.pen a ns::ps)=some (z,ns')):kG Φ f fs env=some z:=by
 unfold kG
 rw [hv,hf,Option.bind_some,Option.bind_some]
 dsimp only
 rw [uk,Option.bind_some,if_pos hd]
 unfold zfr
 dsimp only
 rw [if_pos fun a=>by rw [h a,h 0],h 0];rfl
theorem zde{f:FE}{env:En}{a:PV}{l:List PV}(h:f env=some (.tup (a::l))):fOp vIx f (fC (.int 0)) env=some a:=by
 rw [yA,h,zfq];exact zgo
theorem zeZ{f:FE}{env:En}{a b:PV}{l:List PV}(h:f env=some (.tup (a::b::l))):fOp vIx f (fC (.int 1)) env=some b:=by
 rw [yA,h,zfq];exact zlc
theorem zmi{f:FE}{env:En}{a b c:PV}{l:List PV}(h:f env=some (.tup (a::b::c::l))):fOp vIx f (fC (.int 2)) env=some c:=by
 rw [yA,h,zfq];exact znH
theorem zgq{xs ys:List Int}(h:xs.length+ys.length≤100000):yX (.lst (xs.map PV.int)) (.lst (ys.map PV.int))=some (.lst ((xs++ys).map PV.int)):=by
 unfold yX
 dsimp only
 rw [if_pos (by rw [xK,xK,List.length_map,List.length_map,decide_eq_true h];rfl),List.map_append]
noncomputable def jZ:FS:=(zU (zh 3 (fOp wB (zA 2) (zA 0)))
 (zU (zh 4 (fOp uH (zA 2) (zA 0)))
 (zU (zh 5 (xA (zC (xJ (zC (fOp xi (zA 3) (fC (.int 1))) (zC (zA 4) zI))) (zC (xJ (zC (fOp yX (zA 3) (fC (.int 1))) (zC (zA 4) zI))) (zC (xJ (zC (zA 3) (zC (fOp xi (zA 4) (fC (.int 1))) zI))) (zC (xJ (zC (zA 3) (zC (fOp yX (zA 4) (fC (.int 1))) zI))) zI))))))
 (yM (fLC (zY (zA 5)) 2 [0,1] (kM 2 (yu (zP 0) (yu (zP 1) kN))) (zdj (fT (vF vLe vLt (fC (.int 0)) (zA 0) (zA 2))) (fT (vF vLe vLt (fC (.int 0)) (zA 1) (zA 3)))) (fOp yX (fOp wa (zA 1) (zA 2)) (zA 0)))))))
noncomputable def xO:List PV->Option PV:=fnV 6 jZ
noncomputable def xQ:FT:=(fT (fOp vLt (zA 5) (zJ yo (zC (zA 4) zI))))
noncomputable def wJ:FS:=(zU (zh 4 (fOp yX (zA 4) (fLC (zY (zJ xO (zC (zA 0) (zC (zA 1) (zC (fOp vIx (zA 4) (zA 5)) zI))))) 1 [3,4] (zP 0) (zdj (fT (fOp xz (zA 0) (zA 1))) (fT (fOp z4 (zA 0) (zA 2)))) (zm (zA 0)))))
 (zh 5 (fOp yX (zA 5) (fC (.int 1)))))
noncomputable def vC:FS:=(zU (zh 4 (fLC (zY (zA 2)) 1 [3] (zP 0) (fT (fOp xz (zA 0) (zA 1))) (zm (zA 0))))
 (zU (zh 5 (fC (.int 0)))
 (zU (fWh xQ wJ 1000000)
 (yM (zA 4)))))
noncomputable def yz:List PV->Option PV:=fnV 6 vC
noncomputable def uu:FS:=(zU (zbn 1 (zei yX (fC (.int 1)) (va (xv ze 0 (zC (fC (.int 6)) zI)))))
 (zU (zbn 2 (zei yX (fC (.int 1)) (va (xv ze 0 (zC (fC (.int 6)) zI)))))
 (zU (zbn 3 (zei yX (fC (.int 2)) (va (xv ze 0 (zC (fC (.int 4)) zI)))))
 (zU (zh 4 (zge (u8 (zC (fOp wa (zA 1) (zA 2)) zI))))
 (zU (zga 5 (ziY (zY (zA 4)) 1 [0,3] 0 1 (zP 0) (zcu vLt (va (xv ze 1 (zC (zA 2) zI))) (fOp xi (zA 2) (fC (.int 1)))) (zA 0)))
 (zU (y7 (fT (fOp vEq (zA 5) (xA zI))) (zh 5 (xA (zC (fC (.int 0)) zI))) fNx)
 (zU (zh 6 (zJ yz (zC (zA 1) (zC (zA 2) (zC (fSl (zA 5) vZ (qv (fC (.int 1)))) (zC (zA 5) zI))))))
 (zU (zh 7 (fLC (zY (zA 4)) 1 [6] (zP 0) (fT (fOp z4 (zA 0) (zA 1))) (zm (zA 0))))
 (zU (zh 8 (fLC (zY (zA 7)) 1 [1,2] (zP 0) (fOr (fT (fOp xz (fOp wB (zA 0) (zA 1)) (xJ (zC (fC (.int 0)) (zC (fOp xi (zA 1) (fC (.int 1))) zI))))) (fT (fOp xz (fOp uH (zA 0) (zA 1)) (xJ (zC (fC (.int 0)) (zC (fOp xi (zA 2) (fC (.int 1))) zI)))))) (zm (zA 0))))
 (zU (zh 9 (zJ yz (zC (zA 1) (zC (zA 2) (zC (zA 8) (zC (zA 7) zI))))))
 (yM (xJ (zC (zm (zA 1)) (zC (zm (zA 2)) (zC (zJ jE (zC (fLC (zY (zA 4)) 1 [9] (zP 0) (fT (fOp z4 (zA 0) (zA 1))) (zm (zA 0))) zI)) zI)))))))))))))))
noncomputable def wM:List PV->Option (PV × List Int):=fnM 10 uu
theorem zmH{w h:Int}(w1:1≤w)(w6:w≤6)(h1:1≤h)(h6:h≤6):1≤w * h/\w * h≤36:=by
 have h2:w * h≤6 * 6:=Int.mul_le_mul w6 h6 (by omega) (by omega)
 exact ⟨Int.mul_pos (by omega) (by omega),h2⟩
theorem zaD(w h:Int):j9 0 (w * h).toNat=(places w h).map PV.int:=by rw [zmZ];rfl
theorem zaH(w h:Int):(places w h).length=(w * h).toNat:=by simp [places]
theorem zav(F:List Int):jE [.lst (F.map PV.int)]=some (.tup (F.map PV.int)):=by simp
noncomputable def zaT(w p:Int):List (Int × Int):=[(p % w - 1,p / w),(p % w+1,p / w),(p % w,p / w - 1),(p % w,p / w+1)]
theorem zkn{w h p:Int}(w1:1≤w)(hp:Place w h p):((zaT w p).filter fun z=>(decide (0≤z.1) && decide (z.1<w)) && (decide (0≤z.2) && decide (z.2<h))).map (fun z=>z.2 * w+z.1)=yF w h p:=by
 have hr:=zce w1 hp
 have m0:=Int.emod_nonneg p (show w≠0 by omega)
 have m1:=Int.emod_lt_of_pos p (show 0<w by omega)
 have e:=Int.mul_ediv_add_emod p w
 unfold zaT yF
 generalize p % w=x at *
 generalize p / w=y at *
 have a1:((decide (0≤x - 1) && decide (x - 1<w)) && (decide (0≤y) && decide (y<h)))=decide (0<x):=by
  rw [← Bool.decide_and,← Bool.decide_and,← Bool.decide_and];exact decide_eq_decide.mpr (by omega)
 have a2:((decide (0≤x+1) && decide (x+1<w)) && (decide (0≤y) && decide (y<h)))=decide (x<w - 1):=by
  rw [← Bool.decide_and,← Bool.decide_and,← Bool.decide_and];exact decide_eq_decide.mpr (by omega)
 have a3:((decide (0≤x) && decide (x<w)) && (decide (0≤y - 1) && decide (y - 1<h)))=decide (0<y):=by
  rw [← Bool.decide_and,← Bool.decide_and,← Bool.decide_and];exact decide_eq_decide.mpr (by omega)
 have a4:((decide (0≤x) && decide (x<w)) && (decide (0≤y+1) && decide (y+1<h)))=decide (y<h - 1):=by
  rw [← Bool.decide_and,← Bool.decide_and,← Bool.decide_and];exact decide_eq_decide.mpr (by omega)
 rw [Int.mul_comm] at e
 have b1:y * w+(x - 1)=p - 1:=by omega
 have b2:y * w+(x+1)=p+1:=by omega
 have b3:(y - 1) * w+x=p - w:=by rw [Int.sub_mul,Int.one_mul];omega
 have b4:(y+1) * w+x=p+w:=by rw [Int.add_mul,Int.one_mul];omega
 simp only [List.filter_cons,List.filter_nil,a1,a2,a3,a4,decide_eq_true_eq]
 split<;>split<;>split<;>split<;>simp only [List.map_cons,List.map_nil,b1,b2,b3,b4]<;>rfl
theorem zkm{w h p:Int}(w1:1≤w)(w6:w≤6)(hp:CB.Place w h p):xO [.int w,.int h,.int p]=some (.lst ((yF w h p).map PV.int)):=by
 rw [← zkn w1 hp]
 have hc:yO (kM 2 (yu (zP 0) (yu (zP 1) kN))) (zdj (fT (vF vLe vLt (fC (.int 0)) (zA 0) (zA 2))) (fT (vF vLe vLt (fC (.int 0)) (zA 1) (zA 3)))) (fOp yX (fOp wa (zA 1) (zA 2)) (zA 0)) ((zaT w p).map fun z=>PV.tup [.int z.1,.int z.2]) [none,none,some (.int w),some (.int h)]=some (((zaT w p).filter fun z=>(decide (0≤z.1) && decide (z.1<w)) && (decide (0≤z.2) && decide (z.2<h))).map fun z=>PV.int (z.2 * w+z.1)):=
  qd _ _ _ fun z _=>⟨[some (.int z.1),some (.int z.2),some (.int w),some (.int h)],rfl,by
   by_cases c1:0≤z.1<;>by_cases c2:z.1<w<;>by_cases c3:0≤z.2<;>simp [c1,c2,c3],fun _=>by
   show ((wa (.int z.2) (.int w)).bind fun x=>yX x (.int z.1))=_
   rw [znr ⟨by omega,by omega⟩];rfl⟩
 have hd:=jp (i:=p) (show 0<w/\w<1073741824 by omega)
 have hm:=xZ (i:=p) (show 0<w by omega)
 rw [List.map_map]
 refine yT (e:=[some (.int w),some (.int h),some (.int p),some (.int (p % w)),some (.int (p / w)),some (.lst ((zaT w p).map fun z=>PV.tup [.int z.1,.int z.2]))]) [some (.int w),some (.int h),some (.int p),none,none,none] rfl ?_
 unfold jZ
 rw [zF (e:=[some (.int w),some (.int h),some (.int p),some (.int (p % w)),none,none]) (xo hm)]
 rw [zF (e:=[some (.int w),some (.int h),some (.int p),some (.int (p % w)),some (.int (p / w)),none]) (xo hd)]
 rw [zF (e:=[some (.int w),some (.int h),some (.int p),some (.int (p % w)),some (.int (p / w)),some (.lst ((zaT w p).map fun z=>PV.tup [.int z.1,.int z.2]))]) rfl]
 rw [wK,vW (qs:=(zaT w p).map fun z=>PV.tup [.int z.1,.int z.2]) rfl rfl (by rw [List.length_map];exact Nat.le_of_ble_eq_true rfl) hc];rfl
theorem zdp{w h p:Int}(w1:1≤w):(yF w h p).Nodup:=by
 have m0:=Int.emod_nonneg p (show w≠0 by omega)
 have m1:=Int.emod_lt_of_pos p (show 0<w by omega)
 unfold yF
 generalize p % w=x at *
 generalize p / w=y at *
 split<;>split<;>split<;>split<;>simp<;>omega
structure Bfs (R:Int->Int->Prop) (S A:Int->Prop) (L:List Int) (k:Nat):Prop where
 nd:L.Nodup
 sound:∀ p ∈ L,Reach R S A p
 start:∀ q,A q->S q->q ∈ L
 cl:∀ i p q,i<k->L[i]?=some p->R p q->S q->q ∈ L
theorem Bfs.step{R:Int->Int->Prop}{S A:Int->Prop}{L N:List Int}{k:Nat}{p:Int}(b:Bfs R S A L k)(hp:L[k]?=some p)(nd:N.Nodup)(hN:∀ q,q ∈ N ↔ (R p q/\S q)/\q ∉ L):Bfs R S A (L++N) (k+1):=by
 have hk:k<L.length:=(List.getElem?_eq_some_iff.mp hp).1
 have hpm:p ∈ L:=List.mem_of_getElem? hp
 refine ⟨List.nodup_append.mpr ⟨b.nd,nd,fun x hx y hy e=>((hN y).mp hy).2 (e ▸ hx)⟩,fun q hq=>?_,fun q a s=>List.mem_append_left _ (b.start q a s),fun i z q hi hz r s=>?_⟩
 ·rcases List.mem_append.mp hq with hq | hq
  ·exact b.sound q hq
  ·obtain ⟨⟨r,s⟩,_⟩:=(hN q).mp hq
   exact .step (b.sound p hpm) r s
 ·rw [List.getElem?_append_left (by omega)] at hz
  by_cases e:i<k
  ·exact List.mem_append_left _ (b.cl i z q e hz r s)
  ·obtain rfl:i=k:=by omega
   rw [hp] at hz;cases hz
   by_cases hq:q ∈ L
   ·exact List.mem_append_left _ hq
   ·exact List.mem_append_right _ ((hN q).mpr ⟨⟨r,s⟩,hq⟩)
theorem Bfs.done{R:Int->Int->Prop}{S A:Int->Prop}{L:List Int}{k:Nat}(b:Bfs R S A L k)(hk:L.length≤k)(q:Int):q ∈ L ↔ Reach R S A q:=by
 refine ⟨b.sound q,fun r=>?_⟩
 induction r with
 | start a s=>exact b.start _ a s
 | @step p q r h s ih=>
  obtain ⟨i,hi,e⟩:=List.getElem_of_mem ih
  exact b.cl i p q (by omega) (by rw [List.getElem?_eq_getElem hi,e]) h s
theorem zaE{w h:Int}{S Pl:List Int}(w1:1≤w)(w6:w≤6)(pl:∀ p ∈ Pl,CB.Place w h p)(nd:S.Nodup)(sz:S.length≤100)(pz:Pl.length≤100):
  ∃ L:List Int,yz [.int w,.int h,.lst (S.map PV.int),.lst (Pl.map PV.int)]=some (.lst (L.map PV.int))/\L.Nodup/\∀ p,p ∈ L ↔ Reach (Adj w) (· ∈ Pl) (· ∈ S) p:=by
 let mk:List Int->Nat->En:=fun L k=>[some (.int w),some (.int h),some (.lst (S.map PV.int)),some (.lst (Pl.map PV.int)),some (.lst (L.map PV.int)),some (.int (k:Int))]
 have hinit:yO (zP 0) (fT (fOp xz (zA 0) (zA 1))) (zm (zA 0)) (S.map PV.int) [none,some (.lst (Pl.map PV.int))]=some ((S.filter fun n=>decide (n ∈ Pl)).map PV.int):=
  yd (fun n=>decide (n ∈ Pl)) PV.int S fun n _=>⟨_,rfl,by simp,fun _=>by simp⟩
 have hlen:∀ L k,zJ yo (zC (zA 4) zI) (mk L k)=some (.int (L.length:Int)):=fun L k=>zT (as:=[.lst (L.map PV.int)]) rfl (by rw [ui,List.length_map])
 have ht:∀ L k,xQ (mk L k)=some (decide (k<L.length)):=fun L k=>by
  unfold xQ
  rw [jg,yA,hlen]
  show (vLt (.int (k:Int)) (.int (L.length:Int))).bind yC=_
  rw [zkY]
  show some (decide _)=_
  exact congrArg some (decide_eq_decide.mpr (by omega))
 have loop:=zao (t:=xQ) (g:=wJ) (fun e=>∃ L k,e=mk L k/\Bfs (Adj w) (· ∈ Pl) (· ∈ S) L k/\k≤L.length)
  (fun e=>match e with | [_,_,_,_,_,some (.int k)]=>1000 - k.toNat | _=>0) ?_ 1000000 (mk (S.filter fun n=>decide (n ∈ Pl)) 0)
  ⟨_,0,rfl,⟨nd.filter _,fun p hp=>?_,fun q a s=>List.mem_filter.mpr ⟨a,decide_eq_true s⟩,fun i p q hi=>absurd hi (Nat.not_lt_zero i)⟩,Nat.zero_le _⟩ (by simp [mk])
 ·obtain ⟨e,h1,⟨L,k,rfl,bf,hk⟩,h2⟩:=loop
  rw [ht] at h2
  have hk':L.length≤k:=Nat.le_of_not_lt (of_decide_eq_false (Option.some.inj h2))
  refine ⟨L,yT (e:=mk L k) [some (.int w),some (.int h),some (.lst (S.map PV.int)),some (.lst (Pl.map PV.int)),none,none] rfl ?_,bf.nd,bf.done hk'⟩
  unfold vC
  rw [zF (e:=[some (.int w),some (.int h),some (.lst (S.map PV.int)),some (.lst (Pl.map PV.int)),some (.lst ((S.filter fun n=>decide (n ∈ Pl)).map PV.int)),none]) (xo (vW (qs:=S.map PV.int) rfl rfl (by rw [List.length_map];omega) hinit))]
  rw [zF (e:=mk (S.filter fun n=>decide (n ∈ Pl)) 0) rfl,zF h1]
  rfl
 ·rintro e ⟨L,k,rfl,bf,hk⟩
  have Lz:L.length≤Pl.length:=zL _ _ bf.nd fun p hp=>(bf.sound p hp).inS
  by_cases hlt:k<L.length
  ·obtain ⟨p,hp⟩:∃ p,L[k]?=some p:=⟨L[k],List.getElem?_eq_getElem hlt⟩
   have hpl:=pl p (bf.sound p (List.mem_of_getElem? hp)).inS
   have hnew:=bf.step (N:=(yF w h p).filter fun q=>decide (q ∈ Pl) && !decide (q ∈ L)) hp ((zdp w1).filter _) fun q=>by
    rw [List.mem_filter,zaW w1 w6 hpl,Bool.and_eq_true,decide_eq_true_eq,Bool.not_eq_true',decide_eq_false_iff_not]
    exact ⟨fun z=>⟨⟨z.1.2,z.2.1⟩,z.2.2⟩,fun z=>⟨⟨pl q z.1.2,z.1.1⟩,z.1.2,z.2⟩⟩
   have hlN:=zL _ _ hnew.nd fun q hq=>(hnew.sound q hq).inS
   rw [List.length_append] at hlN
   have hbl:=jx w h p
   have hc:yO (zP 0) (zdj (fT (fOp xz (zA 0) (zA 1))) (fT (fOp z4 (zA 0) (zA 2)))) (zm (zA 0)) ((yF w h p).map PV.int) [none,some (.lst (Pl.map PV.int)),some (.lst (L.map PV.int))]=some (((yF w h p).filter fun q=>decide (q ∈ Pl) && !decide (q ∈ L)).map PV.int):=
    yd (fun q=>decide (q ∈ Pl) && !decide (q ∈ L)) PV.int _ fun n _=>⟨_,rfl,by by_cases c:n ∈ Pl<;>simp [c],fun _=>by simp⟩
   have hat:fOp vIx (zA 4) (zA 5) (mk L k)=some (.int p):=by
    show atI (L.map PV.int) (k:Int)=_
    rw [zgn,atI_nat hlt]
    rw [List.getElem?_eq_getElem hlt] at hp
    rw [Option.some.inj hp];rfl
   have hnr:zJ xO (zC (zA 0) (zC (zA 1) (zC (fOp vIx (zA 4) (zA 5)) zI))) (mk L k)=some (.lst ((yF w h p).map PV.int)):=zT (as:=[.int w,.int h,.int p]) (by rw [zS,zS,zS,hat];rfl) (zkm w1 w6 hpl)
   have hlc:fLC (zY (zJ xO (zC (zA 0) (zC (zA 1) (zC (fOp vIx (zA 4) (zA 5)) zI))))) 1 [3,4] (zP 0) (zdj (fT (fOp xz (zA 0) (zA 1))) (fT (fOp z4 (zA 0) (zA 2)))) (zm (zA 0)) (mk L k)=some (.lst (((yF w h p).filter fun q=>decide (q ∈ Pl) && !decide (q ∈ L)).map PV.int)):=
    vW (qs:=(yF w h p).map PV.int) (by rw [xX,hnr];rfl) rfl (by rw [List.length_map];omega) hc
   generalize ((yF w h p).filter fun q=>decide (q ∈ Pl) && !decide (q ∈ L))=N at hnew hlN hlc
   have v4:zA 4 (mk L k)=some (.lst (L.map PV.int)):=rfl
   refine .inr ⟨by rw [ht,decide_eq_true hlt],mk (L++N) (k+1),.inl ?_,⟨_,_,rfl,hnew,by rw [List.length_append];omega⟩,?_⟩
   ·unfold wJ
    rw [zF (e:=mk (L++N) k) (xo (by rw [yA,v4,hlc,Option.bind_some,Option.bind_some,zgq (by omega)]))]
    rfl
   ·show 1000 - ((k+1:Nat):Int).toNat<1000 - ((k:Nat):Int).toNat
    omega
  ·exact .inl (by rw [ht,decide_eq_false hlt])
 ·obtain ⟨h1,h2⟩:=List.mem_filter.mp hp
  exact .start h1 (of_decide_eq_true h2)
theorem zdE(m:Int)(m1:1≤m)(m2:m≤1000):∀ (xs ns:List Int),Pen ns->∃ (Fs ns':List Int),Fs.Sublist xs/\Pen ns'/\∀ a,ux 1 (zP 0) (zcu vLt (va (xv ze 1 (zC (zA 2) zI))) (fOp xi (zA 2) (fC (.int 1)))) (zA 0) (xs.map PV.int) [none,some (.pen a ns),some (.int m)]=some (Fs,[none,some (.pen a ns'),some (.int m)])
 | [],ns,hp=>⟨[],ns,.slnil,hp,fun _=>rfl⟩
 | x::xs,ns,hp=>by
  obtain ⟨r,ns1,p1,_,_,ht⟩:=kX (m:=m) hp m1 (by omega)
  obtain ⟨Fs,ns',hs,p2,ih⟩:=zdE m m1 m2 xs ns1 p1
  have hc:∀ a,va (xv ze 1 (zC (zA 2) zI)) [some (.int x),some (.pen a ns),some (.int m)]=some (r,[some (.int x),some (.pen a ns1),some (.int m)]):=fun a=>zdf (qe (ps:=[.int m]) rfl rfl ht)
  have hT:∀ a,zcu vLt (va (xv ze 1 (zC (zA 2) zI))) (fOp xi (zA 2) (fC (.int 1))) [some (.int x),some (.pen a ns),some (.int m)]=some (decide (r<m - 1),[some (.int x),some (.pen a ns1),some (.int m)]):=fun a=>by
   unfold zcu
   rw [hc,Option.bind_some];rfl
  have hb:∀ a,zP 0 (.int x) [none,some (.pen a ns),some (.int m)]=some [some (.int x),some (.pen a ns),some (.int m)]:=fun _=>rfl
  have hcl:∀ a,clr 1 [some (PV.int x),some (.pen a ns1),some (.int m)]=[none,some (.pen a ns1),some (.int m)]:=fun _=>rfl
  by_cases h1:r<m - 1
  ·refine ⟨x::Fs,ns',hs.cons₂ x,p2,fun a=>?_⟩
   rw [List.map_cons]
   unfold ux
   rw [hb,Option.bind_some,hT,Option.bind_some,if_pos (decide_eq_true h1)]
   show (ux _ _ _ _ _ (clr 1 _)).map _=_
   rw [hcl,ih];rfl
  ·refine ⟨Fs,ns',hs.cons x,p2,fun a=>?_⟩
   rw [List.map_cons]
   unfold ux
   rw [hb,Option.bind_some,hT,Option.bind_some,if_neg (by rw [decide_eq_false h1];exact Bool.false_ne_true)]
   dsimp only
   rw [hcl,ih]
theorem zcP{m k:Int}{x:Nat}{ns ns':List Int}{a:Addr}{E:En}{r:Int}(v:zA 0 E=some (.pen a ns))(ht:∀ a,ze [.pen a ns,.int m]=some (.int r,ns')):zbn x (zei yX (fC (.int k)) (va (xv ze 0 (zC (fC (.int m)) zI)))) E=some (.nx ((E.set 0 (some (.pen a ns'))).set x (some (.int (k+r))))):=
 zjN (zlU (zdf (qe (ps:=[.int m]) v rfl ht)))
theorem ziU{ns:List Int}(hp:Pen ns):∃ w h F ns',(∀ a,wM [.pen a ns]=some (flV w h F,ns'))/\IsFloor w h F/\Pen ns':=by
 obtain ⟨r1,n1,p1,r10,r11,t1⟩:=kX (m:=6) hp (by decide) (by decide)
 obtain ⟨r2,n2,p2,r20,r21,t2⟩:=kX (m:=6) p1 (by decide) (by decide)
 obtain ⟨r3,n3,p3,r30,r31,t3⟩:=kX (m:=4) p2 (by decide) (by decide)
 generalize hw:1+r1=w
 generalize hh:1+r2=h
 generalize hm:2+r3=m
 have w1:1≤w:=by omega
 have w6:w≤6:=by omega
 have h1:1≤h:=by omega
 have h6:h≤6:=by omega
 have wh:=zmH w1 w6 h1 h6
 have hmul:=ziq (i:=w) (j:=h) ⟨by omega,by omega⟩
 have hpl:=zaH w h
 obtain ⟨s0,n4,hsub,p4,t4⟩:=zdE m (by omega) (by omega) (places w h) n3 p3
 obtain ⟨so,hso,sn,snd,spl⟩:∃ so:List Int,(if s0=[] then [0] else s0)=so/\so≠[]/\so.Nodup/\(∀ p ∈ so,CB.Place w h p)/\so.length≤36:=by
  refine ⟨_,rfl,?_⟩
  split
  ·exact ⟨by simp,by simp,fun p hp=>by rw [List.mem_singleton.mp hp];exact ⟨Int.le_refl 0,by omega⟩,by simp⟩
  ·rename_i hn
   exact ⟨hn,(zi (vR w h)).sublist hsub,fun p hp=>mem_places.mp (hsub.subset hp),Nat.le_trans hsub.length_le (by omega)⟩
 obtain ⟨x0,sr,rfl⟩:∃ x0 sr,so=x0::sr:=by
  cases so with
  | nil=>exact absurd rfl sn
  | cons a r=>exact ⟨a,r,rfl⟩
 obtain ⟨L7,f1,f2,f3⟩:=zaE (w:=w) (h:=h) (S:=[x0]) (Pl:=x0::sr) w1 w6 spl.1 (by simp) (by simp) (by omega)
 have mem7:∀ p,p ∈ L7 ↔ Reach (Adj w) (· ∈ x0::sr) (·=x0) p:=fun p=>by rw [f3 p];exact ⟨fun r=>r.mono (fun q z s=>.start (List.mem_singleton.mp z) s) fun q r=>r.inS,fun r=>r.mono (fun q z s=>.start (List.mem_singleton.mpr z) s) fun q r=>r.inS⟩
 have c2:∀ x,yO (zP 0) (fT (fOp z4 (zA 0) (zA 1))) (zm (zA 0)) ((places w h).map PV.int) [x,some (.lst (L7.map PV.int))]=some (((places w h).filter fun n=>!decide (n ∈ L7)).map PV.int):=fun x=>
  yd (fun n=>!decide (n ∈ L7)) PV.int _ fun n _=>⟨_,rfl,by simp,fun _=>by simp⟩
 have hbl:=List.length_filter_le (fun n=>!decide (n ∈ L7)) (places w h)
 have mem:∀ q,q ∈ (places w h).filter (fun n=>!decide (n ∈ L7)) ↔ CB.Place w h q/\q ∉ L7:=fun q=>by rw [List.mem_filter,mem_places];simp
 have bnd:((places w h).filter fun n=>!decide (n ∈ L7)).Nodup:=(zi (vR w h)).filter _
 generalize hbare:((places w h).filter fun n=>!decide (n ∈ L7))=bare at c2 hbl mem bnd
 have hd:=fun x=>jp (i:=x) (show 0<w/\w<1073741824 by omega)
 have hmod:=fun x=>xZ (i:=x) (show 0<w by omega)
 have c3:∀ x,yO (zP 0) (fOr (fT (fOp xz (fOp wB (zA 0) (zA 1)) (xJ (zC (fC (.int 0)) (zC (fOp xi (zA 1) (fC (.int 1))) zI))))) (fT (fOp xz (fOp uH (zA 0) (zA 1)) (xJ (zC (fC (.int 0)) (zC (fOp xi (zA 2) (fC (.int 1))) zI)))))) (zm (zA 0)) (bare.map PV.int) [x,some (.int w),some (.int h)]=some ((bare.filter fun n=>decide (n % w=0∨n % w=w - 1) || decide (n / w=0∨n / w=h - 1)).map PV.int):=fun x=>
  yd (fun n=>decide (n % w=0∨n % w=w - 1) || decide (n / w=0∨n / w=h - 1)) PV.int _ fun n _=>⟨_,rfl,by by_cases c:n % w=0∨n % w=w - 1<;>simp [hd,hmod,c],fun _=>by simp⟩
 have hrl:=List.length_filter_le (fun n=>decide (n % w=0∨n % w=w - 1) || decide (n / w=0∨n / w=h - 1)) bare
 obtain ⟨L8,g1,g2,g3⟩:=zaE (w:=w) (h:=h) (S:=bare.filter fun n=>decide (n % w=0∨n % w=w - 1) || decide (n / w=0∨n / w=h - 1)) (Pl:=bare) w1 w6 (fun p hp=>((mem p).mp hp).1) (bnd.filter _) (by omega) (by omega)
 have rim:∀ q,q ∈ (bare.filter fun n=>decide (n % w=0∨n % w=w - 1) || decide (n / w=0∨n / w=h - 1)) ↔ (CB.Place w h q/\q ∉ L7)/\Rim w h q:=fun q=>by
  rw [List.mem_filter,mem]
  unfold Rim
  simp only [Bool.or_eq_true,decide_eq_true_eq,or_assoc]
 generalize (bare.filter fun n=>decide (n % w=0∨n % w=w - 1) || decide (n / w=0∨n / w=h - 1))=rims at c3 g1 g3 rim
 have c4:∀ x,yO (zP 0) (fT (fOp z4 (zA 0) (zA 1))) (zm (zA 0)) ((places w h).map PV.int) [x,some (.lst (L8.map PV.int))]=some (((places w h).filter fun n=>!decide (n ∈ L8)).map PV.int):=fun x=>
  yd (fun n=>!decide (n ∈ L8)) PV.int _ fun n _=>⟨_,rfl,by simp,fun _=>by simp⟩
 refine ⟨w,h,(places w h).filter fun n=>!decide (n ∈ L8),n4,fun a=>?_,?_,p4⟩
 ·have hpl':((places w h).map PV.int).length≤100000:=by rw [List.length_map];omega
  have hbl':(bare.map PV.int).length≤100000:=by rw [List.length_map];omega
  have hsl:∀ (a:Int) (r:List Int),vSl (.lst ((a::r).map PV.int)) none (some 1)=some (.lst ([a].map PV.int)):=fun a r=>by
   simp only [vSl,xK,if_true,zlb];rfl
  let mk:List Int->Option PV->Option PV->Option PV->Option PV->Option PV->Option PV->Option PV->Option PV->Option PV->En:=fun ns x1 x2 x3 x4 x5 x6 x7 x8 x9=>[some (.pen a ns),x1,x2,x3,x4,x5,x6,x7,x8,x9]
  let W:=some (PV.int w)
  let H:=some (PV.int h)
  let M:=some (PV.int m)
  let V:=some (PV.lst ((places w h).map PV.int))
  let S:=some (PV.lst ((x0::sr).map PV.int))
  let S7:=some (PV.lst (L7.map PV.int))
  let Br:=some (PV.lst (bare.map PV.int))
  let Rs:=some (PV.lst (rims.map PV.int))
  let S8:=some (PV.lst (L8.map PV.int))
  refine ziT (e:=mk n4 W H M V S S7 Br Rs S8) (mk ns none none none none none none none none none) rfl ?_ rfl
  unfold uu
  rw [zF (e:=mk n1 W none none none none none none none none) (by rw [zcP (ns':=n1) rfl t1,hw];rfl)]
  rw [zF (e:=mk n2 W H none none none none none none none) (by rw [zcP (ns':=n2) rfl t2,hh];rfl)]
  rw [zF (e:=mk n3 W H M none none none none none none) (by rw [zcP (ns':=n3) rfl t3,hm];rfl)]
  rw [zF (e:=mk n3 W H M V none none none none none) (xo (by
   have hr:u8 (zC (fOp wa (zA 1) (zA 2)) zI) (mk n3 W H M none none none none none none)=some (j9 0 (w * h).toNat):=zcN (j:=w * h) (by
    show ((wa (.int w) (.int h)).bind fun p=>some [p])=_
    rw [hmul];rfl) (by omega) (by omega)
   rw [zkK,hr,zaD,Option.bind_some,if_pos hpl']))]
  rw [zF (e:=mk n4 W H M V (some (.lst (s0.map PV.int))) none none none none) (zjH (e':=mk n4 W H M V none none none none none) (by
   have h0:zY (zA 4) (mk n3 W H M V none none none none none)=some ((places w h).map PV.int):=rfl
   have hce:cE 1 [0,3] (mk n3 W H M V none none none none none)=[none,some (.pen a n3),some (.int m)]:=rfl
   unfold ziY
   rw [h0,Option.bind_some,if_pos hpl',hce,t4 a];rfl))]
  rw [zF (e:=mk n4 W H M V S none none none none) (by
   show _=some (Out.nx (mk n4 W H M V (some (PV.lst ((x0::sr).map PV.int))) none none none none))
   rw [← hso]
   have ht:fT (fOp vEq (zA 5) (xA zI)) (mk n4 W H M V (some (.lst (s0.map PV.int))) none none none none)=some (decide (s0=[])):=by
    show (vEq (.lst (s0.map PV.int)) (.lst [])).bind yC=_
    rw [zmq];rfl
   rw [zr,ht,Option.bind_some]
   by_cases h9:s0=[]
   ·rw [decide_eq_true h9,if_pos rfl,if_pos h9];rfl
   ·rw [decide_eq_false h9,if_neg Bool.false_ne_true,if_neg h9];rfl)]
  rw [zF (e:=mk n4 W H M V S S7 none none none) (by
   refine z8 (as:=[.int w,.int h,.lst ([x0].map PV.int),.lst ((x0::sr).map PV.int)]) ?_ f1
   have hsx:fSl (zA 5) vZ (qv (fC (.int 1))) (mk n4 W H M V S none none none none)=some (.lst ([x0].map PV.int)):=hsl x0 sr
   rw [zS,zS,zS,hsx];rfl)]
  rw [zF (e:=mk n4 W H M V S S7 Br none none) (xo (vW (qs:=(places w h).map PV.int) rfl rfl hpl' (c2 none)))]
  rw [zF (e:=mk n4 W H M V S S7 Br Rs none) (xo (vW (qs:=bare.map PV.int) rfl rfl hbl' (c3 none)))]
  rw [zF (e:=mk n4 W H M V S S7 Br Rs S8) (z8 (as:=[.int w,.int h,.lst (rims.map PV.int),.lst (bare.map PV.int)]) rfl g1)]
  have l12:=vW (E:=mk n4 W H M V S S7 Br Rs S8) (src:=zY (zA 4)) (qs:=(places w h).map PV.int) (n:=1) (js:=[9]) rfl rfl hpl' (c4 none)
  generalize ((places w h).filter fun n=>!decide (n ∈ L8))=F at l12
  rw [wK,zfo,zS,zS,zS,zT (as:=[.lst (F.map PV.int)]) (by rw [zS,l12];rfl) (zav F)];rfl
 ·refine zmp (L:=(· ∈ L7)) (O:=(· ∈ L8)) (a:=x0) w1 w6 h1 h6 (fun p hp=>spl.1 p ((mem7 p).mp hp).inS) ((mem7 x0).mpr (.start rfl List.mem_cons_self)) (fun p hp=>?_) (fun p=>?_)
  ·exact ((mem7 p).mp hp).mono (fun q e s=>.start e ((mem7 q).mpr (.start e s))) fun q r=>(mem7 q).mpr r
  ·rw [g3 p]
   exact ⟨fun r=>r.mono (fun q a s=>.start ((rim q).mp a).2 ((mem q).mp s)) fun q r=>(mem q).mp r.inS,fun r=>r.mono (fun q a s=>.start ((rim q).mpr ⟨s,a⟩) ((mem q).mpr s)) fun q r=>(mem q).mpr r.inS⟩
noncomputable def we:FS:=(zU (zh 3 (fOp wB (zA 2) (zA 0)))
 (zU (zh 4 (fOp uH (zA 2) (zA 0)))
 (zU (zh 5 (xA zI))
 (zU (y7 (fT (fOp vGt (zA 3) (fC (.int 0)))) (zt 5 (fOp xi (zA 2) (fC (.int 1)))) fNx)
 (zU (y7 (fT (fOp vLt (zA 3) (fOp xi (zA 0) (fC (.int 1))))) (zt 5 (fOp yX (zA 2) (fC (.int 1)))) fNx)
 (zU (y7 (fT (fOp vGt (zA 4) (fC (.int 0)))) (zt 5 (fOp xi (zA 2) (zA 0))) fNx)
 (zU (y7 (fT (fOp vLt (zA 4) (fOp xi (zA 1) (fC (.int 1))))) (zt 5 (fOp yX (zA 2) (zA 0))) fNx)
 (yM (zA 5)))))))))
noncomputable def yj:List PV->Option PV:=fnV 6 we
noncomputable def vB:FS:=(yM (ziW (fOp xz (fOp wB (zA 2) (zA 0)) (xJ (zC (fC (.int 0)) (zC (fOp xi (zA 0) (fC (.int 1))) zI)))) (fOp xz (fOp uH (zA 2) (zA 0)) (xJ (zC (fC (.int 0)) (zC (fOp xi (zA 1) (fC (.int 1))) zI))))))
noncomputable def yb:List PV->Option PV:=fnV 3 vB
noncomputable def vP:FT:=(fT (fOp vGt (zJ yo (zC (zA 5) zI)) (fC (.int 0))))
noncomputable def vb:FS:=(zU (ziV 6 5)
 (y7 (fT (fOp z4 (zA 6) (zA 4))) (zU (vY 4 (zA 6) (fC (.bl true)))
 (uO 5 (fLC (zY (zJ yj (zC (zA 0) (zC (zA 1) (zC (zA 6) zI))))) 1 [3] (zP 0) (fT (fOp xz (zA 0) (zA 1))) (zm (zA 0))))) fNx))
noncomputable def qX:FS:=(zU (zh 4 jc)
 (zU (zh 5 (zJ xH (zC (zA 2) zI)))
 (zU (fWh vP vb 1000000)
 (yM (zJ xH (zC (zA 4) zI))))))
noncomputable def yf:List PV->Option PV:=fnV 7 qX
noncomputable def wf:FS:=(yM (fOp vEq (zJ yo (zC (zJ yf (zC (zA 0) (zC (zA 1) (zC (fSl (zA 2) vZ (qv (fC (.int 1)))) (zC (zA 2) zI))))) zI)) (zJ yo (zC (zA 2) zI))))
noncomputable def yk:List PV->Option PV:=fnV 3 wf
noncomputable def jW:FS:=(zU (zh 3 (fLC (u8 (zC (fOp wa (zA 0) (zA 1)) zI)) 1 [2] (zP 0) (fT (fOp z4 (zA 0) (zA 1))) (zm (zA 0))))
 (zU (zh 4 (fLC (zY (zA 3)) 1 [0,1] (zP 0) (yr (zJ yb (zC (zA 1) (zC (zA 2) (zC (zA 0) zI))))) (zm (zA 0))))
 (yM (fOp vLt (zJ yo (zC (zJ yf (zC (zA 0) (zC (zA 1) (zC (zA 4) (zC (zA 3) zI))))) zI)) (zJ yo (zC (zA 3) zI))))))
noncomputable def xg:List PV->Option PV:=fnV 5 jW
noncomputable def zbj:FS:=(yM (zcv (zJ xP (zC (zA 0) (zC (fC (.ty "int")) zI))) (zgd (zJ xP (zC (zA 0) (zC (fC (.ty "bool")) zI))))))
noncomputable def yt:List PV->Option PV:=fnV 1 zbj
noncomputable def jV:FS:=(yM (zcv (zJ yt (zC (zA 0) zI)) (vF vLe vLe (fC (.int 1)) (zA 0) (fC (.int 6)))))
noncomputable def yv:List PV->Option PV:=fnV 1 jV
noncomputable def vJ:FS:=(zU (y7 (fOr (uN (yr (zJ yt (zC (zA 4) zI)))) (fOr (fT (fOp vLe (zA 4) (zA 3))) (fT (fOp vGe (zA 4) (fOp wa (zA 0) (zA 1)))))) (yM (fC (.bl false))) fNx)
 (zh 3 (zA 4)))
noncomputable def uo:FS:=(zU (zh 3 (fUn zlj (fC (.int 1))))
 (zU (xu (zY (zA 2)) (zP 4) vJ)
 (yM (fOp vGt (zJ yo (zC (zA 2) zI)) (fC (.int 0))))))
noncomputable def xT:List PV->Option PV:=fnV 5 uo
noncomputable def kF:FS:=(zU (y7 (fOr (uN (yr (zJ yv (zC (zA 0) zI)))) (uN (yr (zJ yv (zC (zA 1) zI))))) qa fNx)
 (zU (y7 (uN (yr (zJ xP (zC (zA 2) (zC (xJ (zC (fC (.ty "list")) (zC (fC (.ty "tuple")) zI))) zI))))) qa fNx)
 (zU (zh 3 (zJ jE (zC (zA 2) zI)))
 (zU (y7 (uN (yr (zJ xT (zC (zA 0) (zC (zA 1) (zC (zA 3) zI)))))) qa fNx)
 (zU (y7 (uN (yr (zJ yk (zC (zA 0) (zC (zA 1) (zC (zA 3) zI)))))) qa fNx)
 (zU (y7 (yr (zJ xg (zC (zA 0) (zC (zA 1) (zC (zA 3) zI))))) qa fNx)
 (yM (xJ (zC (zm (zA 0)) (zC (zm (zA 1)) (zC (zm (zA 3)) zI)))))))))))
noncomputable def vL:List PV->Option PV:=fnV 4 kF
theorem zal{t1:FT}{E:En}{fx:FE}{i:Nat}{X:List Int}{q:Int}{a:Prop}[Decidable a](h1:t1 E=some (decide a))(hi:zA i E=some (.lst (X.map PV.int)))(hE:E.set i (some (.lst (X.map PV.int)))=E)(hx:fx E=some (.int q))(hl:X.length<100000):
  y7 t1 (zt i fx) fNx E=some (.nx (E.set i (some (.lst ((X++if a then [q] else []).map PV.int))))):=by
 rw [zr,h1,Option.bind_some]
 by_cases ha:a
 ·rw [decide_eq_true ha,if_pos rfl,if_pos ha,List.map_append]
  unfold zt
  rw [hi,hx,Option.bind_some,Option.bind_some]
  dsimp only
  rw [if_pos (by rw [List.length_map];exact hl)];rfl
 ·rw [decide_eq_false ha,if_neg Bool.false_ne_true,if_neg ha,List.append_nil,hE];rfl
theorem zda(c:Prop)[Decidable c](a:Int):(if c then [a] else []:List Int).length≤1:=by split<;>simp
theorem zeT{w h p:Int}(w1:1≤w)(w6:w≤6):yj [.int w,.int h,.int p]=some (.lst ((yF w h p).map PV.int)):=by
 have hd:=jp (i:=p) (show 0<w/\w<1073741824 by omega)
 have hm:=xZ (i:=p) (show 0<w by omega)
 let mk:Option PV->Option PV->Option PV->En:=fun x y z=>[some (.int w),some (.int h),some (.int p),x,y,z]
 let A:=some (PV.int (p % w))
 let B:=some (PV.int (p / w))
 have l1:=zda (0<p % w) (p - 1)
 have l2:=zda (p % w<w - 1) (p+1)
 have l3:=zda (0<p / w) (p - w)
 refine yT (e:=mk A B (some (.lst ((yF w h p).map PV.int)))) (mk none none none) rfl ?_
 unfold we
 rw [zF (e:=mk A none none) (xo hm),zF (e:=mk A B none) (xo hd),zF (e:=mk A B (some (.lst (([]:List Int).map PV.int)))) rfl]
 have e1:=zal (t1:=fT (fOp vGt (zA 3) (fC (.int 0)))) (fx:=fOp xi (zA 2) (fC (.int 1))) (E:=mk A B (some (.lst (([]:List Int).map PV.int)))) (i:=5) (X:=[]) (q:=p - 1) (a:=0<p % w) rfl rfl rfl rfl (by decide)
 rw [List.nil_append] at e1
 unfold yF
 generalize (if 0<p % w then [p - 1] else []:List Int)=X1 at *
 rw [zF (e:=mk A B (some (.lst (X1.map PV.int)))) e1]
 rw [zF (e:=mk A B (some (.lst ((X1++if p % w<w - 1 then [p+1] else []).map PV.int)))) (zal (t1:=fT (fOp vLt (zA 3) (fOp xi (zA 0) (fC (.int 1))))) (E:=mk A B (some (.lst (X1.map PV.int)))) (i:=5) (X:=X1) (q:=p+1) (a:=p % w<w - 1) rfl rfl rfl rfl (by omega))]
 generalize (if p % w<w - 1 then [p+1] else []:List Int)=X2 at *
 rw [zF (e:=mk A B (some (.lst ((X1++X2++if 0<p / w then [p - w] else []).map PV.int)))) (zal (t1:=fT (fOp vGt (zA 4) (fC (.int 0)))) (E:=mk A B (some (.lst ((X1++X2).map PV.int)))) (i:=5) (X:=X1++X2) (q:=p - w) (a:=0<p / w) rfl rfl rfl rfl (by rw [List.length_append];omega))]
 generalize (if 0<p / w then [p - w] else []:List Int)=X3 at *
 rw [zF (e:=mk A B (some (.lst ((X1++X2++X3++if p / w<h - 1 then [p+w] else []).map PV.int)))) (zal (t1:=fT (fOp vLt (zA 4) (fOp xi (zA 1) (fC (.int 1))))) (E:=mk A B (some (.lst ((X1++X2++X3).map PV.int)))) (i:=5) (X:=X1++X2++X3) (q:=p+w) (a:=p / w<h - 1) rfl rfl rfl rfl (by rw [List.length_append,List.length_append];omega))]
 rfl
noncomputable def zbL(w h n:Int):Bool:=decide (n % w=0∨n % w=w - 1) || decide (n / w=0∨n / w=h - 1)
theorem rimB_iff{w h n:Int}:zbL w h n=true ↔ Rim w h n:=by
 unfold zbL Rim
 simp only [Bool.or_eq_true,decide_eq_true_eq,or_assoc]
theorem zik{w h p:Int}(w1:1≤w)(w6:w≤6):yb [.int w,.int h,.int p]=some (.bl (zbL w h p)):=by
 have hd:=jp (i:=p) (show 0<w/\w<1073741824 by omega)
 have hm:=xZ (i:=p) (show 0<w by omega)
 refine yT (e:=[some (.int w),some (.int h),some (.int p)]) [some (.int w),some (.int h),some (.int p)] rfl ?_
 unfold vB zbL
 rw [wK]
 have a1:fOp xz (fOp wB (zA 2) (zA 0)) (xJ (zC (fC (.int 0)) (zC (fOp xi (zA 0) (fC (.int 1))) zI))) [some (.int w),some (.int h),some (.int p)]=some (.bl (decide (p % w=0∨p % w=w - 1))):=by
  show ((wB (.int p) (.int w)).bind fun x=>xz x (.tup [.int 0,.int (w - 1)]))=_
  rw [hm,Option.bind_some,inE,zfV];rfl
 have a2:fOp xz (fOp uH (zA 2) (zA 0)) (xJ (zC (fC (.int 0)) (zC (fOp xi (zA 1) (fC (.int 1))) zI))) [some (.int w),some (.int h),some (.int p)]=some (.bl (decide (p / w=0∨p / w=h - 1))):=by
  show ((uH (.int p) (.int w)).bind fun x=>xz x (.tup [.int 0,.int (h - 1)]))=_
  rw [hd,Option.bind_some,inE,zfV];rfl
 unfold ziW
 rw [a1,Option.bind_some,zjp,Option.bind_some]
 by_cases c:p % w=0∨p % w=w - 1
 ·rw [decide_eq_true c,if_pos rfl];rfl
 ·rw [decide_eq_false c,if_neg Bool.false_ne_true,a2];rfl
theorem zix(L:List Int):xH [zaw L]=some (.lst (L.map PV.int)):=by
 unfold zaw xH
 dsimp only
 rw [List.map_map];rfl
theorem qo{w h:Int}{S Pl:List Int}{s x:PV}(w1:1≤w)(w6:w≤6)(hs:xH [s]=some (.lst (S.map PV.int)))(hx:∀ p,vIn (.int p) x=some (decide (p ∈ Pl)))(sub:∀ p ∈ S,p ∈ Pl)(pl:∀ p ∈ Pl,CB.Place w h p)(sz:S.length≤100)(pz:Pl.length≤100):
  ∃ L:List Int,yf [.int w,.int h,s,x]=some (.lst (L.map PV.int))/\L.Nodup/\∀ p,p ∈ L ↔ Reach (Adj w) (· ∈ Pl) (· ∈ S) p:=by
 let mk:List Int->List Int->Option PV->En:=fun L ws z=>[some (.int w),some (.int h),some s,some x,some (zaw L),some (.lst (ws.map PV.int)),z]
 have hlen:∀ L ws z,zJ yo (zC (zA 5) zI) (mk L ws z)=some (.int (ws.length:Int)):=fun L ws z=>zT (as:=[.lst (ws.map PV.int)]) rfl (by rw [ui,List.length_map])
 have ht:∀ L ws z,vP (mk L ws z)=some (decide (ws≠[])):=fun L ws z=>by
  unfold vP
  rw [jg,yA,hlen]
  show some (decide _)=_
  refine congrArg some (decide_eq_decide.mpr ?_)
  cases ws with
  | nil=>simp
  | cons a r=>simp only [List.length_cons,ne_eq,reduceCtorEq,not_false_eq_true,iff_true];omega
 have loop:=zao (t:=vP) (g:=vb) (fun e=>∃ L ws z,e=mk L ws z/\Dfs (Adj w) (· ∈ Pl) (· ∈ S) L ws/\ws.length≤100+4 * L.length)
  (fun e=>match e with | [_,_,_,_,some (.dct ks _),some (.lst ws),_]=>5 * (Pl.length - ks.length)+ws.length | _=>0) ?_ 1000000 (mk [] S none)
  ⟨[],_,none,rfl,Dfs.init fun q=>⟨fun z=>⟨z,sub q z⟩,fun z=>z.1⟩,by simpa using sz⟩ (by simp [mk];omega)
 ·obtain ⟨e,h1,⟨L,ws,z,rfl,df,lz⟩,h2⟩:=loop
  rw [ht] at h2
  have hw:ws=[]:=Decidable.of_not_not (of_decide_eq_false (Option.some.inj h2))
  subst hw
  refine ⟨L,yT (e:=mk L [] z) [some (.int w),some (.int h),some s,some x,none,none,none] rfl ?_,df.nd,df.done⟩
  unfold qX
  rw [zF (e:=[some (.int w),some (.int h),some s,some x,some (zaw []),none,none]) rfl]
  rw [zF (e:=mk [] S none) (z8 (as:=[s]) rfl hs),zF h1]
  rw [wK,zT (as:=[zaw L]) rfl (zix L)];rfl
 ·rintro e ⟨L,ws,z,rfl,df,lz⟩
  have Lz:L.length≤Pl.length:=zL _ _ df.nd fun p hp=>(df.sound p hp).inS
  by_cases hw:ws=[]
  ·exact .inl (by rw [ht,decide_eq_false (fun c=>c hw)])
  ·obtain ⟨ws',p,rfl⟩:∃ ws' p,ws=ws'++[p]:=⟨ws.dropLast,ws.getLast hw,(List.dropLast_concat_getLast _).symm⟩
   have hp:p ∈ Pl:=(df.soundW p (by simp)).inS
   refine .inr ⟨by rw [ht,decide_eq_true hw],?_⟩
   simp only [List.length_append,List.length_singleton] at lz
   have hpop:ziV 6 5 (mk L (ws'++[p]) z)=some (.nx (mk L ws' (some (.int p)))):=by simp [mk,ziV]
   have hin:fT (fOp z4 (zA 6) (zA 4)) (mk L ws' (some (.int p)))=some (!decide (p ∈ L)):=by
    show (z4 (.int p) (zaw L)).bind yC=_
    rw [zlW,zmj];rfl
   by_cases hL:p ∈ L
   ·refine ⟨mk L ws' (some (.int p)),.inl ?_,⟨L,ws',_,rfl,df.old hL,by omega⟩,by simp [mk]⟩
    unfold vb
    rw [zF hpop,zr,hin,decide_eq_true hL];rfl
   ·have hb:=zeT (h:=h) (p:=p) w1 w6
    have hc:yO (zP 0) (fT (fOp xz (zA 0) (zA 1))) (zm (zA 0)) ((yF w h p).map PV.int) [none,some x]=some (((yF w h p).filter fun n=>decide (n ∈ Pl)).map PV.int):=
     yd (fun n=>decide (n ∈ Pl)) PV.int _ fun n _=>⟨_,rfl,by simp [hx],fun _=>by simp⟩
    have hbl:=jx w h p
    have hfl:=List.length_filter_le (fun n=>decide (n ∈ Pl)) (yF w h p)
    have hnew:=df.new (nbs:=(yF w h p).filter fun n=>decide (n ∈ Pl)) hL fun q=>by
     rw [List.mem_filter,zaW w1 w6 (pl p hp),decide_eq_true_eq]
     exact ⟨fun z=>⟨z.1.2,z.2⟩,fun z=>⟨⟨pl q z.2,z.1⟩,z.2⟩⟩
    have hlL:=zL _ _ hnew.nd fun q hq=>(hnew.sound q hq).inS
    simp only [List.length_append,List.length_singleton] at hlL
    refine ⟨mk (L++[p]) (ws'++(yF w h p).filter fun n=>decide (n ∈ Pl)) (some (.int p)),.inl ?_,⟨_,_,_,rfl,hnew,by simp only [List.length_append,List.length_singleton];omega⟩,by simp [mk];omega⟩
    have hse:=zjL hL (show L.length<100000 by omega)
    unfold vb
    rw [zF hpop,zr,hin,decide_eq_false hL,Option.bind_some,if_pos (by rfl)]
    rw [zF (e:=mk (L++[p]) ws' (some (.int p))) (by
     have v4:zA 4 (mk L ws' (some (.int p)))=some (zaw L):=rfl
     have v6:zA 6 (mk L ws' (some (.int p)))=some (.int p):=rfl
     unfold vY
     simp only [v4,v6,zfq,Option.bind_some,hse];rfl)]
    have hlc:fLC (zY (zJ yj (zC (zA 0) (zC (zA 1) (zC (zA 6) zI))))) 1 [3] (zP 0) (fT (fOp xz (zA 0) (zA 1))) (zm (zA 0)) (mk (L++[p]) ws' (some (.int p)))=some (.lst (((yF w h p).filter fun n=>decide (n ∈ Pl)).map PV.int)):=
     vW (qs:=(yF w h p).map PV.int) (by rw [xX,zT (as:=[.int w,.int h,.int p]) rfl hb];rfl) rfl (by rw [List.length_map];omega) hc
    generalize ((yF w h p).filter fun n=>decide (n ∈ Pl))=N at *
    have v5:zA 5 (mk (L++[p]) ws' (some (.int p)))=some (.lst (ws'.map PV.int)):=rfl
    unfold uO
    simp only [v5,hlc,Option.bind_some]
    have hz:(ws'.map PV.int).length+(N.map PV.int).length≤100000:=by rw [List.length_map,List.length_map];omega
    simp [hz,mk]
    omega
theorem zht(p:Int):yt [.int p]=some (.bl true):=rfl
theorem zco{w:Int}(w1:1≤w)(w6:w≤6):yv [.int w]=some (.bl true):=by
 refine yT (e:=[some (.int w)]) [some (.int w)] rfl ?_
 unfold jV
 have h1:zJ yt (zC (zA 0) zI) [some (.int w)]=some (.bl true):=zT (as:=[.int w]) rfl (zht w)
 rw [wK]
 unfold zcv
 rw [h1,Option.bind_some,zjp,Option.bind_some,if_pos rfl]
 have:vF vLe vLe (fC (.int 1)) (zA 0) (fC (.int 6)) [some (.int w)]=some (.bl true):=by simp [w1,w6]
 rw [this];rfl
theorem zds{w h:Int}{F:List Int}(fl:IsFloor w h F):xT [.int w,.int h,.tup (F.map PV.int)]=some (.bl true):=by
 have w1:=fl.w1;have w6:=fl.w6
 have hmul:=ziq (i:=w) (j:=h) ⟨by omega,by omega⟩
 let mk:Int->Option PV->En:=fun j x=>[some (.int w),some (.int h),some (.tup (F.map PV.int)),some (.int j),x]
 obtain ⟨e,l1,j,x,rfl,_⟩:=yh (b:=zP 4) (g:=vJ) (xs:=F) (hh:=PV.int) (env:=mk (-1) none) (fun pre e=>∃ j x,e=mk j x/\∀ q ∈ F,q ∉ pre->j<q) ⟨-1,none,rfl,fun q hq _=>by have:=(fl.inn q hq).1;omega⟩ (by
  rintro pre a post e hF ⟨j,x,rfl,hj⟩
  have ha:a ∈ F:=by rw [hF];simp
  have rise:=fl.rise
  have nd:=zi fl.rise
  rw [hF,List.pairwise_append] at rise
  have hpa:a ∉ pre:=fun z=>Int.lt_irrefl a (rise.2.2 a z a List.mem_cons_self)
  have hja:=hj a ha hpa
  have hlt:=(fl.inn a ha).2
  refine ⟨mk j (some (.int a)),mk a (some (.int a)),rfl,.inl ?_,a,_,rfl,fun q hq hn=>?_⟩
  ·have t1:uN (yr (zJ yt (zC (zA 4) zI))) (mk j (some (.int a)))=some false:=rfl
   have t2:fT (fOp vLe (zA 4) (zA 3)) (mk j (some (.int a)))=some (decide (a≤j)):=rfl
   have t3:fT (fOp vGe (zA 4) (fOp wa (zA 0) (zA 1))) (mk j (some (.int a)))=some (decide (w * h≤a)):=by
    show (((wa (.int w) (.int h)).bind fun y=>vGe (.int a) y).bind yC)=_
    rw [hmul];rfl
   unfold vJ
   rw [zF (e:=mk j (some (.int a))) (by
    rw [zr,qy,t1,Option.bind_some,if_neg Bool.false_ne_true,qy,t2,Option.bind_some,decide_eq_false (Int.not_le.mpr hja),if_neg Bool.false_ne_true,t3,decide_eq_false (Int.not_le.mpr hlt)];rfl)]
   rfl
  ·rw [hF] at hq
   rcases List.mem_append.mp hq with z | z
   ·exact absurd (List.mem_append_left _ z) hn
   ·rcases List.mem_cons.mp z with rfl | z
    ·exact absurd (by simp) hn
    ·exact (List.pairwise_cons.mp rise.2.1).1 q z)
 refine yT (e:=mk j x) [some (.int w),some (.int h),some (.tup (F.map PV.int)),none,none] rfl ?_
 unfold uo
 rw [zF (e:=mk (-1) none) rfl]
 rw [zF (e:=mk j x) (by rw [yi];exact l1)]
 have hlen:zJ yo (zC (zA 2) zI) (mk j x)=some (.int (F.length:Int)):=zT (as:=[.tup (F.map PV.int)]) rfl (by rw [zfR,List.length_map])
 rw [wK,yA,hlen]
 show (some (PV.bl (decide ((0:Int)<(F.length:Int))))).map _=_
 rw [decide_eq_true (by have:=List.length_pos_iff.mpr fl.ne;omega)];rfl
theorem zky{w h:Int}{F:List Int}(fl:IsFloor w h F):yk [.int w,.int h,.tup (F.map PV.int)]=some (.bl true):=by
 have fz:=xc fl
 obtain ⟨x0,xr,rfl⟩:∃ a r,F=a::r:=by
  cases F with
  | nil=>exact absurd rfl fl.ne
  | cons a r=>exact ⟨a,r,rfl⟩
 obtain ⟨L,e1,e2,e3⟩:=qo (w:=w) (h:=h) (S:=[x0]) (Pl:=x0::xr) (s:=.tup ([x0].map PV.int)) (x:=.tup ((x0::xr).map PV.int)) fl.w1 fl.w6 rfl (fun p=>ziJ) (by simp) fl.inn (by simp) (by omega)
 generalize hF:x0::xr=F at *
 have hlen:L.length=F.length:=(wl e2 (zi fl.rise) fun p hp=>((e3 p).mp hp).inS).mpr fun p hp=>(e3 p).mpr ((fl.conn p hp).mono (fun q a s=>.start (by rw [← hF] at a;cases a;exact List.mem_singleton.mpr rfl) s) fun q r=>r.inS)
 let E:En:=[some (.int w),some (.int h),some (.tup (F.map PV.int))]
 have hsl:fSl (zA 2) vZ (qv (fC (.int 1))) E=some (.tup ([x0].map PV.int)):=by
  show vSl (.tup (F.map PV.int)) none (some 1)=_
  rw [← hF]
  simp only [vSl,xK,if_true,zlb];rfl
 have hc:=zT (env:=E) (Φ:=yf) (fs:=zC (zA 0) (zC (zA 1) (zC (fSl (zA 2) vZ (qv (fC (.int 1)))) (zC (zA 2) zI)))) (as:=[.int w,.int h,.tup ([x0].map PV.int),.tup (F.map PV.int)]) (by rw [zS,zS,zS,hsl];rfl) e1
 have h1:zJ yo (zC (zJ yf (zC (zA 0) (zC (zA 1) (zC (fSl (zA 2) vZ (qv (fC (.int 1)))) (zC (zA 2) zI))))) zI) E=some (.int (L.length:Int)):=zT (as:=[.lst (L.map PV.int)]) (by rw [zS,hc];rfl) (by rw [ui,List.length_map])
 have h2:zJ yo (zC (zA 2) zI) E=some (.int (F.length:Int)):=zT (as:=[.tup (F.map PV.int)]) rfl (by rw [zfR,List.length_map])
 refine yT (e:=E) E rfl ?_
 unfold wf
 rw [wK,yA,h1,h2,Option.bind_some,Option.bind_some,zgg,decide_eq_true (by omega)];rfl
theorem zkx{w h:Int}{F:List Int}(fl:IsFloor w h F):xg [.int w,.int h,.tup (F.map PV.int)]=some (.bl false):=by
 have w1:=fl.w1;have w6:=fl.w6
 have wh:=zmH fl.w1 fl.w6 fl.h1 fl.h6
 have hmul:=ziq (i:=w) (j:=h) ⟨by omega,by omega⟩
 have hpl:=zaH w h
 have c1:yO (zP 0) (fT (fOp z4 (zA 0) (zA 1))) (zm (zA 0)) ((places w h).map PV.int) [none,some (.tup (F.map PV.int))]=some (((places w h).filter fun n=>!decide (n ∈ F)).map PV.int):=
  yd (fun n=>!decide (n ∈ F)) PV.int _ fun n _=>⟨_,rfl,by simp,fun _=>by simp⟩
 have hbl:=List.length_filter_le (fun n=>!decide (n ∈ F)) (places w h)
 have mem:∀ q,q ∈ (places w h).filter (fun n=>!decide (n ∈ F)) ↔ CB.Place w h q/\q ∉ F:=fun q=>by rw [List.mem_filter,mem_places];simp
 have bnd:((places w h).filter fun n=>!decide (n ∈ F)).Nodup:=(zi (vR w h)).filter _
 generalize ((places w h).filter fun n=>!decide (n ∈ F))=bare at c1 hbl mem bnd
 have c2:yO (zP 0) (yr (zJ yb (zC (zA 1) (zC (zA 2) (zC (zA 0) zI))))) (zm (zA 0)) (bare.map PV.int) [none,some (.int w),some (.int h)]=some ((bare.filter (zbL w h)).map PV.int):=
  yd (zbL w h) PV.int _ fun n _=>⟨[some (.int n),some (.int w),some (.int h)],rfl,by
   have:=zT (env:=[some (.int n),some (.int w),some (.int h)]) (Φ:=yb) (fs:=zC (zA 1) (zC (zA 2) (zC (zA 0) zI))) (as:=[.int w,.int h,.int n]) rfl (zik w1 w6)
   unfold yr
   rw [this];rfl,fun _=>by simp⟩
 have hrl:=List.length_filter_le (zbL w h) bare
 obtain ⟨L,e1,e2,e3⟩:=qo (w:=w) (h:=h) (S:=bare.filter (zbL w h)) (Pl:=bare) (s:=.lst ((bare.filter (zbL w h)).map PV.int)) (x:=.lst (bare.map PV.int)) w1 w6 (uK _) (fun p=>zfc) (fun p hp=>(List.mem_filter.mp hp).1) (fun p hp=>((mem p).mp hp).1) (by omega) (by omega)
 have hlen:L.length=bare.length:=(wl e2 bnd fun p hp=>((e3 p).mp hp).inS).mpr fun p hp=>(e3 p).mpr ((fl.noh p ((mem p).mp hp).1 ((mem p).mp hp).2).mono (fun q a s=>.start (List.mem_filter.mpr ⟨(mem q).mpr s,rimB_iff.mpr a⟩) ((mem q).mpr s)) fun q r=>(mem q).mpr r.inS)
 generalize (bare.filter (zbL w h))=rims at c2 e1 hrl
 let mk:Option PV->Option PV->En:=fun x y=>[some (.int w),some (.int h),some (.tup (F.map PV.int)),x,y]
 let A:=some (PV.lst (bare.map PV.int))
 let B:=some (PV.lst (rims.map PV.int))
 refine yT (e:=mk A B) (mk none none) rfl ?_
 unfold jW
 have hr:u8 (zC (fOp wa (zA 0) (zA 1)) zI) (mk none none)=some ((places w h).map PV.int):=by
  rw [← zaD]
  exact zcN (j:=w * h) (by
   show ((wa (.int w) (.int h)).bind fun p=>some [p])=_
   rw [hmul];rfl) (by omega) (by omega)
 rw [zF (e:=mk A none) (xo (vW hr rfl (by rw [List.length_map];omega) c1))]
 rw [zF (e:=mk A B) (xo (vW (qs:=bare.map PV.int) rfl rfl (by rw [List.length_map];omega) c2))]
 have hc:=zT (env:=mk A B) (Φ:=yf) (fs:=zC (zA 0) (zC (zA 1) (zC (zA 4) (zC (zA 3) zI)))) (as:=[.int w,.int h,.lst (rims.map PV.int),.lst (bare.map PV.int)]) rfl e1
 have h1:zJ yo (zC (zJ yf (zC (zA 0) (zC (zA 1) (zC (zA 4) (zC (zA 3) zI))))) zI) (mk A B)=some (.int (L.length:Int)):=zT (as:=[.lst (L.map PV.int)]) (by rw [zS,hc];rfl) (by rw [ui,List.length_map])
 have h2:zJ yo (zC (zA 3) zI) (mk A B)=some (.int (bare.length:Int)):=zT (as:=[.lst (bare.map PV.int)]) rfl (by rw [ui,List.length_map])
 rw [wK,yA,h1,h2,Option.bind_some,Option.bind_some,zkY,decide_eq_false (by omega)];rfl
theorem zfe{w h:Int}{F:List Int}(fl:IsFloor w h F):vL [.int w,.int h,.lst (F.map PV.int)]=some (flV w h F):=by
 let mk:Option PV->En:=fun x=>[some (.int w),some (.int h),some (.lst (F.map PV.int)),x]
 let A:=some (PV.tup (F.map PV.int))
 refine yT (e:=mk A) (mk none) rfl ?_
 unfold kF
 have t1:yr (zJ yv (zC (zA 0) zI)) (mk none)=some true:=by
  unfold yr;rw [zT (as:=[.int w]) rfl (zco fl.w1 fl.w6)];rfl
 have t2:yr (zJ yv (zC (zA 1) zI)) (mk none)=some true:=by
  unfold yr;rw [zT (as:=[.int h]) rfl (zco fl.h1 fl.h6)];rfl
 have t3:yr (zJ xT (zC (zA 0) (zC (zA 1) (zC (zA 3) zI)))) (mk A)=some true:=by
  unfold yr;rw [zT (as:=[.int w,.int h,.tup (F.map PV.int)]) rfl (zds fl)];rfl
 have t4:yr (zJ yk (zC (zA 0) (zC (zA 1) (zC (zA 3) zI)))) (mk A)=some true:=by
  unfold yr;rw [zT (as:=[.int w,.int h,.tup (F.map PV.int)]) rfl (zky fl)];rfl
 have t5:yr (zJ xg (zC (zA 0) (zC (zA 1) (zC (zA 3) zI)))) (mk A)=some false:=by
  unfold yr;rw [zT (as:=[.int w,.int h,.tup (F.map PV.int)]) rfl (zkx fl)];rfl
 have not_of:∀ {t:FT} {E:En},t E=some true->uN t E=some false:=fun {t E} h=>by unfold uN;rw [h];rfl
 rw [zF (e:=mk none) (by rw [zr,qy,not_of t1,Option.bind_some,if_neg Bool.false_ne_true,not_of t2];rfl)]
 rw [zF (e:=mk none) rfl]
 rw [zF (e:=mk A) (z8 (as:=[.lst (F.map PV.int)]) rfl (zav F))]
 rw [zF (e:=mk A) (by rw [zr,not_of t3];rfl)]
 rw [zF (e:=mk A) (by rw [zr,not_of t4];rfl)]
 rw [zF (e:=mk A) (by rw [zr,t5];rfl)]
 have hd:isDatas (F.map PV.int)=true:=xK
 rw [wK]
 simp [hd,mk,A]
noncomputable def kC(ls:List (List Int)):PV:=.lst (ls.map fun l=>.lst (l.map PV.int))
end Cb
namespace F
open PySem L2
theorem zmg{L:List Int}{p:Int}(h:p ∈ L):∃ j,kIx (L.map Sum.inl) (.inl p)=some j/\j<L.length/\L[j]?=some p:=by
 cases hj:kIx (L.map Sum.inl) (.inl p) with
 | none=>
  have:=zef hj
  rw [vA,decide_eq_false_iff_not] at this
  exact absurd h this
 | some j=>
  have h1:=zfT hj
  have h2:=ziF hj
  rw [List.length_map] at h2
  rw [List.getElem?_map,List.getElem?_eq_getElem h2] at h1
  refine ⟨j,rfl,h2,?_⟩
  rw [List.getElem?_eq_getElem h2]
  have:Sum.inl L[j]=(Sum.inl p:Key):=Option.some.inj h1
  rw [Sum.inl.inj this]
theorem zku{L:List Int}{p:Int}(h:p ∉ L):kIx (L.map Sum.inl) (.inl p)=none:=by
 cases hj:kIx (L.map Sum.inl) (.inl p) with
 | none=>rfl
 | some j=>
  have h1:=zfT hj
  rw [List.getElem?_map] at h1
  obtain ⟨q,h2,h3⟩:=Option.map_eq_some_iff.mp h1
  cases h3
  exact absurd (List.mem_of_getElem? h2) h
theorem zlu{L:List Int}{G:Int->PV}{p:Int}{q:PV}{j:Nat}(nd:L.Nodup)(hj:L[j]?=some p):(L.map G).set j q=L.map (upF G p q):=by
 apply List.ext_getElem?
 intro t
 rw [List.getElem?_set,List.getElem?_map,List.getElem?_map]
 obtain ⟨h1,h2⟩:=List.getElem?_eq_some_iff.mp hj
 by_cases e:j=t
 ·subst e
  rw [if_pos rfl,List.length_map,if_pos h1,List.getElem?_eq_getElem h1,h2];simp
 ·rw [if_neg e]
  cases ht:L[t]? with
  | none=>rfl
  | some y=>
   have hy:y≠p:=fun z=>by
    subst z
    obtain ⟨t1,t2⟩:=List.getElem?_eq_some_iff.mp ht
    rcases Nat.lt_trichotomy j t with w | w | w
    ·exact List.pairwise_iff_getElem.mp nd j t h1 t1 w (by rw [h2,t2])
    ·exact e w
    ·exact List.pairwise_iff_getElem.mp nd t j t1 h1 w (by rw [h2,t2])
   simp [vf hy]
theorem zft{L:List Int}{G:Int->PV}{p:Int}{q:PV}(h:p ∉ L):PV.dct (L.map Sum.inl++[.inl p]) (L.map G++[q])=dF (L++[p]) (upF G p q):=by
 unfold dF
 rw [List.map_append,List.map_append]
 congr 1
 simp only [List.map_cons,List.map_nil,xj]
 congr 1
 exact List.map_congr_left fun a ha=>(vf (show a≠p from fun z=>h (by rw [← z];exact ha))).symm
theorem zeF{env:En}{i:Nat}{fk f:FE}{L:List Int}{G:Int->PV}{p:Int}{qs:List PV}{q:PV}(hl:zA i env=some (dF L G))(hk:fk env=some (.int p))(nd:L.Nodup)(hp:p ∈ L)(hG:G p=.lst qs)(hq:f env=some q)(hL:L.length<100000)(hz:qs.length<100000):
  uv i fk f env=some (.nx (env.set i (some (dF L (upF G p (.lst (qs++[q]))))))):=by
 obtain ⟨j,h1,h2,h3⟩:=zmg hp
 unfold uv
 rw [hl,hk,Option.bind_some,Option.bind_some]
 have hg:(L.map G)[j]?=some (.lst qs):=by rw [List.getElem?_map,h3];simp [hG]
 simp only [dF,List.length_map,hL,if_true,wz,Option.bind_some,h1,hg,hq,hz,zlu nd h3]
theorem zeG{env:En}{i:Nat}{fk f:FE}{L:List Int}{G:Int->PV}{p:Int}{q:PV}(hl:zA i env=some (dF L G))(hk:fk env=some (.int p))(hp:p ∉ L)(hq:f (env.set i (some (dF (L++[p]) (upF G p (.lst [])))))=some q)(hL:L.length<100000):
  uv i fk f env=some (.nx (env.set i (some (dF (L++[p]) (upF G p (.lst [q])))))):=by
 unfold uv
 rw [hl,hk,Option.bind_some,Option.bind_some]
 have e0:=zft (G:=G) (q:=.lst []) hp
 have e1:(L.map G++[PV.lst []]).set (L.map G).length (.lst [q])=L.map G++[.lst [q]]:=by simp
 have e2:=zft (G:=G) (q:=.lst [q]) hp
 simp only [dF,List.length_map,hL,if_true,wz,Option.bind_some,zku hp]
 rw [e0,hq,Option.bind_some]
 rw [List.length_map] at e1
 rw [e1,e2]
 rw [List.set_set]
 rfl
theorem zjM{env:En}{i:Nat}{fk f:FE}{L:List Int}{G:Int->PV}{p:Int}{q:PV}(hl:zA i env=some (dF L G))(hk:fk env=some (.int p))(hp:p ∉ L)(hq:f env=some q)(hL:L.length<100000):
  zeh i fk f env=some (.nx (env.set i (some (dF (L++[p]) (upF G p q))))):=by
 unfold zeh
 rw [hq,hl,hk,Option.bind_some,Option.bind_some,Option.bind_some]
 have hn:ul (L.map Sum.inl) (.inl p)=false:=by rw [vA];exact decide_eq_false hp
 simp only [dF,wz,Option.bind_some,hn,List.length_map,hL,decide_true,Bool.not_false,Bool.and_self,if_true,zft hp]
theorem zkA{L:List Int}{G:Int->PV}{p:Int}{x:PV}:zdy (dF L G) (.int p) x=some (if p ∈ L then G p else x):=by
 simp only [dF,zdy,wz,Option.map_some]
 by_cases h:p ∈ L
 ·rw [if_pos h,zdl h];rfl
 ·rw [if_neg h,zcy h];rfl
end F
namespace Cb
open PySem L2 F CB PyProof.Rows
noncomputable def u9:FS:=(uv 1 (fOp vIx (zA 2) (fC (.int 0))) (zm (zA 2)))
noncomputable def vx:FS:=(zU (zh 1 jc)
 (zU (xu (zY (zA 0)) (zP 2) u9)
 (yM (zA 1))))
noncomputable def xf:List PV->Option PV:=fnV 3 vx
noncomputable def xw:FS:=(y7 (fT (fOp z4 (fOp vIx (zA 6) (fC (.int 1))) (zA 2))) (zU (zeh 2 (fOp vIx (zA 6) (fC (.int 1))) (fOp yX (fOp vIx (zA 2) (zA 5)) (xA (zC (fOp vIx (zA 6) (fC (.int 2))) zI))))
 (zt 4 (zm (fOp vIx (zA 6) (fC (.int 1)))))) fNx)
noncomputable def xI:FT:=(fT (fOp vGt (zJ yo (zC (zA 4) zI)) (fC (.int 0))))
noncomputable def vI:FS:=(zU (zgc 5 4)
 (xu (zY (zgf (zA 3) (zA 5) (xA zI))) (zP 6) xw))
noncomputable def um:FS:=(zU (zh 2 (zdi (zA 1) (xA zI)))
 (zU (zh 3 (zJ xf (zC (zA 0) zI)))
 (zU (zh 4 (xA (zC (zm (zA 1)) zI)))
 (zU (fWh xI vI 1000000)
 (yM (zA 2))))))
noncomputable def wL:List PV->Option PV:=fnV 7 um
noncomputable abbrev Stp:=Int × Int × PV
noncomputable def zv(s:Stp):PV:=.tup [.int s.1,.int s.2.1,s.2.2]
inductive Path (ss:List Stp) (a:Int):List PV->Int->Prop where
 | nil:Path ss a [] a
 | snoc {ms:List PV} {b:Int} {s:Stp}:Path ss a ms b->s ∈ ss->s.1=b->Path ss a (ms++[s.2.2]) s.2.1
inductive SPath (ss:List Stp) (a:Int):List PV->List Int->Int->Prop where
 | nil:SPath ss a [] [a] a
 | snoc {ms:List PV} {vs:List Int} {b:Int} {s:Stp}:SPath ss a ms vs b->s ∈ ss->s.1=b->s.2.1 ∉ vs->SPath ss a (ms++[s.2.2]) (vs++[s.2.1]) s.2.1
theorem zgR{ss:List Stp}(hd:∀ s ∈ ss,zl s.2.2=true)(hl:ss.length≤10000):∃ L G,xf [.lst (ss.map zv)]=some (dF L G)/\∀ p,(if p ∈ L then G p else .lst [])=.lst ((ss.filter fun s=>decide (s.1=p)).map zv):=by
 let mk:List Int->(Int->PV)->Option PV->En:=fun L G x=>[some (.lst (ss.map zv)),some (dF L G),x]
 obtain ⟨e,h1,L,G,x,rfl,nd,h2,h3,h4⟩:=yh (b:=zP 2) (g:=u9) (xs:=ss) (hh:=zv) (env:=mk [] (fun _=>.non) none)
  (fun pre e=>∃ L G x,e=mk L G x/\L.Nodup/\(∀ p,p ∈ L ↔ ∃ s ∈ pre,s.1=p)/\(∀ p ∈ L,G p=.lst ((pre.filter fun s=>decide (s.1=p)).map zv))/\L.length≤pre.length)
  ⟨[],_,none,rfl,.nil,by simp,by simp,by simp⟩ (by
   rintro pre s post e hp ⟨L,G,x,rfl,nd,h2,h3,h4⟩
   have hs:s ∈ ss:=by rw [hp];simp
   have hds:zl (zv s)=true:=by simp [zv,hd s hs]
   have hpl:pre.length<10000:=by have:=congrArg List.length hp;rw [List.length_append,List.length_cons] at this;omega
   have hk:∀ L G,fOp vIx (zA 2) (fC (.int 0)) (mk L G (some (zv s)))=some (.int s.1):=fun L G=>by simp [mk,zv]
   have hf:∀ L G,zm (zA 2) (mk L G (some (zv s)))=some (zv s):=fun L G=>by simp only [mk,qg,qf,List.getElem?_cons_succ,List.getElem?_cons_zero,Option.join_some,Option.bind_some,hds,if_true]
   refine ⟨mk L G (some (zv s)),?_⟩
   by_cases hL:s.1 ∈ L
   ·have hz:((pre.filter fun t=>decide (t.1=s.1)).map zv).length<100000:=by
     rw [List.length_map]
     have:=List.length_filter_le (fun t:Stp=>decide (t.1=s.1)) pre
     omega
    refine ⟨_,rfl,.inl (zeF (i:=1) rfl (hk L G) nd hL (h3 _ hL) (hf L G) (by omega) hz),L,_,_,rfl,nd,fun p=>?_,fun p hp'=>?_,by simp;omega⟩
    ·rw [h2 p]
     constructor
     ·rintro ⟨t,ht,e⟩;exact ⟨t,List.mem_append_left _ ht,e⟩
     ·rintro ⟨t,ht,e⟩
      rcases List.mem_append.mp ht with ht | ht
      ·exact ⟨t,ht,e⟩
      ·rw [List.mem_singleton.mp ht] at e
       rw [← h2 p,← e];exact hL
    ·rw [List.filter_append,List.map_append]
     by_cases e:p=s.1
     ·subst e;rw [xj];simp
     ·have e':¬ s.1=p:=fun z=>e z.symm
      rw [vf e,h3 p hp'];simp [e']
   ·refine ⟨_,rfl,.inl (zeG (i:=1) rfl (hk L G) hL (hf _ _) (by omega)),L++[s.1],_,_,rfl,?_,fun p=>?_,fun p hp'=>?_,by simp;omega⟩
    ·exact List.nodup_append.mpr ⟨nd,by simp,fun a ha b hb=>by rw [List.mem_singleton.mp hb];exact fun e=>hL (e ▸ ha)⟩
    ·rw [List.mem_append,List.mem_singleton,h2 p]
     constructor
     ·rintro (⟨t,ht,e⟩ | e)
      ·exact ⟨t,List.mem_append_left _ ht,e⟩
      ·exact ⟨s,by simp,e.symm⟩
     ·rintro ⟨t,ht,e⟩
      rcases List.mem_append.mp ht with ht | ht
      ·exact .inl ⟨t,ht,e⟩
      ·rw [List.mem_singleton.mp ht] at e;exact .inr e.symm
    ·rw [List.filter_append,List.map_append]
     by_cases e:p=s.1
     ·subst e
      rw [xj]
      have:(pre.filter fun t=>decide (t.1=s.1))=[]:=by
       rw [List.filter_eq_nil_iff]
       intro t ht hc
       exact hL ((h2 _).mpr ⟨t,ht,of_decide_eq_true hc⟩)
      simp [this]
     ·have e':¬ s.1=p:=fun z=>e z.symm
      rw [vf e,h3 p ((List.mem_append.mp hp').resolve_right fun z=>e (List.mem_singleton.mp z))];simp [e'])
 refine ⟨L,G,?_,fun p=>?_⟩
 ·refine yT (e:=mk L G x) [some (.lst (ss.map zv)),none,none] rfl ?_
  unfold vx
  rw [zF (e:=mk [] (fun _=>.non) none) (by simp [mk];rfl)]
  rw [zF (e:=mk L G x) (by rw [yi];exact h1)]
  rfl
 ·by_cases h:p ∈ L
  ·rw [if_pos h,h3 p h]
  ·rw [if_neg h]
   have:(ss.filter fun s=>decide (s.1=p))=[]:=by
    rw [List.filter_eq_nil_iff]
    intro t ht hc
    exact h ((h2 _).mpr ⟨t,ht,of_decide_eq_true hc⟩)
   rw [this];rfl
structure Wk (ss:List Stp) (start:Int) (U:List Int) (L:List Int) (ws:Int->List PV) (Q ex:List Int):Prop where
 nd:L.Nodup
 sub:∀ s ∈ L,s ∈ U
 st:start ∈ L
 path:∀ s ∈ L,Path ss start (ws s) s/\(ws s).length+1≤L.length
 w0:ws start=[]
 dat:∀ s ∈ L,isDatas (ws s)=true
 once:∀ s ∈ L,∃ vs,SPath ss start (ws s) vs s/\∀ v ∈ vs,v ∈ L
 qs:∀ q ∈ Q,q ∈ L
 cl:∀ s ∈ L,s ∉ Q->s ∉ ex->∀ t ∈ ss,t.1=s->t.2.1 ∈ L
noncomputable def upW(ws:Int->List PV)(p:Int)(q:List PV):Int->List PV:=fun y=>if y=p then q else ws y
theorem Wk.grow{ss:List Stp}{start:Int}{U L:List Int}{ws:Int->List PV}{Q ex:List Int}(w:Wk ss start U L ws Q ex){h:Int}(hh:h ∈ L){s:Stp}(hs:s ∈ ss)(e:s.1=h)(hn:s.2.1 ∉ L)(hU:s.2.1 ∈ U)(hd:zl s.2.2=true):
  Wk ss start U (L++[s.2.1]) (upW ws s.2.1 (ws h++[s.2.2])) (Q++[s.2.1]) ex:=by
 have ne:∀ {p},p ∈ L->p≠s.2.1:=fun hp z=>hn (z ▸ hp)
 refine ⟨?_,?_,List.mem_append_left _ w.st,?_,?_,?_,?_,?_,?_⟩
 ·exact List.nodup_append.mpr ⟨w.nd,by simp,fun a ha b hb=>by rw [List.mem_singleton.mp hb];exact ne ha⟩
 ·intro p hp
  rcases List.mem_append.mp hp with hp | hp
  ·exact w.sub p hp
  ·rw [List.mem_singleton.mp hp];exact hU
 ·intro p hp
  rcases List.mem_append.mp hp with hp | hp
  ·have:=w.path p hp
   unfold upW
   rw [if_neg (ne hp),List.length_append]
   exact ⟨this.1,by omega⟩
  ·rw [List.mem_singleton.mp hp]
   have:=w.path h hh
   unfold upW
   rw [if_pos rfl,List.length_append,List.length_append]
   exact ⟨.snoc this.1 hs e,by simp;omega⟩
 ·unfold upW;rw [if_neg (ne w.st)];exact w.w0
 ·intro p hp
  rcases List.mem_append.mp hp with hp | hp
  ·unfold upW;rw [if_neg (ne hp)];exact w.dat p hp
  ·rw [List.mem_singleton.mp hp];unfold upW;rw [if_pos rfl,xb,w.dat h hh];simp [hd]
 ·intro p hp
  rcases List.mem_append.mp hp with hp | hp
  ·obtain ⟨vs,v1,v2⟩:=w.once p hp
   unfold upW
   rw [if_neg (ne hp)]
   exact ⟨vs,v1,fun v hv=>List.mem_append_left _ (v2 v hv)⟩
  ·rw [List.mem_singleton.mp hp]
   obtain ⟨vs,v1,v2⟩:=w.once h hh
   unfold upW
   rw [if_pos rfl]
   refine ⟨vs++[s.2.1],.snoc v1 hs e fun z=>hn (v2 _ z),fun v hv=>?_⟩
   rcases List.mem_append.mp hv with hv | hv
   ·exact List.mem_append_left _ (v2 v hv)
   ·exact List.mem_append_right _ hv
 ·intro q hq
  rcases List.mem_append.mp hq with hq | hq
  ·exact List.mem_append_left _ (w.qs q hq)
  ·exact List.mem_append_right _ hq
 ·intro p hp hq hx t ht e'
  rw [List.mem_append,not_or] at hq
  rcases List.mem_append.mp hp with hp | hp
  ·exact List.mem_append_left _ (w.cl p hp hq.1 hx t ht e')
  ·exact absurd hp hq.2
theorem zhu{ss:List Stp}{start:Int}{U:List Int}(hd:∀ s ∈ ss,zl s.2.2=true)(hl:ss.length≤10000)(hU:∀ s ∈ ss,s.2.1 ∈ U)(hs:start ∈ U)(hUl:U.length≤1000):
  ∃ L ws,wL [.lst (ss.map zv),.int start]=some (dF L fun s=>.lst (ws s))/\Wk ss start U L ws [] []:=by
 obtain ⟨LO,GO,ho,hO⟩:=zgR hd hl
 let mk:List Int->(Int->List PV)->List Int->Option PV->Option PV->En:=fun L ws Q x y=>[some (.lst (ss.map zv)),some (.int start),some (dF L fun s=>.lst (ws s)),some (dF LO GO),some (.lst (Q.map PV.int)),x,y]
 have upE:∀ (L:List Int) (ws:Int->List PV) (p:Int) (q:List PV),dF L (upF (fun s=>.lst (ws s)) p (.lst q))=dF L fun s=>.lst (upW ws p q s):=fun L ws p q=>by
  congr 1
  funext y
  unfold upF upW
  split<;>rfl
 have loop:=zao (t:=xI) (g:=vI) (fun e=>∃ L ws Q x y,e=mk L ws Q x y/\Wk ss start U L ws Q []/\Q.length≤L.length)
  (fun e=>match e with | [_,_,some (.dct ks _),_,some (.lst q),_,_]=>2 * (U.length - ks.length)+q.length | _=>0) ?_ 1000000 (mk [start] (fun _=>[]) [start] none none)
  ⟨[start],_,[start],none,none,rfl,⟨by simp,fun s h=>by rw [List.mem_singleton.mp h];exact hs,by simp,fun s h=>by rw [List.mem_singleton.mp h];exact ⟨.nil,by simp⟩,rfl,fun _ _=>rfl,fun s h=>⟨[start],by rw [List.mem_singleton.mp h];exact .nil,fun v hv=>hv⟩,fun q h=>h,fun s h h'=>absurd h h'⟩,by simp⟩ (by simp [mk,dF];omega)
 ·obtain ⟨e,h1,⟨L,ws,Q,x,y,rfl,w,_⟩,h2⟩:=loop
  have hQ:Q=[]:=by
   cases Q with
   | nil=>rfl
   | cons a r=>simp [xI,mk] at h2
  subst hQ
  refine ⟨L,ws,?_,w⟩
  refine yT (e:=mk L ws [] x y) [some (.lst (ss.map zv)),some (.int start),none,none,none,none,none] rfl ?_
  unfold um
  rw [zF (e:=[some (.lst (ss.map zv)),some (.int start),some (dF [start] fun s=>.lst []),none,none,none,none]) (by simp [zdi,wz,dF])]
  rw [zF (z8 (as:=[.lst (ss.map zv)]) rfl ho)]
  rw [zF (e:=mk [start] (fun _=>[]) [start] none none) (by simp [mk])]
  rw [zF h1]
  rfl
 ·rintro e ⟨L,ws,Q,x,y,rfl,w,hQl⟩
  have hLl:L.length≤U.length:=zL L U w.nd w.sub
  cases Q with
  | nil=>exact .inl (by simp [xI,mk])
  | cons h Q=>
   refine .inr ⟨by simp [xI,mk],?_⟩
   have hh:h ∈ L:=w.qs h List.mem_cons_self
   have w1:Wk ss start U L ws Q [h]:=⟨w.nd,w.sub,w.st,w.path,w.w0,w.dat,w.once,fun q hq=>w.qs q (List.mem_cons_of_mem _ hq),fun s hs hq hx t ht e=>w.cl s hs (fun z=>(List.mem_cons.mp z).elim (fun z=>hx (z ▸ List.mem_singleton.mpr rfl)) hq) (by simp) t ht e⟩
   obtain ⟨e',g1,L',ws',Q',y',rfl,w',hcl,hsub,hle⟩:=yh (b:=zP 6) (g:=xw) (xs:=ss.filter fun s=>decide (s.1=h)) (hh:=zv) (env:=mk L ws Q (some (.int h)) y)
    (fun pre e=>∃ L' ws' Q' y',e=mk L' ws' Q' (some (.int h)) y'/\Wk ss start U L' ws' Q' [h]/\(∀ s ∈ pre,s.2.1 ∈ L')/\h ∈ L'/\Q'.length+L.length=Q.length+L'.length/\L.length≤L'.length)
    ⟨L,ws,Q,y,rfl,w1,by simp,hh,rfl,Nat.le_refl _⟩ (by
     rintro pre s post e hp ⟨L',ws',Q',y',rfl,w',hcl,hh',hsz,hle⟩
     have hsm:s ∈ ss.filter fun s=>decide (s.1=h):=by rw [hp];simp
     obtain ⟨hss,hs1⟩:=List.mem_filter.mp hsm
     have hs1:=of_decide_eq_true hs1
     have hL'l:L'.length≤U.length:=zL L' U w'.nd w'.sub
     refine ⟨mk L' ws' Q' (some (.int h)) (some (zv s)),?_⟩
     have hi1:fOp vIx (zA 6) (fC (.int 1)) (mk L' ws' Q' (some (.int h)) (some (zv s)))=some (.int s.2.1):=by simp [mk,zv]
     by_cases hin:s.2.1 ∈ L'
     ·refine ⟨mk L' ws' Q' (some (.int h)) (some (zv s)),rfl,.inl ?_,L',ws',Q',_,rfl,w',?_,hh',hsz,hle⟩
      ·have ht:fT (fOp z4 (fOp vIx (zA 6) (fC (.int 1))) (zA 2)) (mk L' ws' Q' (some (.int h)) (some (zv s)))=some false:=by
        rw [jg,yA,hi1]
        simp [mk,hin]
       unfold xw
       rw [zr,ht,Option.bind_some,if_neg Bool.false_ne_true];rfl
      ·intro t ht
       rcases List.mem_append.mp ht with ht | ht
       ·exact hcl t ht
       ·rw [List.mem_singleton.mp ht];exact hin
     ·have w2:=w'.grow hh' hss hs1 hin (hU s hss) (hd s hss)
      have hpl:=(w'.path h hh').2
      refine ⟨mk (L'++[s.2.1]) (upW ws' s.2.1 (ws' h++[s.2.2])) (Q'++[s.2.1]) (some (.int h)) (some (zv s)),rfl,.inl ?_,_,_,_,_,rfl,w2,?_,List.mem_append_left _ hh',by simp;omega,by simp;omega⟩
      ·have ht:fT (fOp z4 (fOp vIx (zA 6) (fC (.int 1))) (zA 2)) (mk L' ws' Q' (some (.int h)) (some (zv s)))=some true:=by
        rw [jg,yA,hi1]
        simp [mk,hin]
       have hadd:fOp yX (fOp vIx (zA 2) (zA 5)) (xA (zC (fOp vIx (zA 6) (fC (.int 2))) zI)) (mk L' ws' Q' (some (.int h)) (some (zv s)))=some (.lst (ws' h++[s.2.2])):=by
        have:vIx (dF L' fun s=>.lst (ws' s)) (.int h)=some (.lst (ws' h)):=jz hh'
        simp [mk,this,zv,yX,w'.dat h hh',hd s hss,show (ws' h).length+1≤100000 by omega]
       have hput:=zjM (i:=2) (env:=mk L' ws' Q' (some (.int h)) (some (zv s))) rfl hi1 hin hadd (by omega)
       unfold xw
       rw [zr,ht,Option.bind_some,if_pos rfl,zF hput,upE]
       have hQz:Q'.length<100000:=by simp only [List.length_cons] at hQl;omega
       show zt 4 (zm (fOp vIx (zA 6) (fC (.int 1)))) (mk (L'++[s.2.1]) (upW ws' s.2.1 (ws' h++[s.2.2])) Q' (some (.int h)) (some (zv s)))=_
       simp [zt,mk,zv,hQz]
      ·intro t ht
       rcases List.mem_append.mp ht with ht | ht
       ·exact List.mem_append_left _ (hcl t ht)
       ·rw [List.mem_singleton.mp ht];simp)
   have hL'l:L'.length≤U.length:=zL L' U w'.nd w'.sub
   obtain ⟨hh',hsz,hle⟩:=(⟨hsub,hle.1,hle.2⟩:h ∈ L'/\Q'.length+L.length=Q.length+L'.length/\L.length≤L'.length)
   simp only [List.length_cons] at hQl
   refine ⟨mk L' ws' Q' (some (.int h)) y',.inl ?_,⟨L',ws',Q',_,_,rfl,⟨w'.nd,w'.sub,w'.st,w'.path,w'.w0,w'.dat,w'.once,w'.qs,fun s hs hq _ t ht e=>?_⟩,by omega⟩,by simp [mk,dF];omega⟩
   ·unfold vI
    rw [zF (e:=mk L ws Q (some (.int h)) y) (by simp [zgc,mk])]
    rw [yi]
    have hg:zY (zgf (zA 3) (zA 5) (xA zI)) (mk L ws Q (some (.int h)) y)=some ((ss.filter fun s=>decide (s.1=h)).map zv):=by
     rw [xX]
     show ((zdy (dF LO GO) (.int h) (.lst [])).bind wW)=_
     rw [zkA,hO h];rfl
    rw [hg,Option.bind_some]
    exact g1
   ·by_cases hx:s=h
    ·subst hx
     exact hcl t (List.mem_filter.mpr ⟨ht,decide_eq_true e⟩)
    ·exact w'.cl s hs hq (by simpa using hx) t ht e
noncomputable def wD:FS:=(yM (xA (zC (xJ (zC (zm (zA 0)) (zC (zm (zA 1)) (zC (zm (zA 2)) zI)))) (zC (xJ (zC (zm (zA 1)) (zC (zm (zA 0)) (zC (zm (zA 2)) zI)))) zI))))
noncomputable def z6:List PV->Option PV:=fnV 3 wD
noncomputable def wg:FS:=(uO 3 (zJ z6 (zC (fOp vIx (fOp vIx (zA 2) (zA 4)) (fC (.int 0))) (zC (fOp vIx (fOp vIx (zA 2) (zA 4)) (fC (.int 1))) (zC (zA 4) zI)))))
noncomputable def v7:FS:=(zU (zh 2 (zJ yQ (zC (zA 0) zI)))
 (zU (zh 3 (xA zI))
 (zU (xu (zY (zA 1)) (zP 4) wg)
 (yM (zA 3)))))
noncomputable def xh:List PV->Option PV:=fnV 5 v7
noncomputable def wO(ls:List (List Int))(f:Int):List Stp:=[(((rc ls f).1:Int),((rc ls f).2:Int),.int f),(((rc ls f).2:Int),((rc ls f).1:Int),.int f)]
noncomputable def yU(ls:List (List Int))(B:List Int):List Stp:=B.flatMap (wO ls)
theorem mem_bSteps{ls:List (List Int)}{B:List Int}{s:Stp}:s ∈ yU ls B ↔ ∃ f ∈ B,s=(((rc ls f).1:Int),((rc ls f).2:Int),PV.int f)∨s=(((rc ls f).2:Int),((rc ls f).1:Int),PV.int f):=by
 unfold yU wO
 rw [List.mem_flatMap]
 simp only [List.mem_cons,List.not_mem_nil,or_false]
theorem zbI(ls:List (List Int))(B:List Int):(yU ls B).length=2 * B.length:=by
 unfold yU wO
 induction B with
 | nil=>rfl
 | cons a r ih=>rw [List.flatMap_cons,List.length_append,ih];simp;omega
theorem zbG{w h:Int}{F:List Int}{rs cs:List (Int × Nat)}{L:List Int}{G:Int->PV}(S:Strips w h F rs cs)(C:Cross w h F (zn w rs cs) L G){B:List Int}(hB:∀ f ∈ B,f ∈ F)(hl:B.length≤1000):
  xh [flV w h F,.lst (B.map PV.int)]=some (.lst ((yU (zn w rs cs) B).map zv)):=by
 let mk:List Stp->Option PV->En:=fun ss x=>[some (flV w h F),some (.lst (B.map PV.int)),some (dF L G),some (.lst (ss.map zv)),x]
 obtain ⟨e,h1,x,rfl⟩:=yh (b:=zP 4) (g:=wg) (xs:=B) (hh:=PV.int) (env:=mk [] none)
  (fun pre e=>∃ x,e=mk (yU (zn w rs cs) pre) x) ⟨none,rfl⟩ (by
   rintro pre f post e hp ⟨x,rfl⟩
   have hf:=hB f (by rw [hp];simp)
   obtain ⟨hi,_⟩:=S.rc_of hf
   have hpl:pre.length<1000:=by have:=congrArg List.length hp;rw [List.length_append,List.length_cons] at this;omega
   have hbl:=zbI (zn w rs cs) pre
   have hix:=C.ix hf hi
   have happ:yU (zn w rs cs) (pre++[f])=yU (zn w rs cs) pre++wO (zn w rs cs) f:=by simp [yU]
   have htb:z6 [.int ((rc (zn w rs cs) f).1:Int),.int ((rc (zn w rs cs) f).2:Int),.int f]=some (.lst ((wO (zn w rs cs) f).map zv)):=by
    simp [z6,fnV,wD,wO,zv]
   generalize rc (zn w rs cs) f=p at hix htb
   have hc:zJ z6 (zC (fOp vIx (fOp vIx (zA 2) (zA 4)) (fC (.int 0))) (zC (fOp vIx (fOp vIx (zA 2) (zA 4)) (fC (.int 1))) (zC (zA 4) zI))) (mk (yU (zn w rs cs) pre) (some (.int f)))=some (.lst ((wO (zn w rs cs) f).map zv)):=zT (as:=[.int (p.1:Int),.int (p.2:Int),.int f]) (by simp [mk,hix]) htb
   refine ⟨_,mk (yU (zn w rs cs) (pre++[f])) (some (.int f)),rfl,.inl ?_,_,rfl⟩
   unfold wg uO
   have hv:zA 3 (mk (yU (zn w rs cs) pre) (some (.int f)))=some (.lst ((yU (zn w rs cs) pre).map zv)):=rfl
   show ((zA 3 (mk (yU (zn w rs cs) pre) (some (.int f)))).bind fun l=>(zJ z6 (zC (fOp vIx (fOp vIx (zA 2) (zA 4)) (fC (.int 0))) (zC (fOp vIx (fOp vIx (zA 2) (zA 4)) (fC (.int 1))) (zC (zA 4) zI))) (mk (yU (zn w rs cs) pre) (some (.int f)))).bind fun q=>_)=_
   rw [hv,hc]
   have hdd:isDatas ((wO (zn w rs cs) f).map zv)=true:=by simp [wO,zv]
   simp only [Option.bind_some,zhL,hdd,true_and,List.length_map,hbl,show (wO (zn w rs cs) f).length=2 from rfl,show 2 * pre.length+2≤100000 by omega,if_true]
   rw [← List.map_append,← happ]
   rfl)
 refine yT (e:=mk (yU (zn w rs cs) B) x) [some (flV w h F),some (.lst (B.map PV.int)),none,none,none] rfl ?_
 unfold v7
 rw [zF (z8 (as:=[flV w h F]) rfl C.val)]
 rw [zF (e:=mk [] none) (by simp [mk])]
 rw [zF (e:=mk (yU (zn w rs cs) B) x) (by rw [yi];exact h1)]
 rfl
noncomputable def jr(n:Nat):List Int:=(List.range n).map fun (i:Nat)=>(i:Int)
theorem mem_univ{n:Nat}{k:Int}:k ∈ jr n ↔ 0≤k/\k<n:=by
 unfold jr
 rw [List.mem_map]
 constructor
 ·rintro ⟨i,hi,rfl⟩
  have:=List.mem_range.mp hi
  omega
 ·intro h
  exact ⟨k.toNat,List.mem_range.mpr (by omega),by omega⟩
theorem uI(n:Nat):(jr n).length=n:=by simp [jr]
theorem zeE{w h:Int}{F:List Int}{rs cs:List (Int × Nat)}(hs:zq [flV w h F]=some (.lst ((jC w rs cs).map zp)))(env:En)(he:env[0]?=some (some (flV w h F))):zJ yo (zC (zJ zq (zC (zA 0) zI)) zI) env=some (.int ((rs.length+cs.length:Nat):Int)):=by
 have h1:zJ zq (zC (zA 0) zI) env=some (.lst ((jC w rs cs).map zp)):=zT (as:=[flV w h F]) (by simp [he]) hs
 refine zT (as:=[.lst ((jC w rs cs).map zp)]) (by rw [zS,h1];rfl) ?_
 rw [ui]
 simp [jC]
theorem Wk.both{ls:List (List Int)}{B:List Int}{k:Int}{U L:List Int}{ws:Int->List PV}(w:Wk (yU ls B) k U L ws [] []){f:Int}(hf:f ∈ B):((rc ls f).1:Int) ∈ L ↔ ((rc ls f).2:Int) ∈ L:=by
 constructor
 ·intro h
  exact w.cl _ h (by simp) (by simp) (((rc ls f).1:Int),((rc ls f).2:Int),.int f) (mem_bSteps.mpr ⟨f,hf,.inl rfl⟩) rfl
 ·intro h
  exact w.cl _ h (by simp) (by simp) (((rc ls f).2:Int),((rc ls f).1:Int),.int f) (mem_bSteps.mpr ⟨f,hf,.inr rfl⟩) rfl
inductive Way (ls:List (List Int)) (B:List Int) (a:Nat):List Int->Nat->Prop where
 | nil:Way ls B a [] a
 | snoc {fs:List Int} {b e:Nat} {f:Int}:Way ls B a fs b->f ∈ B->((rc ls f)=(b,e)∨(rc ls f)=(e,b))->Way ls B a (fs++[f]) e
theorem Path.way{ls:List (List Int)}{B:List Int}{a:Nat}{ms:List PV}{e:Int}(p:Path (yU ls B) a ms e):∃ (fs:List Int) (k:Nat),ms=fs.map PV.int/\e=k/\Way ls B a fs k:=by
 induction p with
 | nil=>exact ⟨[],a,rfl,rfl,.nil⟩
 | @snoc ms b s _ hs hb ih=>
  obtain ⟨fs,k,rfl,rfl,w⟩:=ih
  obtain ⟨f,hf,e | e⟩:=mem_bSteps.mp hs
  ·subst e
   have hb':(rc ls f).1=k:=by simp only at hb;omega
   exact ⟨fs++[f],(rc ls f).2,by simp,rfl,.snoc w hf (.inl (by rw [← hb']))⟩
  ·subst e
   have hb':(rc ls f).2=k:=by simp only at hb;omega
   exact ⟨fs++[f],(rc ls f).1,by simp,rfl,.snoc w hf (.inr (by rw [← hb']))⟩
inductive SWay (ls:List (List Int)) (B:List Int) (a:Nat):List Int->List Nat->Nat->Prop where
 | nil:SWay ls B a [] [a] a
 | snoc {fs:List Int} {vs:List Nat} {b e:Nat} {f:Int}:SWay ls B a fs vs b->f ∈ B->(rc ls f=(b,e)∨rc ls f=(e,b))->e ∉ vs->SWay ls B a (fs++[f]) (vs++[e]) e
section
variable {ls:List (List Int)} {B:List Int} {a e R:Nat} {fs:List Int} {vs:List Nat}
theorem znm(i:Nat):((i+1) % 2=0 ↔ i % 2=1)/\((i+1) % 2=1 ↔ i % 2=0):=by
 rw [Nat.add_mod]
 rcases Nat.mod_two_eq_zero_or_one i with h | h<;>rw [h]<;>decide
end
noncomputable def u4:FS:=(y7 (fT (fOp z4 (zA 5) (zA 4))) (zU (zh 6 (zJ wL (zC (zA 2) (zC (zA 5) zI))))
 (zU (k6 4 (zA 6))
 (zt 3 (zJ xG (zC (zA 6) zI))))) fNx)
noncomputable def zbh:FS:=(zU (zh 2 (zJ xh (zC (zA 0) (zC (zA 1) zI))))
 (zU (zh 3 (xA zI))
 (zU (zh 4 jc)
 (zU (xu (u8 (zC (zJ yo (zC (zJ zq (zC (zA 0) zI)) zI)) zI)) (zP 5) u4)
 (yM (zA 3))))))
noncomputable def wn:List PV->Option PV:=fnV 7 zbh
noncomputable def kL:FS:=(vY 2 (zA 4) (fOp vIx (zA 3) (fC (.int 0))))
noncomputable def kK:FS:=(xu (zY (zA 3)) (zP 4) kL)
noncomputable def zbi:FS:=(zU (zh 2 jc)
 (zU (xu (zY (zJ wn (zC (zA 0) (zC (zA 1) zI)))) (zP 3) kK)
 (yM (zA 2))))
noncomputable def jh:List PV->Option PV:=fnV 5 zbi
inductive Con (ls:List (List Int)) (B:List Int) (a:Nat):Nat->Prop where
 | refl:Con ls B a a
 | step {b e:Nat} {f:Int}:Con ls B a b->f ∈ B->(rc ls f=(b,e)∨rc ls f=(e,b))->Con ls B a e
section
variable {ls:List (List Int)} {B:List Int} {a b c:Nat}
theorem Con.trans(h:Con ls B a b)(h':Con ls B b c):Con ls B a c:=by
 induction h' with
 | refl=>exact h
 | step _ hf e ih=>exact .step ih hf e
theorem Con.symm(h:Con ls B a b):Con ls B b a:=by
 induction h with
 | refl=>exact .refl
 | step _ hf e ih=>exact (Con.step .refl hf e.symm).trans ih
theorem Way.con{fs:List Int}(w:Way ls B a fs b):Con ls B a b:=by
 induction w with
 | nil=>exact .refl
 | snoc _ hf e ih=>exact .step ih hf e
theorem Wk.con{U L:List Int}{ws:Int->List PV}(w:Wk (yU ls B) a U L ws [] []){k:Nat}:((k:Int) ∈ L) ↔ Con ls B a k:=by
 constructor
 ·intro h
  obtain ⟨fs,k',_,e,wy⟩:=Path.way (w.path _ h).1
  have:k'=k:=by omega
  subst this
  exact wy.con
 ·intro h
  induction h with
  | refl=>exact w.st
  | step _ hf e ih=>
   have:=w.both hf
   rcases e with e | e<;>(rw [e] at this;simp only at this)
   ·exact this.mp ih
   ·exact this.mpr ih
noncomputable def Least(ls:List (List Int))(B:List Int)(s m:Nat):Prop:=Con ls B s m/\∀ t,Con ls B s t->m≤t
theorem Least.uniq{s m m':Nat}(h:Least ls B s m)(h':Least ls B s m'):m=m':=by
 have:=h.2 _ h'.1
 have:=h'.2 _ h.1
 omega
theorem Least.move{s t m:Nat}(h:Least ls B s m)(c:Con ls B s t):Least ls B t m:=⟨c.symm.trans h.1,fun u hu=>h.2 u (c.trans hu)⟩
theorem Least.same{s t m m':Nat}(h:Least ls B s m)(h':Least ls B t m'):m=m' ↔ Con ls B s t:=
 ⟨fun e=>h.1.trans (by rw [e];exact h'.1.symm),fun c=>(h.move c).uniq h'⟩
theorem Least.ex(ls:List (List Int))(B:List Int)(s:Nat):∃ m,Least ls B s m:=by
 have go:∀ n t,t≤n->Con ls B s t->∃ m,Least ls B s m:=by
  intro n
  induction n with
  | zero=>
   intro t ht h
   have:t=0:=by omega
   subst this
   exact ⟨0,h,fun _ _=>Nat.zero_le _⟩
  | succ n ih=>
   intro t ht h
   refine Classical.byContradiction fun hno=>?_
   refine hno ⟨t,h,fun u hu=>?_⟩
   refine Classical.byContradiction fun hlt=>?_
   exact hno (ih u (by omega) hu)
 exact go s s (Nat.le_refl _) .refl
end
theorem zcc{w h:Int}{F:List Int}(fl:IsFloor w h F){d:Int}{stop:Int->Bool}{ps:List (Int × Nat)}(r:Runs0 F d stop F ps)(code:Int->Int)(hr:∀ f ∈ F,0≤code f/\code f<18)(hc:∀ f ∈ F,∀ g ∈ F,code f=code g->f<g->g=f+d/\stop g=false):ps.length≤18:=by
 have nd:=zi fl.rise
 have hin:∀ x ∈ ps,x.1 ∈ F/\yD F d stop x.1=true:=fun x hx=>Runs.start r hx
 have key:((ps.map (·.1)).map code).Nodup:=by
  have h1:(ps.map (·.1)).Nodup:=Runs.heads_nd r nd
  rw [List.nodup_iff_pairwise_ne,List.pairwise_map]
  rw [List.nodup_iff_pairwise_ne] at h1
  refine List.Pairwise.imp_of_mem (fun {a b} ha hb hne e=>?_) h1
  obtain ⟨x,hx,rfl⟩:=List.mem_map.mp ha
  obtain ⟨y,hy,rfl⟩:=List.mem_map.mp hb
  obtain ⟨x1,x2⟩:=hin x hx
  obtain ⟨y1,y2⟩:=hin y hy
  unfold yD at x2 y2
  rcases Int.lt_trichotomy x.1 y.1 with z | z | z
  ·obtain ⟨q1,q2⟩:=hc _ x1 _ y1 e z
   rw [q2] at y2
   have:y.1 - d ∈ F:=by rw [q1,show x.1+d - d=x.1 by omega];exact x1
   simp [this] at y2
  ·exact hne z
  ·obtain ⟨q1,q2⟩:=hc _ y1 _ x1 e.symm z
   rw [q2] at x2
   have:x.1 - d ∈ F:=by rw [q1,show y.1+d - d=y.1 by omega];exact y1
   simp [this] at x2
 have:=zL _ (jr 18) key fun k hk=>by
  obtain ⟨a,ha,rfl⟩:=List.mem_map.mp hk
  obtain ⟨x,hx,rfl⟩:=List.mem_map.mp ha
  have:=hr _ (hin x hx).1
  exact mem_univ.mpr (by omega)
 rw [uI,List.length_map,List.length_map] at this
 exact this
theorem zfB{a b:Int}(h:0≤a/\a<6)(h':0≤b/\b<6):0≤a * 3+b / 2/\a * 3+b / 2<18:=by
 have:0≤b / 2/\b / 2<3:=by omega
 omega
theorem zlo{a x c y:Int}(hx:0≤x/\x<3)(hy:0≤y/\y<3)(e:a * 3+x=c * 3+y):a=c/\x=y:=by omega
theorem ziP{b:Int}(h:0≤b/\b<6):0≤b / 2/\b / 2<3:=by omega
theorem zkz{b d:Int}(e:b / 2=d / 2):b=d∨b=d+1∨d=b+1:=by omega
theorem zdA{a b c d:Int}(hb:0≤b/\b<6)(hd:0≤d/\d<6)(e:a * 3+b / 2=c * 3+d / 2):a=c/\(b=d∨b=d+1∨d=b+1):=
 have h:=zlo (ziP hb) (ziP hd) e
 ⟨h.1,zkz h.2⟩
theorem Strips.few{w h:Int}{F:List Int}{rs cs:List (Int × Nat)}(S:Strips w h F rs cs):rs.length≤18/\cs.length≤18:=by
 have hw:=S.fl.w1
 have q6:∀ f ∈ F,0≤f / w/\f / w<6:=fun f hf=>by
  have:=zce hw (S.fl.inn f hf)
  have:=S.fl.h6
  omega
 have m6:∀ f,0≤f % w/\f % w<6:=fun f=>by
  have:=S.fl.w6
  have:=Int.emod_nonneg f (show w≠0 by omega)
  have:=Int.emod_lt_of_pos f (show 0<w by omega)
  omega
 refine ⟨zcc S.fl S.rows.toRuns0 (fun f=>f / w * 3+f % w / 2) (fun f hf=>zfB (q6 f hf) (m6 f)) fun f hf g hg e hlt=>?_,
  zcc S.fl S.cols.toRuns0 (fun f=>f % w * 3+f / w / 2) (fun f hf=>zfB (m6 f) (q6 f hf)) fun f hf g hg e hlt=>⟨?_,rfl⟩⟩
 ·obtain ⟨e1,e2⟩:=zdA (m6 f) (m6 g) e
  have a1:=Int.mul_ediv_add_emod f w
  have a2:=Int.mul_ediv_add_emod g w
  have:=(m6 f).1
  rw [e1] at a1
  generalize w * (g / w)=D at a1 a2
  refine ⟨by omega,?_⟩
  unfold wP
  exact decide_eq_false (by omega)
 ·obtain ⟨e1,e2⟩:=zdA (q6 f hf) (q6 g hg) e
  have a1:=Int.mul_ediv_add_emod f w
  have a2:=Int.mul_ediv_add_emod g w
  rw [e1] at a1
  rcases e2 with e2 | e2 | e2
  ·rw [e2] at a1;omega
  ·rw [e2,Int.mul_add,Int.mul_one] at a1;omega
  ·rw [e2,Int.mul_add,Int.mul_one] at a2;omega
theorem ziN(L:List Int)(p:Int):ul (L.map Sum.inl) (.inl p)=decide (p ∈ L):=vA L p
noncomputable def unI(L M:List Int):List Int:=M.foldl (fun acc k=>if k ∈ acc then acc else acc++[k]) L
theorem zbb:∀ (M L:List Int),jy (L.map Sum.inl) (M.map Sum.inl)=(unI L M).map Sum.inl
 | [],L=>rfl
 | m::M,L=>by
  unfold jy unI
  rw [List.map_cons,List.foldl_cons,List.foldl_cons,ziN]
  by_cases h:m ∈ L
  ·rw [decide_eq_true h,if_pos rfl,if_pos h];exact zbb M L
  ·rw [decide_eq_false h,if_neg Bool.false_ne_true,if_neg h]
   have e:L.map (Sum.inl:Int->Key)++[Sum.inl m]=(L++[m]).map Sum.inl:=by simp
   rw [e]
   exact zbb M (L++[m])
theorem zfQ:∀ (M L:List Int) (x:Int),x ∈ unI L M ↔ x ∈ L∨x ∈ M
 | [],L,x=>by simp [unI]
 | m::M,L,x=>by
  have e:unI L (m::M)=unI (if m ∈ L then L else L++[m]) M:=rfl
  rw [e,zfQ M,List.mem_cons]
  by_cases h:m ∈ L
  ·rw [if_pos h]
   constructor
   ·rintro (z | z)
    ·exact .inl z
    ·exact .inr (.inr z)
   ·rintro (z | z | z)
    ·exact .inl z
    ·exact .inl (z ▸ h)
    ·exact .inr z
  ·rw [if_neg h,List.mem_append,List.mem_singleton]
   constructor
   ·rintro ((z | z) | z)
    ·exact .inl z
    ·exact .inr (.inl z)
    ·exact .inr (.inr z)
   ·rintro (z | z | z)
    ·exact .inl (.inl z)
    ·exact .inl (.inr z)
    ·exact .inr z
theorem zbZ:∀ (M L:List Int),L.Nodup->(unI L M).Nodup
 | [],L,h=>h
 | m::M,L,h=>by
  have e:unI L (m::M)=unI (if m ∈ L then L else L++[m]) M:=rfl
  rw [e]
  refine zbZ M _ ?_
  split
  ·exact h
  ·rename_i hm
   exact List.nodup_append.mpr ⟨h,by simp,fun x hx y hy hxy=>hm (by rw [List.mem_singleton.mp hy] at hxy;exact hxy ▸ hx)⟩
theorem zgz{env:En}{i:Nat}{f:FE}{L M:List Int}{Z:Int->PV}(hl:zA i env=some (dF L fun _=>.any))(hq:f env=some (dF M Z))(hz:L.length+M.length≤100000):k6 i f env=some (.nx (env.set i (some (dF (unI L M) fun _=>.any)))):=by
 unfold k6
 rw [hq,hl,Option.bind_some,Option.bind_some]
 have hd:isDatas (L.map fun _=>PV.any)=true:=ye _ (fun _=>rfl) L
 simp only [dF,hd,List.length_map,hz,decide_true,Bool.and_self,if_true,zbb,List.map_map]
 rfl
structure Piece (ls:List (List Int)) (B:List Int) (n:Nat) (p:List Int):Prop where
 sub:∀ s ∈ p,s ∈ jr n
 ne:p≠[]
 rise:p.Pairwise (·≤·)
 mem:∃ k:Nat,∀ s:Int,s ∈ p ↔ ∃ t:Nat,s=t/\Con ls B k t
noncomputable def lst(ls:List (List Int))(B:List Int)(k:Nat):Nat:=Classical.choose (Least.ex ls B k)
theorem jS(ls:List (List Int))(B:List Int)(k:Nat):Least ls B k (lst ls B k):=Classical.choose_spec (Least.ex ls B k)
theorem lst_iff{ls:List (List Int)}{B:List Int}{a b:Nat}:lst ls B a=lst ls B b ↔ Con ls B a b:=(jS ls B a).same (jS ls B b)
theorem zlY{ls:List (List Int)}{B:List Int}{k m:Nat}(h:Least ls B k m):lst ls B k=m:=(jS ls B k).uniq h
theorem ziv(ls:List (List Int))(B:List Int)(k:Nat):lst ls B k≤k:=(jS ls B k).2 k .refl
theorem zed(ls:List (List Int))(B:List Int)(k:Nat):lst ls B (lst ls B k)=lst ls B k:=lst_iff.mpr (jS ls B k).1.symm
noncomputable def cls(ls:List (List Int))(B:List Int)(n k:Nat):List Int:=(jr n).filter fun s=>decide (lst ls B s.toNat=k)
noncomputable def zbl(ls:List (List Int))(B:List Int)(n:Nat):List Nat:=(List.range n).filter fun k=>decide (lst ls B k=k)
theorem mem_cls{ls:List (List Int)}{B:List Int}{n k:Nat}{s:Int}:s ∈ cls ls B n k ↔ s ∈ jr n/\lst ls B s.toNat=k:=by simp [cls]
theorem mem_firsts{ls:List (List Int)}{B:List Int}{n k:Nat}:k ∈ zbl ls B n ↔ k<n/\lst ls B k=k:=by simp [zbl]
theorem zgB(n:Nat):(jr n).Pairwise (·<·):=by
 unfold jr
 rw [List.pairwise_map]
 exact List.pairwise_lt_range.imp fun h=>by omega
theorem cls_rise{ls:List (List Int)}{B:List Int}{n k:Nat}:(cls ls B n k).Pairwise (·<·):=(zgB n).filter _
theorem jm{L M:List Int}(nd:L.Nodup)(rise:M.Pairwise (·<·))(hm:∀ s,s ∈ L ↔ s ∈ M):vQ L=M:=by
 refine List.Perm.eq_of_pairwise (le:=(·≤·)) (fun x y _ _ h h'=>Int.le_antisymm h h') (xm L) (rise.imp fun h=>Int.le_of_lt h) ?_
 exact (wt L).trans ((List.perm_ext_iff_of_nodup nd (zi rise)).mpr hm)
theorem Con.lt{ls:List (List Int)}{B:List Int}{n a b:Nat}(hB:∀ f ∈ B,(rc ls f).1<n/\(rc ls f).2<n)(ha:a<n)(h:Con ls B a b):b<n:=by
 induction h with
 | refl=>exact ha
 | step _ hf e ih=>
  obtain ⟨h1,h2⟩:=hB _ hf
  rcases e with e | e<;>(rw [e] at h1 h2;first | exact h2 | exact h1)
theorem zgM{w h:Int}{F:List Int}{rs cs:List (Int × Nat)}{L0:List Int}{G:Int->PV}(S:Strips w h F rs cs)(C:Cross w h F (zn w rs cs) L0 G)(hs:zq [flV w h F]=some (.lst ((jC w rs cs).map zp))){B:List Int}(hB:∀ f ∈ B,f ∈ F)(hl:B.length≤1000):
  wn [flV w h F,.lst (B.map PV.int)]=some (kC ((zbl (zn w rs cs) B (rs.length+cs.length)).map (cls (zn w rs cs) B (rs.length+cs.length)))):=by
 have few:=S.few
 have hbs:=zbG S C hB hl
 have hrc:∀ f ∈ B,(rc (zn w rs cs) f).1<rs.length+cs.length/\(rc (zn w rs cs) f).2<rs.length+cs.length:=fun f hf=>by
  obtain ⟨_,q1,q2,q3⟩:=S.rc_of (hB f hf)
  omega
 have hsl:=zeE hs
 generalize hn:rs.length+cs.length=n at *
 generalize zn w rs cs=ls at *
 let mk:List (List Int)->List Int->Option PV->Option PV->En:=fun ps M x5 x6=>[some (flV w h F),some (.lst (B.map PV.int)),some (.lst ((yU ls B).map zv)),some (kC ps),some (dF M fun _=>.any),x5,x6]
 obtain ⟨e,f1,M,x5,x6,rfl,p4,p2⟩:=yh (b:=zP 5) (g:=u4) (xs:=List.range n) (hh:=fun (i:Nat)=>PV.int (0+(i:Int))) (env:=mk [] [] none none)
  (fun pre e=>∃ M x5 x6,e=mk ((pre.filter fun k=>decide (lst ls B k=k)).map (cls ls B n)) M x5 x6/\M.Nodup/\∀ s,s ∈ M ↔ s ∈ jr n/\lst ls B s.toNat ∈ pre)
  ⟨[],none,none,rfl,by simp,by simp⟩ (by
   rintro pre i post e hp ⟨M,x5,x6,rfl,p4,p2⟩
   have hin:i<n:=List.mem_range.mp (by rw [hp];simp)
   have hpr:=List.pairwise_lt_range (n:=n)
   rw [hp] at hpr
   have hpi:∀ k,k ∈ pre ↔ k<i:=fun k=>by
    refine ⟨fun z=>(List.pairwise_append.mp hpr).2.2 k z i List.mem_cons_self,fun z=>?_⟩
    have:k ∈ pre++i::post:=by rw [← hp];exact List.mem_range.mpr (by omega)
    rcases List.mem_append.mp this with y | y
    ·exact y
    ·rcases List.mem_cons.mp y with y | y
     ·omega
     ·have:=(List.pairwise_cons.mp (List.pairwise_append.mp hpr).2.1).1 k y;omega
   have hpl:pre.length≤n:=by
    have:=congrArg List.length hp
    rw [List.length_range,List.length_append] at this;omega
   have hMl:M.length≤n:=by
    have:=zL M _ p4 fun s hs'=>((p2 s).mp hs').1
    rwa [uI] at this
   have hle:=ziv ls B i
   have hiM:((i:Int) ∈ M) ↔ lst ls B i<i:=by
    rw [p2,mem_univ,hpi]
    constructor
    ·exact fun z=>z.2
    ·exact fun z=>⟨by omega,z⟩
   rw [Int.zero_add]
   rw [List.filter_append]
   have hfl:(pre.filter fun k=>decide (lst ls B k=k)).length≤n:=Nat.le_trans (List.length_filter_le _ _) hpl
   generalize hfp:(pre.filter fun k=>decide (lst ls B k=k))=fp at *
   by_cases hM:(i:Int) ∈ M
   ·have hlt:=hiM.mp hM
    have hfi:[i].filter (fun k=>decide (lst ls B k=k))=[]:=by simp;omega
    rw [hfi,List.append_nil]
    generalize fp.map (cls ls B n)=ps at *
    refine ⟨mk ps M (some (.int (i:Int))) x6,mk ps M (some (.int (i:Int))) x6,rfl,.inl ?_,M,_,_,rfl,p4,fun s=>?_⟩
    ·have ht:fT (fOp z4 (zA 5) (zA 4)) (mk ps M (some (.int (i:Int))) x6)=some false:=by simp [mk,hM]
     unfold u4
     rw [zr,ht,Option.bind_some,if_neg Bool.false_ne_true];rfl
    ·rw [p2,List.mem_append,List.mem_singleton]
     refine ⟨fun z=>⟨z.1,.inl z.2⟩,fun z=>⟨z.1,z.2.resolve_right fun y=>?_⟩⟩
     have:=zed ls B s.toNat
     rw [y] at this;omega
   ·have hii:lst ls B i=i:=by
     have:¬ lst ls B i<i:=fun z=>hM (hiM.mpr z)
     omega
    have hfi:[i].filter (fun k=>decide (lst ls B k=k))=[i]:=by simp [hii]
    obtain ⟨L,ws,hw,wk⟩:=zhu (ss:=yU ls B) (start:=(i:Int)) (U:=jr n) (fun s hs=>by
     obtain ⟨f,_,e | e⟩:=mem_bSteps.mp hs<;>(rw [e];rfl)) (by rw [zbI];omega) (fun s hs=>by
     obtain ⟨f,hf,e⟩:=mem_bSteps.mp hs
     obtain ⟨q1,q2⟩:=hrc f hf
     rw [mem_univ]
     rcases e with e | e<;>(rw [e];constructor<;>(simp only;omega))) (by rw [mem_univ];omega) (by rw [uI];omega)
    have hLl:L.length≤n:=by
     have:=zL L _ wk.nd wk.sub
     rwa [uI] at this
    have hmL:∀ s,s ∈ L ↔ s ∈ cls ls B n i:=fun s=>by
     rw [mem_cls]
     have key:∀ t:Nat,((t:Int) ∈ L) ↔ lst ls B t=i:=fun t=>by
      rw [wk.con,← lst_iff,hii]
      exact ⟨fun z=>z.symm,fun z=>z.symm⟩
     constructor
     ·intro z
      have hu:=wk.sub s z
      have:=mem_univ.mp hu
      refine ⟨hu,(key _).mp ?_⟩
      rwa [show ((s.toNat:Nat):Int)=s by omega]
     ·rintro ⟨hu,z⟩
      have:=mem_univ.mp hu
      have y:=(key _).mpr z
      rwa [show ((s.toNat:Nat):Int)=s by omega] at y
    have hso':=jm wk.nd cls_rise hmL
    rw [hfi,List.map_append,List.map_singleton]
    generalize hpsd:fp.map (cls ls B n)=ps at *
    have hpsl:ps.length≤n:=by rw [← hpsd,List.length_map];exact hfl
    refine ⟨mk ps M (some (.int (i:Int))) x6,mk (ps++[cls ls B n i]) (unI M L) (some (.int (i:Int))) (some (dF L fun s=>.lst (ws s))),rfl,.inl ?_,_,_,_,rfl,zbZ _ _ p4,fun s=>?_⟩
    ·have ht:fT (fOp z4 (zA 5) (zA 4)) (mk ps M (some (.int (i:Int))) x6)=some true:=by simp [mk,hM]
     unfold u4
     rw [zr,ht,Option.bind_some,if_pos rfl]
     rw [zF (e:=mk ps M (some (.int (i:Int))) (some (dF L fun s=>.lst (ws s)))) (z8 (as:=[.lst ((yU ls B).map zv),.int (i:Int)]) rfl hw)]
     rw [zF (e:=mk ps (unI M L) (some (.int (i:Int))) (some (dF L fun s=>.lst (ws s)))) (zgz (i:=4) rfl rfl (by omega))]
     have hso:zJ xG (zC (zA 6) zI) (mk ps (unI M L) (some (.int (i:Int))) (some (dF L fun s=>.lst (ws s))))=some (.lst ((cls ls B n i).map PV.int)):=by
      refine zT (as:=[dF L fun s=>.lst (ws s)]) rfl ?_
      unfold dF xG
      dsimp only
      rw [qr]
      dsimp only
      rw [if_pos (by omega),hso']
     unfold zt
     have hv:zA 3 (mk ps (unI M L) (some (.int (i:Int))) (some (dF L fun s=>.lst (ws s))))=some (kC ps):=rfl
     rw [hv,hso]
     simp only [Option.bind_some,kC,List.length_map,show ps.length<100000 by omega,if_true]
     simp [mk,kC]
    ·rw [zfQ,p2,hmL,mem_cls,List.mem_append,List.mem_singleton]
     constructor
     ·rintro (z | z)
      ·exact ⟨z.1,.inl z.2⟩
      ·exact ⟨z.1,.inr z.2⟩
     ·rintro ⟨z,y | y⟩
      ·exact .inl ⟨z,y⟩
      ·exact .inr ⟨z,y⟩)
 have e0:(List.range n).filter (fun k=>decide (lst ls B k=k))=zbl ls B n:=rfl
 rw [e0] at f1
 generalize (zbl ls B n).map (cls ls B n)=ps at *
 refine yT (e:=mk ps M x5 x6) [some (flV w h F),some (.lst (B.map PV.int)),none,none,none,none,none] rfl ?_
 unfold zbh
 rw [zF (z8 (as:=[flV w h F,.lst (B.map PV.int)]) rfl hbs)]
 rw [zF (e:=[some (flV w h F),some (.lst (B.map PV.int)),some (.lst ((yU ls B).map zv)),some (kC []),none,none,none]) rfl]
 rw [zF (e:=mk [] [] none none) rfl]
 have hr:u8 (zC (zJ yo (zC (zJ zq (zC (zA 0) zI)) zI)) zI) (mk [] [] none none)=some (j9 0 n):=by
  refine zcN (j:=((n:Nat):Int)) ?_ (by omega) (by omega)
  rw [zS,hsl _ rfl];rfl
 rw [zF (e:=mk ps M x5 x6) (by rw [yi,hr,Option.bind_some];exact f1)]
 rfl
theorem zgL{w h:Int}{F:List Int}{rs cs:List (Int × Nat)}{L0:List Int}{G:Int->PV}(S:Strips w h F rs cs)(C:Cross w h F (zn w rs cs) L0 G)(hs:zq [flV w h F]=some (.lst ((jC w rs cs).map zp))){B:List Int}(hB:∀ f ∈ B,f ∈ F)(hl:B.length≤1000):
  ∃ ps:List (List Int),wn [flV w h F,.lst (B.map PV.int)]=some (kC ps)/\(∀ p ∈ ps,Piece (zn w rs cs) B (rs.length+cs.length) p)/\∀ k:Nat,k<rs.length+cs.length->∃ p ∈ ps,(k:Int) ∈ p:=by
 have hrc:∀ f ∈ B,(rc (zn w rs cs) f).1<rs.length+cs.length/\(rc (zn w rs cs) f).2<rs.length+cs.length:=fun f hf=>by
  obtain ⟨_,q1,q2,q3⟩:=S.rc_of (hB f hf)
  omega
 refine ⟨_,zgM S C hs hB hl,fun p hp=>?_,fun k hk=>?_⟩
 ·obtain ⟨k,hk,rfl⟩:=List.mem_map.mp hp
  obtain ⟨k1,k2⟩:=mem_firsts.mp hk
  refine ⟨fun s hs'=>(mem_cls.mp hs').1,fun z=>?_,cls_rise.imp fun z=>Int.le_of_lt z,k,fun s=>?_⟩
  ·have:(k:Int) ∈ cls (zn w rs cs) B (rs.length+cs.length) k:=mem_cls.mpr ⟨mem_univ.mpr (by omega),k2⟩
   rw [z] at this;cases this
  ·rw [mem_cls,mem_univ]
   constructor
   ·rintro ⟨z1,z2⟩
    exact ⟨s.toNat,by omega,lst_iff.mp (by rw [z2,k2])⟩
   ·rintro ⟨t,rfl,z⟩
    have:=z.lt hrc k1
    refine ⟨by omega,?_⟩
    show lst _ _ t=k
    rw [← lst_iff.mpr z,k2]
 ·refine ⟨_,List.mem_map.mpr ⟨lst (zn w rs cs) B k,mem_firsts.mpr ⟨?_,zed _ _ _⟩,rfl⟩,mem_cls.mpr ⟨mem_univ.mpr (by omega),rfl⟩⟩
  have:=ziv (zn w rs cs) B k
  omega
theorem Piece.first{ls:List (List Int)}{B:List Int}{n:Nat}{x:Int}{r:List Int}(p:Piece ls B n (x::r)){t:Nat}(ht:(t:Int) ∈ x::r):x=(lst ls B t:Nat):=by
 obtain ⟨k,hk⟩:=p.mem
 obtain ⟨t0,e0,c0⟩:=(hk x).mp List.mem_cons_self
 obtain ⟨t1,e1,c1⟩:=(hk t).mp ht
 have:t1=t:=by omega
 subst this
 have hl:Least ls B t1 t0:=⟨c1.symm.trans c0,fun u hu=>by
  have hum:(u:Int) ∈ x::r:=(hk u).mpr ⟨u,rfl,c1.trans hu⟩
  rcases List.mem_cons.mp hum with z | z
  ·omega
  ·have:=(List.pairwise_cons.mp p.rise).1 _ z
   omega⟩
 rw [zlY hl,e0]
theorem zgY{w h:Int}{F:List Int}{rs cs:List (Int × Nat)}{L0:List Int}{G:Int->PV}(S:Strips w h F rs cs)(C:Cross w h F (zn w rs cs) L0 G)(hs:zq [flV w h F]=some (.lst ((jC w rs cs).map zp))){B:List Int}(hB:∀ f ∈ B,f ∈ F)(hl:B.length≤1000):
  ∃ L Z,jh [flV w h F,.lst (B.map PV.int)]=some (dF L Z)/\(∀ k:Nat,k<rs.length+cs.length->(k:Int) ∈ L/\Z k=.int (lst (zn w rs cs) B k:Nat))/\L.Nodup/\∀ s ∈ L,s ∈ jr (rs.length+cs.length):=by
 have few:=S.few
 obtain ⟨ps,h1,h2,h3⟩:=zgL S C hs hB hl
 generalize hn:rs.length+cs.length=n at *
 generalize zn w rs cs=ls at *
 let mk:List Int->(Int->PV)->Option PV->Option PV->En:=fun L Z x3 x4=>[some (flV w h F),some (.lst (B.map PV.int)),some (dF L Z),x3,x4]
 obtain ⟨e,f1,L,Z,x3,x4,rfl,q1,q2,q3⟩:=yh (b:=zP 3) (g:=kK) (xs:=ps) (hh:=fun p=>PV.lst (p.map PV.int)) (env:=mk [] (fun _=>.non) none none)
  (fun pre e=>∃ L Z x3 x4,e=mk L Z x3 x4/\(L.Nodup/\∀ s ∈ L,s ∈ jr n)/\(∀ t:Nat,(t:Int) ∈ L->Z t=.int (lst ls B t:Nat))/\∀ p ∈ pre,∀ s ∈ p,s ∈ L)
  ⟨[],_,none,none,rfl,by simp,by simp,by simp⟩ (by
   rintro pre p post e hp ⟨L,Z,x3,x4,rfl,q1,q2,q3⟩
   have pp:=h2 p (by rw [hp];simp)
   obtain ⟨x,r,rfl⟩:∃ x r,p=x::r:=by
    cases p with
    | nil=>exact absurd rfl pp.ne
    | cons x r=>exact ⟨x,r,rfl⟩
   obtain ⟨e',g1,L',Z',x4',rfl,t1,t2,t3⟩:=yh (b:=zP 4) (g:=kL) (xs:=x::r) (hh:=PV.int) (env:=mk L Z (some (.lst ((x::r).map PV.int))) x4)
    (fun q e=>∃ L' Z' x4,e=mk L' Z' (some (.lst ((x::r).map PV.int))) x4/\(L'.Nodup/\∀ s ∈ L',s ∈ jr n)/\(∀ t:Nat,(t:Int) ∈ L'->Z' t=.int (lst ls B t:Nat))/\∀ s,(s ∈ L∨s ∈ q)->s ∈ L')
    ⟨L,Z,x4,rfl,q1,q2,by simp⟩ (by
     rintro q s post e hq ⟨L',Z',x4,rfl,t1,t2,t3⟩
     have hsp:s ∈ x::r:=by rw [hq];simp
     have hsu:=pp.sub s hsp
     have hLl:L'.length≤n:=by
      have:=zL L' _ t1.1 t1.2
      rwa [uI] at this
     have hD:kP L' Z':=fun y hy=>by
      have:=mem_univ.mp (t1.2 y hy)
      have e:=t2 y.toNat (by rwa [show ((y.toNat:Nat):Int)=y by omega])
      rw [show ((y.toNat:Nat):Int)=y by omega] at e
      rw [e];rfl
     have hput:=zaG (p:=s) (q:=.int x) hD rfl (show L'.length<100000 by omega)
     refine ⟨_,mk (if s ∈ L' then L' else L'++[s]) (upF Z' s (.int x)) (some (.lst ((x::r).map PV.int))) (some (.int s)),rfl,.inl ?_,_,_,_,rfl,⟨?_,?_⟩,?_,?_⟩
     ·unfold kL vY
      simp only [mk,yA,zjr,qf,zfq,List.map_cons,List.getElem?_cons_succ,List.getElem?_cons_zero,List.set_cons_succ,List.set_cons_zero,Option.join_some,Option.bind_some,ziH,zgo,hput,Option.map_some]
     ·split
      ·exact t1.1
      ·rename_i hns
       exact List.nodup_append.mpr ⟨t1.1,by simp,fun a ha b hb hab=>hns (by rw [List.mem_singleton.mp hb] at hab;exact hab ▸ ha)⟩
     ·intro y hy
      split at hy
      ·exact t1.2 y hy
      ·rcases List.mem_append.mp hy with hy | hy
       ·exact t1.2 y hy
       ·rw [List.mem_singleton.mp hy];exact hsu
     ·intro t ht
      by_cases e:(t:Int)=s
      ·rw [e,xj]
       have htp:(t:Int) ∈ x::r:=by rw [e];exact hsp
       rw [pp.first htp]
      ·rw [vf e]
       refine t2 t ?_
       split at ht
       ·exact ht
       ·exact (List.mem_append.mp ht).resolve_right fun z=>e (List.mem_singleton.mp z)
     ·intro y hy
      have:y ∈ L'∨y=s:=by
       rcases hy with hy | hy
       ·exact .inl (t3 y (.inl hy))
       ·rcases List.mem_append.mp hy with hy | hy
        ·exact .inl (t3 y (.inr hy))
        ·exact .inr (List.mem_singleton.mp hy)
      split
      ·rename_i hsL
       exact this.elim id fun z=>z ▸ hsL
      ·exact List.mem_append.mpr (this.imp id List.mem_singleton.mpr))
   refine ⟨_,mk L' Z' (some (.lst ((x::r).map PV.int))) x4',rfl,.inl ?_,_,_,_,_,rfl,t1,t2,fun p' hp' s hs'=>?_⟩
   ·unfold kK
    rw [yi]
    exact g1
   ·rcases List.mem_append.mp hp' with hp' | hp'
    ·exact t3 s (.inl (q3 p' hp' s hs'))
    ·rw [List.mem_singleton.mp hp'] at hs'
     exact t3 s (.inr hs'))
 refine ⟨L,Z,?_,fun k hk=>?_,q1⟩
 ·refine yT (e:=mk L Z x3 x4) [some (flV w h F),some (.lst (B.map PV.int)),none,none,none] rfl ?_
  unfold zbi
  rw [zF (e:=mk [] (fun _=>.non) none none) rfl]
  have hc:zY (zJ wn (zC (zA 0) (zC (zA 1) zI))) (mk [] (fun _=>.non) none none)=some (ps.map fun p=>PV.lst (p.map PV.int)):=by
   rw [xX,zT (as:=[flV w h F,.lst (B.map PV.int)]) rfl h1];rfl
  rw [zF (e:=mk L Z x3 x4) (by rw [yi,hc,Option.bind_some];exact f1)]
  rfl
 ·obtain ⟨p,hp,hkp⟩:=h3 k hk
  have:=q3 p hp _ hkp
  exact ⟨this,q2 k this⟩
section
variable {T T':List Int} {p:Nat × Nat} {n k:Nat} {ls:List (List Int)} {B B':List Int} {f:Int} {a b:Nat}
noncomputable def mrg(T:List Int)(p:Nat × Nat):List Int:=T.map fun x=>if x=T.getD p.2 0 then T.getD p.1 0 else x
theorem zkq:(mrg T p).length=T.length:=by simp [mrg]
theorem ziR{T:List Int}{k:Nat}(h:k<T.length):T.getD k 0 ∈ T:=by
 have:T.getD k 0=T[k]:=by simp [List.getD,h]
 rw [this];exact List.getElem_mem h
theorem ziu{T:List Int}{x:Int}(h:x ∈ T):∃ k,k<T.length/\T.getD k 0=x:=by
 obtain ⟨k,hk,e⟩:=List.getElem_of_mem h
 exact ⟨k,hk,by simp [List.getD,hk,e]⟩
theorem zis(h:k<T.length):(mrg T p).getD k 0=if T.getD k 0=T.getD p.2 0 then T.getD p.1 0 else T.getD k 0:=by
 unfold mrg
 have e:T.getD k 0=T[k]:=by simp [List.getD,h]
 rw [e]
 simp [List.getD,h]
theorem zgA{T l:List Int}(nd:l.Nodup)(hm:∀ k,k ∈ l ↔ k ∈ T):uU T=l.length:=by
 obtain ⟨l',h1,h2,h3⟩:=zbY T
 have a:=zcp l l' nd fun x hx=>(h2 x).mpr ((hm x).mp hx)
 have b:=zcp l' l h1 fun x hx=>(hm x).mpr ((h2 x).mp hx)
 omega
theorem zll(hn:0<T.length)(h:∀ a,a<T.length->T.getD a 0=T.getD 0 0):uU T=1:=by
 refine zgA (l:=[T.getD 0 0]) (by simp) fun k=>?_
 rw [List.mem_singleton]
 constructor
 ·rintro rfl;exact ziR hn
 ·intro hk
  obtain ⟨i,hi,e⟩:=ziu hk
  rw [← e,h i hi]
theorem Con.mono(h:Con ls B a b)(hs:∀ f ∈ B,f ∈ B'):Con ls B' a b:=by
 induction h with
 | refl=>exact .refl
 | step _ hf e ih=>exact .step ih (hs _ hf) e
noncomputable def Rg(ls:List (List Int))(n:Nat)(f:Int):Prop:=(rc ls f).1<n/\(rc ls f).2<n
noncomputable def Pat(ls:List (List Int))(B:List Int)(n:Nat)(T:List Int):Prop:=T.length=n/\∀ a b,a<n->b<n->(T.getD a 0=T.getD b 0 ↔ Con ls B a b)
theorem Pat.step(h:Pat ls B n T)(hB:∀ g ∈ B,Rg ls n g)(hf:Rg ls n f):Pat ls (B++[f]) n (mrg T (rc ls f)):=by
 obtain ⟨hl,hp⟩:=h
 have hfc:Con ls (B++[f]) (rc ls f).1 (rc ls f).2:=.step .refl (by simp) (.inl rfl)
 have mono:∀ {a b},Con ls B a b->Con ls (B++[f]) a b:=fun h=>h.mono fun g hg=>List.mem_append_left _ hg
 refine ⟨by rw [zkq,hl],fun a b ha hb=>?_⟩
 have key:∀ x,x<n->(mrg T (rc ls f)).getD x 0=if T.getD x 0=T.getD (rc ls f).2 0 then T.getD (rc ls f).1 0 else T.getD x 0:=fun x hx=>zis (by omega)
 constructor
 ·rw [key a ha,key b hb]
  by_cases ea:T.getD a 0=T.getD (rc ls f).2 0
  ·by_cases eb:T.getD b 0=T.getD (rc ls f).2 0
   ·intro _
    exact mono ((hp a b ha hb).mp (ea.trans eb.symm))
   ·rw [if_pos ea,if_neg eb]
    intro e
    exact (mono ((hp a _ ha hf.2).mp ea)).trans (hfc.symm.trans (mono ((hp _ b hf.1 hb).mp e)))
  ·by_cases eb:T.getD b 0=T.getD (rc ls f).2 0
   ·rw [if_neg ea,if_pos eb]
    intro e
    exact (mono ((hp a _ ha hf.1).mp e)).trans (hfc.trans (mono ((hp _ b hf.2 hb).mp eb.symm)))
   ·rw [if_neg ea,if_neg eb]
    intro e
    exact mono ((hp a b ha hb).mp e)
 ·intro h
  have go:∀ {b},Con ls (B++[f]) a b->b<n->(mrg T (rc ls f)).getD a 0=(mrg T (rc ls f)).getD b 0:=by
   intro b h
   clear hb
   induction h with
   | refl=>intro _;rfl
   | @step b e g hc hg he ih=>
    intro hen
    have hbe:b<n/\(mrg T (rc ls f)).getD b 0=(mrg T (rc ls f)).getD e 0:=by
     rcases List.mem_append.mp hg with hg | hg
     ·have hgr:=hB g hg
      have hbn:b<n:=by
       obtain ⟨q1,q2⟩:=hgr
       rcases he with z | z<;>(rw [z] at q1 q2;assumption)
      have:T.getD b 0=T.getD e 0:=(hp b e hbn hen).mpr (.step .refl hg he)
      exact ⟨hbn,by rw [key b hbn,key e hen,this]⟩
     ·have:=List.mem_singleton.mp hg
      subst this
      rw [key e hen]
      rcases he with z | z
      ·obtain ⟨q1,q2⟩:=hf
       rw [z] at q1 q2 key ⊢
       refine ⟨q1,?_⟩
       rw [key b q1,if_pos rfl]
       split<;>rfl
      ·obtain ⟨q1,q2⟩:=hf
       rw [z] at q1 q2 key ⊢
       refine ⟨q2,?_⟩
       rw [key b q2,if_pos rfl]
       split<;>rfl
    rw [ih hbe.1,hbe.2]
  exact go h hb
noncomputable def tm(ls:List (List Int))(n:Nat)(B:List Int):List Int:=B.foldl (fun T f=>mrg T (rc ls f)) (jr n)
end
structure Lack (ls:List (List Int)) (B F D:List Int) (n:Nat):Prop where
 sub:D.Sublist F
 out:∀ f ∈ D,f ∉ B
 len:D.length+1=uU (tm ls n B)
 all:uU (tm ls n (B++D))=1
 one:∀ f ∈ D,uU (tm ls n (B++D.filter fun g=>!decide (g=f)))=2
noncomputable def vd:FS:=(y7 (fT (fOp vEq (fOp vIx (zA 3) (zA 9)) (zA 8))) (vY 3 (zA 9) (zA 7)) fNx)
noncomputable def vc:FS:=(zU (zh 7 (zm (fOp vIx (zA 3) (fOp vIx (fOp vIx (zA 4) (zA 6)) (fC (.int 0))))))
 (zU (zh 8 (zm (fOp vIx (zA 3) (fOp vIx (fOp vIx (zA 4) (zA 6)) (fC (.int 1))))))
 (y7 (fT (fOp vNe (zA 7) (zA 8))) (zU (zt 5 (zm (zA 6)))
 (xu (zY (zJ xH (zC (zA 3) zI))) (zP 9) vd)) fNx)))
noncomputable def qY:FS:=(zU (zh 3 (zJ jh (zC (zA 0) (zC (zA 1) zI))))
 (zU (zh 4 (zJ yQ (zC (zA 0) zI)))
 (zU (zh 5 (xA zI))
 (zU (xu (zY (zA 2)) (zP 6) vc)
 (yM (zA 5))))))
noncomputable def uR:List PV->Option PV:=fnV 10 qY
theorem zkr{L:List Int}{Z:Int->PV}:xH [dF L Z]=some (.lst (L.map PV.int)):=by
 unfold dF xH;dsimp only;rw [List.map_map];rfl
theorem zeY{w h:Int}{F:List Int}{rs cs:List (Int × Nat)}{L0:List Int}{G:Int->PV}(S:Strips w h F rs cs)(C:Cross w h F (zn w rs cs) L0 G)(hs:zq [flV w h F]=some (.lst ((jC w rs cs).map zp))){B:List Int}(hB:∀ f ∈ B,f ∈ F)(hl:B.length≤1000){Fs:List Int}{src:PV}(hsrc:wW src=some (Fs.map PV.int))(hFs:∀ f ∈ Fs,f ∈ F)(hFl:Fs.length≤900):
  ∃ D:List Int,uR [flV w h F,.lst (B.map PV.int),src]=some (.lst (D.map PV.int))/\D.Sublist Fs/\(∀ f ∈ Fs,Con (zn w rs cs) (B++D) (rc (zn w rs cs) f).1 (rc (zn w rs cs) f).2)/\∀ f r,D=f::r->¬ Con (zn w rs cs) B (rc (zn w rs cs) f).1 (rc (zn w rs cs) f).2:=by
 have few:=S.few
 have hpos:=S.ne
 obtain ⟨L,Z,h1,h2,nd,sub⟩:=zgY S C hs hB hl
 have rF:∀ f ∈ F,Rg (zn w rs cs) (rs.length+cs.length) f:=fun f hf=>by
  obtain ⟨q0,q1,q2,q3⟩:=S.rc_of hf
  exact ⟨by omega,q3⟩
 have hcr:∀ f ∈ F,vIx (dF L0 G) (.int f)=some (.tup [.int ((rc (zn w rs cs) f).1:Nat),.int ((rc (zn w rs cs) f).2:Nat)]):=fun f hf=>C.ix hf (S.rc_of hf).1
 have hC:=C.val
 generalize hn:rs.length+cs.length=n at *
 generalize zn w rs cs=ls at *
 have hLl:L.length≤n:=by
  have:=zL L _ nd sub
  rwa [uI] at this
 have rB:∀ f ∈ B,Rg ls n f:=fun f hf=>rF f (hB f hf)
 generalize hT0:((List.range n).map fun (k:Nat)=>((lst ls B k:Nat):Int))=T0
 have at0:∀ k,k<n->T0.getD k 0=((lst ls B k:Nat):Int):=fun k hk=>by rw [← hT0];simp [List.getD,hk]
 have pat0:Pat ls B n T0:=by
  refine ⟨by rw [← hT0];simp,fun a b ha hb=>?_⟩
  rw [at0 a ha,at0 b hb,← lst_iff]
  omega
 let mk:(Int->PV)->List Int->Option PV->Option PV->Option PV->Option PV->En:=fun Z D x6 x7 x8 x9=>[some (flV w h F),some (.lst (B.map PV.int)),some src,some (dF L Z),some (dF L0 G),some (.lst (D.map PV.int)),x6,x7,x8,x9]
 obtain ⟨e,f1,Z1,T,D,x6,x7,x8,x9,rfl,p1,p2,p3,p4,p6⟩:=yh (b:=zP 6) (g:=vc) (xs:=Fs) (hh:=PV.int) (env:=mk Z [] none none none none)
  (fun pre e=>∃ Z1 T D x6 x7 x8 x9,e=mk Z1 D x6 x7 x8 x9/\Pat ls (B++D) n T/\(∀ k:Nat,k<n->Z1 k=.int (T.getD k 0))/\D.Sublist pre/\(∀ f r,D=f::r->¬ Con ls B (rc ls f).1 (rc ls f).2)/\∀ f ∈ pre,Con ls (B++D) (rc ls f).1 (rc ls f).2)
  ⟨Z,T0,[],none,none,none,none,rfl,by rw [List.append_nil];exact pat0,fun k hk=>by rw [at0 k hk];exact (h2 k hk).2,.slnil,by simp,by simp⟩ (by
   rintro pre f post e hp ⟨Z1,T,D,x6,x7,x8,x9,rfl,p1,p2,p3,p4,p6⟩
   have hf:f ∈ F:=hFs f (by rw [hp];simp)
   have hpl:pre.length<1000:=by
    have:=congrArg List.length hp
    rw [List.length_append,List.length_cons] at this;omega
   have hDl:D.length<1000:=Nat.lt_of_le_of_lt p3.length_le hpl
   have hcf:=hcr f hf
   have hrg:=rF f hf
   have hDs:∀ g ∈ D,g ∈ F:=fun g hg=>hFs g (by rw [hp];exact List.mem_append_left _ (p3.subset hg))
   have rBD:∀ g ∈ B++D,Rg ls n g:=fun g hg=>(List.mem_append.mp hg).elim (rB g) fun z=>rF g (hDs g z)
   have hTl:=p1.1
   have stp:=p1.step rBD hrg
   have hcon:=(p1.2 _ _ hrg.1 hrg.2)
   have hma:∀ k,k<n->(mrg T (rc ls f)).getD k 0=if T.getD k 0=T.getD (rc ls f).2 0 then T.getD (rc ls f).1 0 else T.getD k 0:=fun k hk=>zis (by omega)
   have i1:=jz (G:=Z1) (h2 _ hrg.1).1
   have i2:=jz (G:=Z1) (h2 _ hrg.2).1
   rw [p2 _ hrg.1] at i1
   rw [p2 _ hrg.2] at i2
   have hff:Con ls (B++(D++[f])) (rc ls f).1 (rc ls f).2:=.step .refl (f:=f) (by simp) (.inl rfl)
   generalize hr1:(rc ls f).1=r at *
   generalize hc1:(rc ls f).2=c at *
   generalize T.getD r 0=u at *
   generalize T.getD c 0=v at *
   have s1:zh 7 (zm (fOp vIx (zA 3) (fOp vIx (fOp vIx (zA 4) (zA 6)) (fC (.int 0))))) (mk Z1 D (some (.int f)) x7 x8 x9)=some (.nx (mk Z1 D (some (.int f)) (some (.int u)) x8 x9)):=by simp [mk,hcf,i1]
   have s2:zh 8 (zm (fOp vIx (zA 3) (fOp vIx (fOp vIx (zA 4) (zA 6)) (fC (.int 1))))) (mk Z1 D (some (.int f)) (some (.int u)) x8 x9)=some (.nx (mk Z1 D (some (.int f)) (some (.int u)) (some (.int v)) x9)):=by simp [mk,hcf,i2]
   have ht:fT (fOp vNe (zA 7) (zA 8)) (mk Z1 D (some (.int f)) (some (.int u)) (some (.int v)) x9)=some (!decide (u=v)):=by simp [mk]
   by_cases huv:u=v
   ·refine ⟨mk Z1 D (some (.int f)) x7 x8 x9,mk Z1 D (some (.int f)) (some (.int u)) (some (.int v)) x9,rfl,.inl ?_,Z1,T,D,_,_,_,_,rfl,p1,p2,p3.trans (List.sublist_append_left _ _),p4,fun g hg=>?_⟩
    ·unfold vc
     rw [zF s1,zF s2,zr,ht,decide_eq_true huv,Option.bind_some,Bool.not_true,if_neg Bool.false_ne_true];rfl
    ·rcases List.mem_append.mp hg with hg | hg
     ·exact p6 g hg
     ·rw [List.mem_singleton.mp hg,hr1,hc1]
      exact hcon.mp huv
   ·obtain ⟨e,g1,Z2,y9,rfl,hz⟩:=yh (b:=zP 9) (g:=vd) (xs:=L) (hh:=PV.int) (env:=mk Z1 (D++[f]) (some (.int f)) (some (.int u)) (some (.int v)) x9)
     (fun q e=>∃ Z2 y9,e=mk Z2 (D++[f]) (some (.int f)) (some (.int u)) (some (.int v)) y9/\∀ k:Nat,k<n->((k:Int) ∈ q->Z2 k=.int (if T.getD k 0=v then u else T.getD k 0))/\((k:Int) ∉ q->Z2 k=.int (T.getD k 0)))
     ⟨Z1,x9,rfl,fun k hk=>⟨fun z=>(nomatch z),fun _=>p2 k hk⟩⟩ (by
      rintro q s post' e hq ⟨Z2,y9,rfl,hz⟩
      have hsL:s ∈ L:=by rw [hq];simp
      have hsu:=mem_univ.mp (sub s hsL)
      obtain ⟨k,rfl⟩:∃ k:Nat,s=k:=⟨s.toNat,by omega⟩
      have hk:k<n:=by omega
      have hnq:(k:Int) ∉ q:=fun z=>by
       rw [hq] at nd
       exact (List.nodup_append.mp nd).2.2 _ z _ List.mem_cons_self rfl
      have hzk:=(hz k hk).2 hnq
      have j1:=jz (G:=Z2) hsL
      rw [hzk] at j1
      have hD:kP L Z2:=fun y hy=>by
       have:=mem_univ.mp (sub y hy)
       obtain ⟨j,rfl⟩:∃ j:Nat,y=j:=⟨y.toNat,by omega⟩
       by_cases hj:(j:Int) ∈ q
       ·rw [(hz j (by omega)).1 hj];rfl
       ·rw [(hz j (by omega)).2 hj];rfl
      have hput:=zaG (p:=(k:Int)) (q:=.int u) hD rfl (show L.length<100000 by omega)
      rw [if_pos hsL] at hput
      have ht2:fT (fOp vEq (fOp vIx (zA 3) (zA 9)) (zA 8)) (mk Z2 (D++[f]) (some (.int f)) (some (.int u)) (some (.int v)) (some (.int (k:Int))))=some (decide (T.getD k 0=v)):=by
       have hv3:zA 3 (mk Z2 (D++[f]) (some (.int f)) (some (.int u)) (some (.int v)) (some (.int (k:Int))))=some (dF L Z2):=rfl
       have hv9:zA 9 (mk Z2 (D++[f]) (some (.int f)) (some (.int u)) (some (.int v)) (some (.int (k:Int))))=some (.int (k:Int)):=rfl
       have hv8:zA 8 (mk Z2 (D++[f]) (some (.int f)) (some (.int u)) (some (.int v)) (some (.int (k:Int))))=some (.int v):=rfl
       rw [jg,yA,yA,hv3,hv9,hv8,Option.bind_some,Option.bind_some,j1,Option.bind_some,Option.bind_some,zgg,Option.bind_some,zjp]
      by_cases hv:T.getD k 0=v
      ·refine ⟨mk Z2 (D++[f]) (some (.int f)) (some (.int u)) (some (.int v)) (some (.int (k:Int))),mk (upF Z2 k (.int u)) (D++[f]) (some (.int f)) (some (.int u)) (some (.int v)) (some (.int (k:Int))),rfl,.inl ?_,_,_,rfl,fun j hj=>?_⟩
       ·unfold vd
        rw [zr,ht2,decide_eq_true hv,Option.bind_some,if_pos rfl]
        simp only [mk,vY,qf,List.getElem?_cons_succ,List.getElem?_cons_zero,Option.join_some,Option.bind_some,hput,Option.map_some]
        rfl
       ·by_cases hjk:j=k
        ·subst hjk
         refine ⟨fun _=>by rw [xj,if_pos hv],fun z=>absurd (by simp) z⟩
        ·have hne:(j:Int)≠k:=by omega
         rw [vf hne]
         refine ⟨fun z=>(hz j hj).1 ?_,fun z=>(hz j hj).2 fun y=>z (List.mem_append_left _ y)⟩
         exact (List.mem_append.mp z).resolve_right fun y=>hne (List.mem_singleton.mp y)
      ·refine ⟨mk Z2 (D++[f]) (some (.int f)) (some (.int u)) (some (.int v)) (some (.int (k:Int))),mk Z2 (D++[f]) (some (.int f)) (some (.int u)) (some (.int v)) (some (.int (k:Int))),rfl,.inl ?_,_,_,rfl,fun j hj=>?_⟩
       ·unfold vd
        rw [zr,ht2,decide_eq_false hv,Option.bind_some,if_neg Bool.false_ne_true];rfl
       ·by_cases hjk:j=k
        ·subst hjk
         refine ⟨fun _=>by rw [hzk,if_neg hv],fun z=>absurd (by simp) z⟩
        ·have hne:(j:Int)≠k:=by omega
         refine ⟨fun z=>(hz j hj).1 ?_,fun z=>(hz j hj).2 fun y=>z (List.mem_append_left _ y)⟩
         exact (List.mem_append.mp z).resolve_right fun y=>hne (List.mem_singleton.mp y))
    refine ⟨mk Z1 D (some (.int f)) x7 x8 x9,mk Z2 (D++[f]) (some (.int f)) (some (.int u)) (some (.int v)) y9,rfl,.inl ?_,Z2,mrg T (rc ls f),D++[f],_,_,_,_,rfl,?_,fun k hk=>?_,?_,fun g r' e=>?_,fun g hg=>?_⟩
    ·unfold vc
     rw [zF s1,zF s2,zr,ht,decide_eq_false huv,Option.bind_some,Bool.not_false,if_pos rfl]
     have hap:zt 5 (zm (zA 6)) (mk Z1 D (some (.int f)) (some (.int u)) (some (.int v)) x9)=some (.nx (mk Z1 (D++[f]) (some (.int f)) (some (.int u)) (some (.int v)) x9)):=by
      simp [mk,zt,show D.length<100000 by omega]
     rw [zF hap]
     have hsq:zY (zJ xH (zC (zA 3) zI)) (mk Z1 (D++[f]) (some (.int f)) (some (.int u)) (some (.int v)) x9)=some (L.map PV.int):=by
      rw [xX,zT (as:=[dF L Z1]) rfl zkr];rfl
     rw [yi,hsq,Option.bind_some]
     exact g1
    ·rw [← List.append_assoc];exact stp
    ·rw [(hz k hk).1 (h2 k hk).1,hma k hk]
    ·exact p3.append (List.Sublist.refl _)
    ·cases D with
     | nil=>
      cases e
      rw [hr1,hc1]
      exact fun z=>huv (hcon.mpr (by rw [List.append_nil];exact z))
     | cons d D=>
      cases e
      exact p4 _ _ rfl
    ·rcases List.mem_append.mp hg with hg | hg
     ·exact (p6 g hg).mono fun x hx=>by
       rcases List.mem_append.mp hx with hx | hx<;>simp [hx]
     ·rw [List.mem_singleton.mp hg,hr1,hc1]
      exact hff)
 refine ⟨D,?_,p3,p6,p4⟩
 refine yT (e:=mk Z1 D x6 x7 x8 x9) [some (flV w h F),some (.lst (B.map PV.int)),some src,none,none,none,none,none,none,none] rfl ?_
 unfold qY
 rw [zF (z8 (as:=[flV w h F,.lst (B.map PV.int)]) rfl h1)]
 rw [zF (z8 (as:=[flV w h F]) rfl hC)]
 rw [zF (e:=mk Z [] none none none none) rfl]
 have hsq:zY (zA 2) (mk Z [] none none none none)=some (Fs.map PV.int):=hsrc
 rw [zF (e:=mk Z1 D x6 x7 x8 x9) (by rw [yi,hsq,Option.bind_some];exact f1)]
 rfl
section
variable {ls:List (List Int)} {B B':List Int} {n:Nat} {g:Int}
theorem zdn(hB:∀ f,f ∈ B' ↔ f ∈ B∨f=g){s t:Nat}(h:Con ls B' s t):Con ls B s t∨(Con ls B s (rc ls g).1/\Con ls B (rc ls g).2 t)∨(Con ls B s (rc ls g).2/\Con ls B (rc ls g).1 t):=by
 induction h with
 | refl=>exact .inl .refl
 | step _ hf e ih=>
  rcases (hB _).mp hf with hf | rfl
  ·rcases ih with h | ⟨h1,h2⟩ | ⟨h1,h2⟩
   ·exact .inl (.step h hf e)
   ·exact .inr (.inl ⟨h1,.step h2 hf e⟩)
   ·exact .inr (.inr ⟨h1,.step h2 hf e⟩)
  ·rcases e with e | e<;>rw [e] at ih ⊢
   ·rcases ih with h | ⟨h1,h2⟩ | ⟨h1,h2⟩
    ·exact .inr (.inl ⟨h,.refl⟩)
    ·exact .inr (.inl ⟨h1,.refl⟩)
    ·exact .inl h1
   ·rcases ih with h | ⟨h1,h2⟩ | ⟨h1,h2⟩
    ·exact .inr (.inr ⟨h,.refl⟩)
    ·exact .inl h1
    ·exact .inr (.inr ⟨h1,.refl⟩)
theorem Con.span{F:List Int}(h:∀ f ∈ F,Con ls B (rc ls f).1 (rc ls f).2){s t:Nat}(c:Con ls F s t):Con ls B s t:=by
 induction c with
 | refl=>exact .refl
 | step _ hf e ih=>
  have:=h _ hf
  rcases e with e | e<;>rw [e] at this
  ·exact ih.trans this
  ·exact ih.trans this.symm
end
noncomputable def wo(B:List Int)(f:Int):List Int:=B.filter fun g=>!decide (g=f)
theorem mem_wo{B:List Int}{f g:Int}:g ∈ wo B f ↔ g ∈ B/\g≠f:=by simp [wo]
structure Tree (ls:List (List Int)) (F B:List Int):Prop where
 sub:∀ f ∈ B,f ∈ F
 nd:B.Nodup
 span:∀ f ∈ F,Con ls B (rc ls f).1 (rc ls f).2
 ind:∀ f ∈ B,¬ Con ls (wo B f) (rc ls f).1 (rc ls f).2
section
variable {ls:List (List Int)} {F B O:List Int} {f g:Int}
theorem Tree.lacks(T:Tree ls F B)(U:Tree ls F O)(hf:f ∈ B):∃ g ∈ O,¬ Con ls (wo B f) (rc ls g).1 (rc ls g).2:=by
 refine Classical.byContradiction fun hno=>T.ind f hf ?_
 have h:∀ g ∈ O,Con ls (wo B f) (rc ls g).1 (rc ls g).2:=fun g hg=>Classical.byContradiction fun z=>hno ⟨g,hg,z⟩
 exact Con.span h (U.span f (T.sub f hf))
theorem Tree.swap(T:Tree ls F B)(hf:f ∈ B)(hg:g ∈ F)(hn:¬ Con ls (wo B f) (rc ls g).1 (rc ls g).2):Tree ls F (wo B f++[g]):=by
 have gno:g ∉ wo B f:=fun z=>hn (.step .refl z (.inl rfl))
 have hB:∀ x,x ∈ B ↔ x ∈ wo B f∨x=f:=fun x=>by
  rw [mem_wo]
  constructor
  ·intro z
   by_cases e:x=f
   ·exact .inr e
   ·exact .inl ⟨z,e⟩
  ·rintro (z | rfl)
   ·exact z.1
   ·exact hf
 have mono:∀ {s t:Nat},Con ls (wo B f) s t->Con ls (wo B f++[g]) s t:=fun h=>h.mono fun x hx=>List.mem_append_left _ hx
 have hgg:Con ls (wo B f++[g]) (rc ls g).1 (rc ls g).2:=.step .refl (f:=g) (by simp) (.inl rfl)
 have hff:Con ls (wo B f++[g]) (rc ls f).1 (rc ls f).2:=by
  rcases zdn hB (T.span g hg) with h | ⟨h1,h2⟩ | ⟨h1,h2⟩
  ·exact absurd h hn
  ·exact ((mono h1).symm.trans hgg).trans (mono h2).symm
  ·exact ((mono h2).trans hgg.symm).trans (mono h1)
 refine ⟨fun x hx=>?_,?_,fun x hx=>?_,fun x hx hc=>?_⟩
 ·rcases List.mem_append.mp hx with z | z
  ·exact T.sub x (mem_wo.mp z).1
  ·rw [List.mem_singleton.mp z];exact hg
 ·exact List.nodup_append.mpr ⟨T.nd.filter _,by simp,fun x hx y hy e=>gno (by rw [← List.mem_singleton.mp hy,← e];exact hx)⟩
 ·refine Con.span (F:=B) (fun y hy=>?_) (T.span x hx)
  rcases (hB y).mp hy with z | z
  ·exact .step .refl (f:=y) (List.mem_append_left _ z) (.inl rfl)
  ·rw [z];exact hff
 ·rcases List.mem_append.mp hx with z | z
  ·have hxf:=(mem_wo.mp z)
   have hW:∀ y,y ∈ wo (wo B f++[g]) x ↔ y ∈ wo (wo B f) x∨y=g:=fun y=>by
    rw [mem_wo,mem_wo,List.mem_append,List.mem_singleton]
    constructor
    ·rintro ⟨u | u,v⟩
     ·exact .inl ⟨u,v⟩
     ·exact .inr u
    ·rintro (⟨u,v⟩ | u)
     ·exact ⟨.inl u,v⟩
     ·exact ⟨.inr u,fun e=>gno (by rw [← u,e];exact z)⟩
   have up:∀ {s t:Nat},Con ls (wo (wo B f) x) s t->Con ls (wo B f) s t:=fun h=>h.mono fun y hy=>(mem_wo.mp hy).1
   have hxx:Con ls (wo B f) (rc ls x).1 (rc ls x).2:=.step .refl z (.inl rfl)
   rcases zdn hW hc with h | ⟨h1,h2⟩ | ⟨h1,h2⟩
   ·exact T.ind x hxf.1 (h.mono fun y hy=>mem_wo.mpr ⟨(mem_wo.mp (mem_wo.mp hy).1).1,(mem_wo.mp hy).2⟩)
   ·exact hn (((up h1).symm.trans hxx).trans (up h2).symm)
   ·exact hn (((up h2).trans hxx.symm).trans (up h1))
  ·have e:=List.mem_singleton.mp z
   subst e
   refine hn (hc.mono fun y hy=>?_)
   obtain ⟨u,v⟩:=mem_wo.mp hy
   exact (List.mem_append.mp u).resolve_right fun q=>v (List.mem_singleton.mp q)
theorem Tree.eq(T:Tree ls F B)(U:Tree ls F O)(h:∀ f ∈ B,f ∈ O):∀ f,f ∈ O ↔ f ∈ B:=fun f=>by
 refine ⟨fun hf=>Classical.byContradiction fun hno=>?_,h f⟩
 refine U.ind f hf ((T.span f (U.sub f hf)).mono fun x hx=>mem_wo.mpr ⟨h x hx,fun e=>hno (e ▸ hx)⟩)
end
noncomputable def qW:FS:=(yM (fLC (zY (zA 0)) 1 [1] (zP 0) (fT (fOp vNe (zA 0) (zA 1))) (zm (zA 0))))
noncomputable def wp:List PV->Option PV:=fnV 2 qW
noncomputable def uD:FS:=(zU (zh 6 (zJ wp (zC (zA 3) (zC (zA 5) zI))))
 (zU (zh 7 (fOp vIx (zJ uR (zC (zA 0) (zC (zA 6) (zC (zA 2) zI)))) (fC (.int 0))))
 (zU (zt 4 (xJ (zC (zm (zA 5)) (zC (zm (zA 7)) zI))))
 (zh 3 (fOp yX (zA 6) (xA (zC (zA 7) zI)))))))
noncomputable def jX:FS:=(zU (zh 3 (zJ xH (zC (zA 1) zI)))
 (zU (zh 4 (xA zI))
 (zU (xu (zY (fLC (zY (zA 1)) 1 [2] (zP 0) (fT (fOp z4 (zA 0) (zA 1))) (zm (zA 0)))) (zP 5) uD)
 (yM (zA 4)))))
noncomputable def yP:List PV->Option PV:=fnV 8 jX
theorem zes(B:List Int)(f:Int)(hl:B.length≤1000):wp [.lst (B.map PV.int),.int f]=some (.lst ((wo B f).map PV.int)):=by
 have hc:yO (zP 0) (fT (fOp vNe (zA 0) (zA 1))) (zm (zA 0)) (B.map PV.int) [none,some (.int f)]=some ((wo B f).map PV.int):=
  yd (fun g=>!decide (g=f)) PV.int B fun n _=>⟨_,rfl,by simp,fun _=>by simp⟩
 simp [wp,fnV,qW,show B.length≤100000 by omega,cE,hc]
noncomputable def y8(p:Int × Int):PV:=.tup [.int p.1,.int p.2]
noncomputable def yI(now:List Int)(ps:List (Int × Int)):List Int:=ps.foldl (fun b p=>wo b p.1++[p.2]) now
theorem wF{now:List Int}{ps:List (Int × Int)}{p:Int × Int}:yI now (ps++[p])=wo (yI now ps) p.1++[p.2]:=by simp [yI]
structure Exch (ls:List (List Int)) (F One Oth:List Int) (pre:List Int) (ps:List (Int × Int)):Prop where
 outs:ps.map (·.1)=pre
 walk:∀ a p b,ps=a++p::b->p.1 ∈ yI One a/\p.2 ∉ yI One a/\¬ Con ls (wo (yI One a) p.1) (rc ls p.2).1 (rc ls p.2).2
 tree:Tree ls F (yI One ps)
 inn:∀ x ∈ yI One ps,x ∈ Oth∨x ∈ One/\x ∉ pre
 old:∀ x ∈ One,x ∉ pre->x ∈ yI One ps
 comes:∀ p ∈ ps,p.2 ∈ Oth/\p.2 ∉ One/\p.2 ∈ yI One ps
 nd:(ps.map (·.2)).Nodup
theorem Exch.step{ls:List (List Int)}{F One Oth pre:List Int}{ps:List (Int × Int)}(E:Exch ls F One Oth pre ps)(T:Tree ls F One)(U:Tree ls F Oth){o c:Int}(ho:o ∈ One)(hno:o ∉ Oth)(hp:o ∉ pre)(hpo:∀ x ∈ pre,x ∈ One/\x ∉ Oth)(hc:c ∈ Oth)(hn:¬ Con ls (wo (yI One ps) o) (rc ls c).1 (rc ls c).2):Exch ls F One Oth (pre++[o]) (ps++[(o,c)]):=by
 have hoe:=E.old o ho hp
 have hco:c≠o:=fun e=>hno (e ▸ hc)
 have hcw:c ∉ wo (yI One ps) o:=fun z=>hn (.step .refl z (.inl rfl))
 have hce:c ∉ yI One ps:=fun z=>hcw (mem_wo.mpr ⟨z,hco⟩)
 have hcn:c ∉ One:=fun z=>hce (E.old c z fun y=>(hpo c y).2 hc)
 refine ⟨by rw [List.map_append,E.outs];rfl,fun a p b e=>?_,?_,fun x hx=>?_,fun x hx hxp=>?_,fun p hp'=>?_,?_⟩
 ·rcases List.eq_nil_or_concat b with rfl | ⟨b',q,rfl⟩
  ·obtain ⟨e1,e2⟩:=List.append_inj' e rfl
   cases e2
   subst e1
   exact ⟨hoe,hce,hn⟩
  ·rw [List.concat_eq_append,← List.cons_append,← List.append_assoc] at e
   exact E.walk a p b' (List.append_inj' e rfl).1
 ·rw [wF]
  exact E.tree.swap hoe (U.sub c hc) hn
 ·rw [wF] at hx
  rcases List.mem_append.mp hx with z | z
  ·obtain ⟨z1,z2⟩:=mem_wo.mp z
   rcases E.inn x z1 with y | ⟨y1,y2⟩
   ·exact .inl y
   ·exact .inr ⟨y1,fun q=>(List.mem_append.mp q).elim y2 fun r=>z2 (List.mem_singleton.mp r)⟩
  ·rw [List.mem_singleton.mp z];exact .inl hc
 ·rw [wF]
  refine List.mem_append_left _ (mem_wo.mpr ⟨E.old x hx fun z=>hxp (List.mem_append_left _ z),fun e=>hxp ?_⟩)
  rw [e];simp
 ·rw [wF]
  rcases List.mem_append.mp hp' with z | z
  ·obtain ⟨y1,y2,y3⟩:=E.comes p z
   exact ⟨y1,y2,List.mem_append_left _ (mem_wo.mpr ⟨y3,fun e=>hno ((show p.2=o from e) ▸ y1)⟩)⟩
  ·rw [List.mem_singleton.mp z]
   exact ⟨hc,hcn,by simp⟩
 ·rw [List.map_append]
  refine List.nodup_append.mpr ⟨E.nd,by simp,fun x hx y hy e=>?_⟩
  obtain ⟨p,hp1,rfl⟩:=List.mem_map.mp hx
  have:=(E.comes p hp1).2.2
  rw [e,show y=c by simpa using hy] at this
  exact hce this
theorem uy{w h:Int}{F:List Int}{rs cs:List (Int × Nat)}{L0:List Int}{G:Int->PV}(S:Strips w h F rs cs)(C:Cross w h F (zn w rs cs) L0 G)(hs:zq [flV w h F]=some (.lst ((jC w rs cs).map zp)))(hFl:F.length≤36){One Oth:List Int}(T:Tree (zn w rs cs) F One)(U:Tree (zn w rs cs) F Oth):
  ∃ ps:List (Int × Int),yP [flV w h F,.lst (One.map PV.int),.lst (Oth.map PV.int)]=some (.lst (ps.map y8))/\Exch (zn w rs cs) F One Oth (One.filter fun f=>!decide (f ∈ Oth)) ps:=by
 have tl:∀ {B},Tree (zn w rs cs) F B->B.length≤36:=fun t=>Nat.le_trans (zL _ _ t.nd t.sub) hFl
 have hj:∀ {B:List Int},(∀ f ∈ B,f ∈ F)->B.length≤1000->_:=fun a b=>zeY S C hs a b (Fs:=Oth) (src:=.lst (Oth.map PV.int)) rfl U.sub (by have:=tl U;omega)
 generalize zn w rs cs=ls at *
 have l1:=tl T
 have l2:=tl U
 generalize hX:(One.filter fun f=>!decide (f ∈ Oth))=X
 have memX:∀ f,f ∈ X ↔ f ∈ One/\f ∉ Oth:=fun f=>by rw [← hX,List.mem_filter];simp
 have hXl:X.length≤36:=by rw [← hX];exact Nat.le_trans (List.length_filter_le _ _) l1
 have ndX:X.Nodup:=by rw [← hX];exact T.nd.filter _
 let mk:List Int->List (Int × Int)->Option PV->Option PV->Option PV->En:=fun now ps x5 x6 x7=>[some (flV w h F),some (.lst (One.map PV.int)),some (.lst (Oth.map PV.int)),some (.lst (now.map PV.int)),some (.lst (ps.map y8)),x5,x6,x7]
 obtain ⟨e,f1,ps,x5,x6,x7,rfl,E⟩:=yh (b:=zP 5) (g:=uD) (xs:=X) (hh:=PV.int) (env:=mk One [] none none none)
  (fun pre e=>∃ ps x5 x6 x7,e=mk (yI One ps) ps x5 x6 x7/\Exch ls F One Oth pre ps)
  ⟨[],none,none,none,rfl,⟨rfl,fun a p b e=>by simp at e,T,fun x hx=>.inr ⟨hx,by simp⟩,fun x hx _=>hx,by simp,by simp⟩⟩ (by
   rintro pre o post e hp ⟨ps,x5,x6,x7,rfl,E⟩
   have hoX:o ∈ X:=by rw [hp];simp
   obtain ⟨ho,hno⟩:=(memX o).mp hoX
   have hop:o ∉ pre:=fun z=>by
    rw [hp] at ndX
    exact (List.nodup_append.mp ndX).2.2 o z o List.mem_cons_self rfl
   have hpo:∀ x ∈ pre,x ∈ One/\x ∉ Oth:=fun x hx=>(memX x).mp (by rw [hp];exact List.mem_append_left _ hx)
   have hnl:=tl E.tree
   have hwl:(wo (yI One ps) o).length≤36:=Nat.le_trans (List.length_filter_le _ _) hnl
   have hpl:ps.length≤36:=by
    have h1:=congrArg List.length E.outs
    have h2:=congrArg List.length hp
    rw [List.length_map] at h1
    rw [List.length_append] at h2
    omega
   obtain ⟨D,d1,d2,d3,d4⟩:=hj (B:=wo (yI One ps) o) (fun f hf=>E.tree.sub f (mem_wo.mp hf).1) (by omega)
   obtain ⟨g,hg,hgn⟩:=E.tree.lacks U (E.old o ho hop)
   cases D with
   | nil=>exact absurd (by have:=d3 g hg;rwa [List.append_nil] at this) hgn
   | cons c D=>
    have hc:c ∈ Oth:=d2.subset List.mem_cons_self
    have hcn:=d4 c D rfl
    have wk:=zes (yI One ps) o (by omega)
    refine ⟨mk (yI One ps) ps (some (.int o)) x6 x7,mk (yI One (ps++[(o,c)])) (ps++[(o,c)]) (some (.int o)) (some (.lst ((wo (yI One ps) o).map PV.int))) (some (.int c)),rfl,.inl ?_,_,_,_,_,rfl,E.step T U ho hno hop hpo hc hcn⟩
    rw [wF]
    generalize yI One ps=now at *
    have h0:vIx (.lst ((c::D).map PV.int)) (.int 0)=some (.int c):=by
     show atI ((c::D).map PV.int) ((0:Nat):Int)=_
     rw [_root_.F.atI_nat (by simp)];rfl
    unfold uD
    rw [zF (e:=mk now ps (some (.int o)) (some (.lst ((wo now o).map PV.int))) x7) (z8 (as:=[.lst (now.map PV.int),.int o]) rfl wk)]
    rw [zF (e:=mk now ps (some (.int o)) (some (.lst ((wo now o).map PV.int))) (some (.int c))) (by
     rw [kO,yA,zT (as:=[flV w h F,.lst ((wo now o).map PV.int),.lst (Oth.map PV.int)]) rfl d1,Option.bind_some,zfq,Option.bind_some,h0];rfl)]
    have hap:zt 4 (xJ (zC (zm (zA 5)) (zC (zm (zA 7)) zI))) (mk now ps (some (.int o)) (some (.lst ((wo now o).map PV.int))) (some (.int c)))=some (.nx (mk now (ps++[(o,c)]) (some (.int o)) (some (.lst ((wo now o).map PV.int))) (some (.int c)))):=by
     simp [mk,zt,y8,show ps.length<100000 by omega]
    rw [zF hap,kO]
    have ha:fOp yX (zA 6) (xA (zC (zA 7) zI)) (mk now (ps++[(o,c)]) (some (.int o)) (some (.lst ((wo now o).map PV.int))) (some (.int c)))=some (.lst ((wo now o++[c]).map PV.int)):=by
     have:=zgq (xs:=wo now o) (ys:=[c]) (by simp;omega)
     rw [← this];rfl
    rw [ha];rfl)
 refine ⟨ps,yT (e:=mk (yI One ps) ps x5 x6 x7) [some (flV w h F),some (.lst (One.map PV.int)),some (.lst (Oth.map PV.int)),none,none,none,none,none] rfl ?_,E⟩
 unfold jX
 rw [zF (e:=[some (flV w h F),some (.lst (One.map PV.int)),some (.lst (Oth.map PV.int)),some (.lst (One.map PV.int)),none,none,none,none]) (z8 (as:=[.lst (One.map PV.int)]) rfl (by rw [ziz,xK];rfl))]
 rw [zF (e:=mk One [] none none none) rfl]
 have hcp:yO (zP 0) (fT (fOp z4 (zA 0) (zA 1))) (zm (zA 0)) (One.map PV.int) [none,some (.lst (Oth.map PV.int))]=some (X.map PV.int):=by
  rw [← hX]
  exact yd (fun f=>!decide (f ∈ Oth)) PV.int One fun s _=>⟨_,rfl,by simp,fun _=>rfl⟩
 have hsq:zY (fLC (zY (zA 1)) 1 [2] (zP 0) (fT (fOp z4 (zA 0) (zA 1))) (zm (zA 0))) (mk One [] none none none)=some (X.map PV.int):=by
  have hv:zY (zA 1) (mk One [] none none none)=some (One.map PV.int):=rfl
  have hce:cE 1 [2] (mk One [] none none none)=[none,some (.lst (Oth.map PV.int))]:=rfl
  rw [xX,zld,hv,Option.bind_some,if_pos (by rw [List.length_map];omega),hce,hcp];rfl
 rw [zF (e:=mk (yI One ps) ps x5 x6 x7) (by rw [yi,hsq,Option.bind_some];exact f1)]
 rfl
noncomputable def xY:FT:=(zdj (fT (fOp vGt (fOp wB (zA 5) (zA 2)) (fC (.int 0)))) (fT (fOp xz (fOp xi (zA 5) (fC (.int 1))) (zA 4))))
noncomputable def jB:FS:=(zh 5 (fOp xi (zA 5) (fC (.int 1))))
noncomputable def wb:FT:=(fT (fOp xz (fOp xi (zA 6) (zA 2)) (zA 4)))
noncomputable def jA:FS:=(zh 6 (fOp xi (zA 6) (zA 2)))
noncomputable def uA:FS:=(zU (zff (kM 3 (yu (zP 2) (yu (zP 3) (yu (zP 4) kN)))) (zA 0))
 (zU (zh 5 (zA 1))
 (zU (fWh xY jB 1000000)
 (zU (zh 6 (zA 1))
 (zU (fWh wb jA 1000000)
 (yM (xJ (zC (xJ (zC (fC (.str "row")) (zC (zm (zA 5)) zI))) (zC (xJ (zC (fC (.str "column")) (zC (zm (zA 6)) zI))) zI)))))))))
noncomputable def ym:List PV->Option PV:=fnV 7 uA
noncomputable def xN:FS:=(y7 (fT (fOp zat (fOp vIx (zA 3) (zA 4)) (fOp vIx (zA 0) (zA 5)))) (zh 3 (fOp yX (zA 3) (fLC (zY (fOp vIx (zA 0) (zA 5))) 1 [3] (zP 0) (fT (fOp vM (zA 0) (zA 1))) (zm (zA 0))))) fNx)
noncomputable def xk:FT:=(fT (fOp vLt (zA 4) (zJ yo (zC (zA 3) zI))))
noncomputable def vK:FS:=(zU (xu (zY (zA 1)) (zP 5) xN)
 (zh 4 (fOp yX (zA 4) (fC (.int 1)))))
noncomputable def uq:FS:=(zU (zh 3 (xA (zC (zm (zA 2)) zI)))
 (zU (zh 4 (fC (.int 0)))
 (zU (fWh xk vK 1000000)
 (yM (zA 3)))))
noncomputable def yJ:List PV->Option PV:=fnV 6 uq
structure Lab (n:Nat) (lab:Nat->PV):Prop where
 dat:∀ a,zl (lab a)=true
 ok:∀ a,okB 62 (lab a)
 eq:∀ a b,a<n->b<n->eqP (lab a) (lab b)=decide (a=b)
theorem Lab.any{n:Nat}{lab:Nat->PV}(L:Lab n lab){x:Nat}(hx:x<n):∀ {p:List Nat},(∀ a ∈ p,a<n)->((toPys (p.map lab)).any fun z=>PyData.eqv z (y6 (lab x)))=decide (x ∈ p)
 | [],_=>rfl
 | a::p,hp=>by
  have h1:PyData.eqv (y6 (lab a)) (y6 (lab x))=decide (a=x):=L.eq a x (hp a List.mem_cons_self) hx
  rw [List.map_cons,toPys,List.any_cons,h1,L.any hx fun b hb=>hp b (List.mem_cons_of_mem _ hb),Bool.eq_iff_iff,Bool.or_eq_true,decide_eq_true_eq,decide_eq_true_eq,decide_eq_true_eq,List.mem_cons]
  exact ⟨fun z=>z.imp Eq.symm id,fun z=>z.imp Eq.symm id⟩
theorem Lab.inn{n:Nat}{lab:Nat->PV}(L:Lab n lab){x:Nat}{p:List Nat}(hx:x<n)(hp:∀ a ∈ p,a<n):inD (lab x) (p.map lab)=some (decide (x ∈ p)):=by
 obtain ⟨h1,h2,h3⟩:=L.ok x
 obtain ⟨g1,g2,_⟩:=zkh (ps:=p.map lab) (d:=62) fun q hq=>by
  obtain ⟨a,_,rfl⟩:=List.mem_map.mp hq;exact L.ok a
 have hk:zkw (lab x) (p.map lab)=true:=by unfold zkw;rw [h1,h2,g1,g2,decide_eq_true h3];rfl
 unfold inD
 rw [if_pos hk,L.any hx hp]
noncomputable def qR(rs cs:List (Int × Nat))(k:Nat):PV:=if k<rs.length then .tup [.str (Str.ofString "row"),.int (rs.getD k (0,0)).1] else .tup [.str (Str.ofString "column"),.int (cs.getD (k - rs.length) (0,0)).1]
theorem zdc(x y:Str)(i j:Int):eqP (.tup [.str x,.int i]) (.tup [.str y,.int j])=(decide (x=y) && decide (i=j)):=by
 simp only [eqP,y6,toPys,PyData.eqv,PyData.eqvAll]
 rw [Bool.eq_iff_iff];simp
theorem zmb{x:Str}(i:Int)(h:PyData.canLay0 (.str x)=true):okB 62 (.tup [.str x,.int i]):=(zki (d:=0) fun p hp=>by
 rcases List.mem_cons.mp hp with rfl | hp
 ·exact zkj h
 ·rw [List.mem_singleton.mp hp];exact zfN _).mono (by decide)
theorem zdh{rs:List (Int × Nat)}{k:Nat}(h:k<rs.length):rs[k]?=some (rs.getD k (0,0)):=by simp [List.getD,h]
theorem Strips.lab{w h:Int}{F:List Int}{rs cs:List (Int × Nat)}(S:Strips w h F rs cs):Lab (rs.length+cs.length) (qR rs cs):=by
 have nd:=zi S.fl.rise
 have ne:¬ (Str.ofString "row"=Str.ofString "column"):=by decide +kernel
 refine ⟨fun a=>by unfold qR;split<;>rfl,fun a=>by unfold qR;split<;>exact zmb _ (by decide +kernel),fun a b ha hb=>?_⟩
 unfold qR
 by_cases h1:a<rs.length
 ·by_cases h2:b<rs.length
  ·rw [if_pos h1,if_pos h2,zdc,decide_eq_true rfl,Bool.true_and,decide_eq_decide]
   exact ⟨fun e=>Runs.ix S.rows.toRuns0 nd (zdh h1) (zdh h2) e,fun e=>by rw [e]⟩
  ·rw [if_pos h1,if_neg h2,zdc,decide_eq_false ne,Bool.false_and,decide_eq_false (fun e:a=b=>h2 (by rw [← e];exact h1))]
 ·by_cases h2:b<rs.length
  ·rw [if_neg h1,if_pos h2,zdc,decide_eq_false (fun e=>ne e.symm),Bool.false_and,decide_eq_false (fun e:a=b=>h1 (by rw [e];exact h2))]
  ·rw [if_neg h1,if_neg h2,zdc,decide_eq_true rfl,Bool.true_and,decide_eq_decide]
   refine ⟨fun e=>?_,fun e=>by rw [e]⟩
   have:=Runs.ix S.cols.toRuns0 nd (zdh (k:=a - rs.length) (by omega)) (zdh (k:=b - rs.length) (by omega)) e
   omega
theorem Runs.back{F:List Int}{d:Int}{stop:Int->Bool}{ps:List (Int × Nat)}(r:Runs0 F d stop F ps){x:Int × Nat}(hx:x ∈ ps){i:Nat}(hi:i<x.2):yD F d stop (x.1+i * d)=decide (i=0):=by
 cases i with
 | zero=>
  rw [show x.1+((0:Nat):Int) * d=x.1 by simp];exact (Runs.start r hx).2
 | succ i=>
  have h1:=r.inn x hx (i+1) hi
  have h2:=(r.inn x hx i (by omega)).1
  have e:x.1+((i+1:Nat):Int) * d - d=x.1+(i:Int) * d:=by have:=zbJ i d;omega
  unfold yD
  rw [e,h1.2 (by omega),decide_eq_true h2];rfl
theorem zdq{F:List Int}{d:Int}{stop:Int->Bool}{x:Int × Nat}{t:FT}{b:FS}(mk:Int->En)(hs:∀ i:Nat,i<x.2->yD F d stop (x.1+i * d)=decide (i=0))(ht:∀ l,t (mk l)=some (!yD F d stop l))(hb:∀ l,b (mk l)=some (.nx (mk (l - d)))):∀ (i fuel:Nat),i<x.2->i<fuel->fWh t b fuel (mk (x.1+i * d))=some (.nx (mk x.1))
 | 0,fuel,hi,hf=>by
  obtain ⟨m,rfl⟩:=Nat.exists_eq_succ_of_ne_zero (Nat.ne_of_gt hf)
  unfold fWh
  rw [ht,hs 0 hi,show x.1+((0:Nat):Int) * d=x.1 by simp];rfl
 | i+1,fuel,hi,hf=>by
  obtain ⟨m,rfl⟩:=Nat.exists_eq_succ_of_ne_zero (Nat.ne_of_gt (Nat.lt_of_le_of_lt (Nat.zero_le _) hf))
  have e:x.1+((i+1:Nat):Int) * d - d=x.1+(i:Int) * d:=by have:=zbJ i d;omega
  unfold fWh
  rw [ht,hs (i+1) hi,Option.bind_some,if_pos (by simp),hb,Option.bind_some]
  dsimp only
  rw [e]
  exact zdq mk hs ht hb i m (by omega) (by omega)
theorem zhd{w h:Int}{F:List Int}{rs cs:List (Int × Nat)}(S:Strips w h F rs cs){f:Int}(hf:f ∈ F):ym [flV w h F,.int f]=some (.tup [qR rs cs (rc (zn w rs cs) f).1,qR rs cs (rc (zn w rs cs) f).2]):=by
 obtain ⟨r,c,h1,h2,h3,h4,h5⟩:=S.pairX hf
 have w1:=S.fl.w1
 have hw:0<w:=by omega
 have hfl:=xc S.fl
 have hx:rs[r]?=some rs[r]:=List.getElem?_eq_getElem h2
 have hy:cs[c]?=some cs[c]:=List.getElem?_eq_getElem h3
 obtain ⟨i,hi,e1⟩:=mem_chain.mp ((h4 r _ hx).mpr rfl)
 obtain ⟨j,hj,e2⟩:=mem_chain.mp ((h5 c _ hy).mpr rfl)
 have b1:=Runs.len0 S.rows.toRuns0 (by decide) hx
 have b2:=Runs.len0 S.cols.toRuns0 hw hy
 have l1:qR rs cs (rc (zn w rs cs) f).1=.tup [.str (Str.ofString "row"),.int rs[r].1]:=by simp only [rc,h1];unfold qR;rw [if_pos h2];simp [List.getD,h2]
 have l2:qR rs cs (rc (zn w rs cs) f).2=.tup [.str (Str.ofString "column"),.int cs[c].1]:=by simp only [rc,h1];unfold qR;rw [if_neg (by omega),Nat.add_sub_cancel_left];simp [List.getD,h3]
 rw [l1,l2]
 let mk:Option PV->Option PV->En:=fun x5 x6=>[some (flV w h F),some (.int f),some (.int w),some (.int h),some (.tup (F.map PV.int)),x5,x6]
 have g1:=zdq (F:=F) (d:=1) (stop:=wP w) (x:=rs[r]) (t:=xY) (b:=jB) (fun l=>mk (some (.int l)) none) (fun i hi=>Runs.back S.rows.toRuns0 (List.getElem_mem h2) hi) (fun l=>by
  have h0:=Int.emod_nonneg l (show w≠0 by omega)
  by_cases hz:l % w=0
  ·simp [xY,mk,xZ hw,hz,yD,wP]
  ·have hp:0<l % w:=by omega
   simp [xY,mk,xZ hw,hz,hp,yD,wP]) (fun l=>rfl) i 1000000 hi (by omega)
 have g2:=zdq (F:=F) (d:=w) (stop:=u3) (x:=cs[c]) (t:=wb) (b:=jA) (fun l=>mk (some (.int rs[r].1)) (some (.int l))) (fun i hi=>Runs.back S.cols.toRuns0 (List.getElem_mem h3) hi) (fun l=>by
  simp [wb,mk,yD,u3]) (fun l=>rfl) j 1000000 hj (by omega)
 rw [← e1] at g1
 rw [← e2] at g2
 refine yT (e:=mk (some (.int rs[r].1)) (some (.int cs[c].1))) [some (flV w h F),some (.int f),none,none,none,none,none] rfl ?_
 unfold uA
 rw [zF (e:=mk none none) rfl,zF (e:=mk (some (.int f)) none) rfl,zF g1,zF (e:=mk (some (.int rs[r].1)) (some (.int f))) rfl,zF g2]
 rfl
noncomputable def Shut(ls:List (List Int))(p:List Nat)(x:Nat)(f:Int):Prop:=(x=(rc ls f).1->(rc ls f).2 ∈ p)/\(x=(rc ls f).2->(rc ls f).1 ∈ p)
theorem Shut.mono{ls:List (List Int)}{p q:List Nat}{x:Nat}{f:Int}(h:Shut ls p x f)(hs:∀ s ∈ p,s ∈ q):Shut ls q x f:=⟨fun e=>hs _ (h.1 e),fun e=>hs _ (h.2 e)⟩
structure Come (ls:List (List Int)) (B:List Int) (n k:Nat) (p:List Nat):Prop where
 nd:p.Nodup
 sub:∀ s ∈ p,s<n/\Con ls B k s
 st:k ∈ p
theorem zfO{p:List Nat}{n:Nat}(nd:p.Nodup)(h:∀ s ∈ p,s<n):p.length≤n:=by
 have nd':(p.map Int.ofNat).Nodup:=by
  rw [List.nodup_iff_pairwise_ne,List.pairwise_map]
  exact (List.nodup_iff_pairwise_ne.mp nd).imp fun h e=>h (Int.ofNat.inj e)
 have:=zL (p.map Int.ofNat) ((List.range n).map Int.ofNat) nd' fun s hs=>by
  obtain ⟨k,hk,rfl⟩:=List.mem_map.mp hs
  exact List.mem_map.mpr ⟨k,List.mem_range.mpr (h k hk),rfl⟩
 rwa [List.length_map,List.length_map,List.length_range] at this
theorem Come.all{ls:List (List Int)}{B:List Int}{n k:Nat}{p:List Nat}(h:Come ls B n k p)(hc:∀ x ∈ p,∀ f ∈ B,Shut ls p x f){t:Nat}(c:Con ls B k t):t ∈ p:=by
 induction c with
 | refl=>exact h.st
 | step _ hf e ih=>
  have s:=hc _ ih _ hf
  rcases e with e | e
  ·have:=s.1 (by rw [e])
   rwa [e] at this
  ·have:=s.2 (by rw [e])
   rwa [e] at this
structure Ends (ls:List (List Int)) (F:List Int) (n:Nat) (lab:Nat->PV) (G:Int->PV):Prop where
 L:Lab n lab
 at':∀ f ∈ F,G f=.tup [lab (rc ls f).1,lab (rc ls f).2]
 rg:∀ f ∈ F,(rc ls f).1<n/\(rc ls f).2<n/\(rc ls f).1≠(rc ls f).2
 few:n≤64
theorem zmv{lab:Nat->PV}{p:List Nat}{a:Nat}(h:a<p.length):atI (p.map lab) (a:Int)=some (lab (p.getD a 0)):=by
 rw [_root_.F.atI_nat (by simpa using h)]
 simp [List.getD,h]
theorem zko{p:List Nat}{a:Nat}(h:a<p.length):p.getD a 0 ∈ p:=by
 rw [show p.getD a 0=p[a] by simp [List.getD,h]];exact List.getElem_mem h
theorem zeV{p q:List Nat}(h:p <+: q){i:Nat}(hi:i<p.length):q.getD i 0=p.getD i 0:=by
 obtain ⟨r,rfl⟩:=h
 rw [List.getD_eq_getElem?_getD,List.getD_eq_getElem?_getD,List.getElem?_append_left hi]
theorem zkM{lab:Nat->PV}(hd:∀ a,zl (lab a)=true){p q:List Nat}(h:p.length+q.length≤100000):yX (.lst (p.map lab)) (.lst (q.map lab))=some (.lst ((p++q).map lab)):=by
 unfold yX
 dsimp only
 rw [if_pos (by rw [ye _ hd,ye _ hd,List.length_map,List.length_map,decide_eq_true h];rfl),List.map_append]
section
variable {ls:List (List Int)} {F B:List Int} {n:Nat} {lab:Nat->PV} {G:Int->PV}
noncomputable def pE(F:List Int)(G:Int->PV)(B:List Int)(lab:Nat->PV)(k:Nat)(p:List Nat)(a:Nat)(x5:Option PV):En:=[some (dF F G),some (.lst (B.map PV.int)),some (lab k),some (.lst (p.map lab)),some (.int (a:Int)),x5]
theorem zeL(Ed:Ends ls F n lab G)(hB:∀ f ∈ B,f ∈ F){k:Nat}{p:List Nat}{a:Nat}(h:Come ls B n k p)(ha:a<p.length){f:Int}(hf:f ∈ B):
  ∃ q,xN (pE F G B lab k p a (some (.int f)))=some (.nx (pE F G B lab k q a (some (.int f))))/\Come ls B n k q/\p <+: q/\Shut ls q (p.getD a 0) f:=by
 obtain ⟨r1,r2,r3⟩:=Ed.rg f (hB f hf)
 have few:=Ed.few
 have hix:=jz (L:=F) (G:=G) (hB f hf)
 rw [Ed.at' f (hB f hf)] at hix
 have hx:p.getD a 0 ∈ p:=zko ha
 have hal:=zmv (lab:=lab) ha
 generalize p.getD a 0=x at *
 obtain ⟨hxn,hxc⟩:=h.sub x hx
 have hpl:=zfO h.nd fun s hs=>(h.sub s hs).1
 have hpn:∀ s ∈ p,s<n:=fun s hs=>(h.sub s hs).1
 have hcr:Con ls B (rc ls f).1 (rc ls f).2:=.step .refl hf (.inl rfl)
 unfold Shut
 generalize (rc ls f).1=r at *
 generalize (rc ls f).2=c at *
 generalize hE:pE F G B lab k p a (some (.int f))=E
 have v0:zA 0 E=some (dF F G):=by rw [← hE];rfl
 have v3:zA 3 E=some (.lst (p.map lab)):=by rw [← hE];rfl
 have v4:zA 4 E=some (.int (a:Int)):=by rw [← hE];rfl
 have v5:zA 5 E=some (.int f):=by rw [← hE];rfl
 have e1:fOp vIx (zA 3) (zA 4) E=some (lab x):=by rw [yA,v3,v4,Option.bind_some,Option.bind_some,ziH,hal]
 have e2:fOp vIx (zA 0) (zA 5) E=some (.tup ([r,c].map lab)):=by rw [yA,v0,v5,Option.bind_some,Option.bind_some,hix];rfl
 have hrc:∀ s ∈ [r,c],s<n:=fun s hs=>by
  rcases List.mem_cons.mp hs with rfl | hs
  ·exact r1
  ·rw [List.mem_singleton.mp hs];exact r2
 have t1:fT (fOp zat (fOp vIx (zA 3) (zA 4)) (fOp vIx (zA 0) (zA 5))) E=some (decide (x ∈ [r,c])):=by
  rw [jg,yA,e1,e2,Option.bind_some,Option.bind_some]
  show ((inD (lab x) ([r,c].map lab)).map PV.bl).bind yC=_
  rw [Ed.L.inn hxn hrc];rfl
 unfold xN
 rw [zr,t1,Option.bind_some]
 by_cases hin:x ∈ [r,c]
 ·rw [decide_eq_true hin,if_pos rfl]
  have hcomp:yO (zP 0) (fT (fOp vM (zA 0) (zA 1))) (zm (zA 0)) ([r,c].map lab) [none,some (.lst (p.map lab))]=some (([r,c].filter fun s=>!decide (s ∈ p)).map lab):=by
   refine qd (fun s=>!decide (s ∈ p)) lab [r,c] fun s hs=>⟨[some (lab s),some (.lst (p.map lab))],rfl,?_,fun _=>?_⟩
   ·show ((inD (lab s) (p.map lab)).map fun b=>PV.bl (!b)).bind yC=_
    rw [Ed.L.inn (hrc s hs) hpn];rfl
   ·have hv:zA 0 [some (lab s),some (.lst (p.map lab))]=some (lab s):=rfl
    rw [qg,hv,Option.bind_some,if_pos (Ed.L.dat s)]
  have hql:=List.length_filter_le (fun s=>!decide (s ∈ p)) [r,c]
  have memq:∀ s,s ∈ [r,c].filter (fun s=>!decide (s ∈ p)) ↔ (s=r∨s=c)/\s ∉ p:=fun s=>by simp [List.mem_filter]
  have ndq:([r,c].filter fun s=>!decide (s ∈ p)).Nodup:=(show [r,c].Nodup by simp [r3]).filter _
  generalize ([r,c].filter fun s=>!decide (s ∈ p))=q at *
  have hlc:fLC (zY (fOp vIx (zA 0) (zA 5))) 1 [3] (zP 0) (fT (fOp vM (zA 0) (zA 1))) (zm (zA 0)) E=some (.lst (q.map lab)):=vW (qs:=[r,c].map lab) (by rw [xX,e2];rfl) (by rw [← hE];rfl) (by simp) hcomp
  have hin':x=r∨x=c:=by simpa using hin
  have hkr:Con ls B k r/\Con ls B k c:=by
   rcases hin' with rfl | rfl
   ·exact ⟨hxc,hxc.trans hcr⟩
   ·exact ⟨hxc.trans hcr.symm,hxc⟩
  have hql2:q.length≤2:=hql
  have hb:∀ s,s=r∨s=c->s ∈ p++q:=fun s hs=>by
   by_cases z:s ∈ p
   ·exact List.mem_append_left _ z
   ·exact List.mem_append_right _ ((memq s).mpr ⟨hs,z⟩)
  refine ⟨p++q,?_,⟨?_,fun s hs=>?_,List.mem_append_left _ h.st⟩,List.prefix_append _ _,fun _=>hb _ (.inr rfl),fun _=>hb _ (.inl rfl)⟩
  ·rw [kO,yA,v3,hlc,Option.bind_some,Option.bind_some,zkM Ed.L.dat (by omega),← hE];rfl
  ·exact List.nodup_append.mpr ⟨h.nd,ndq,fun s hs t ht e=>((memq t).mp ht).2 (e ▸ hs)⟩
  ·rcases List.mem_append.mp hs with hs | hs
   ·exact h.sub s hs
   ·rcases ((memq s).mp hs).1 with rfl | rfl
    ·exact ⟨r1,hkr.1⟩
    ·exact ⟨r2,hkr.2⟩
 ·rw [decide_eq_false hin,if_neg Bool.false_ne_true,← hE]
  have hin':¬ (x=r∨x=c):=by simpa using hin
  exact ⟨p,rfl,h,List.prefix_refl _,fun e=>absurd (.inl e) hin',fun e=>absurd (.inr e) hin'⟩
theorem zgN(Ed:Ends ls F n lab G)(hB:∀ f ∈ B,f ∈ F){k:Nat}{p:List Nat}{a:Nat}{x5:Option PV}(h:Come ls B n k p)(ha:a<p.length):
  ∃ q y5,zbo (zP 5) xN (B.map PV.int) (pE F G B lab k p a x5)=some (.nx (pE F G B lab k q a y5))/\Come ls B n k q/\p <+: q/\∀ f ∈ B,Shut ls q (p.getD a 0) f:=by
 obtain ⟨e,f1,q,y5,rfl,r⟩:=yh (b:=zP 5) (g:=xN) (xs:=B) (hh:=PV.int) (env:=pE F G B lab k p a x5)
  (fun pre e=>∃ q y5,e=pE F G B lab k q a y5/\Come ls B n k q/\p <+: q/\∀ f ∈ pre,Shut ls q (p.getD a 0) f) ⟨p,x5,rfl,h,List.prefix_refl _,by simp⟩ (by
   rintro pre f post e hp ⟨q,y5,rfl,h1,h2,h3⟩
   have hf:f ∈ B:=by rw [hp];simp
   have haq:a<q.length:=Nat.lt_of_lt_of_le ha h2.length_le
   obtain ⟨q',g1,g2,g3,g4⟩:=zeL Ed hB h1 haq hf
   refine ⟨pE F G B lab k q a (some (.int f)),_,rfl,.inl g1,q',_,rfl,g2,h2.trans g3,fun g hg=>?_⟩
   rcases List.mem_append.mp hg with hg | hg
   ·exact (h3 g hg).mono fun s hs=>g3.subset hs
   ·rw [List.mem_singleton.mp hg,← zeV h2 ha];exact g4)
 exact ⟨q,y5,f1,r⟩
theorem zhY(Ed:Ends ls F n lab G)(hB:∀ f ∈ B,f ∈ F){k:Nat}(hk:k<n):∃ q:List Nat,yJ [dF F G,.lst (B.map PV.int),lab k]=some (.lst (q.map lab))/\(∀ s ∈ q,s<n)/\∀ t,t ∈ q ↔ Con ls B k t:=by
 have few:=Ed.few
 have ht:∀ q a y5,xk (pE F G B lab k q a y5)=some (decide (a<q.length)):=fun q a y5=>by
  unfold xk pE;simp
 obtain ⟨e,h1,⟨q,a,y5,rfl,h2,h3,h4⟩,h5⟩:=zao (t:=xk) (g:=vK) (fun e=>∃ q a y5,e=pE F G B lab k q a y5/\Come ls B n k q/\a≤q.length/\∀ i,i<a->∀ f ∈ B,Shut ls q (q.getD i 0) f)
  (fun e=>match e with | [_,_,_,_,some (.int a),_]=>2000 - a.toNat | _=>0) (by
   rintro e ⟨q,a,y5,rfl,h2,h3,h4⟩
   rw [ht]
   by_cases hq:a<q.length
   ·right
    obtain ⟨q',z5,g1,g2,g3,g4⟩:=zgN (x5:=y5) Ed hB h2 hq
    refine ⟨by rw [decide_eq_true hq],pE F G B lab k q' (a+1) z5,.inl ?_,⟨q',a+1,z5,rfl,g2,Nat.lt_of_lt_of_le hq g3.length_le,fun i hi f hf=>?_⟩,?_⟩
    ·unfold vK
     have hv:zY (zA 1) (pE F G B lab k q a y5)=some (B.map PV.int):=rfl
     rw [zF (by rw [yi,hv,Option.bind_some];exact g1)]
     rfl
    ·by_cases hia:i=a
     ·subst hia
      rw [zeV g3 hq];exact g4 f hf
     ·have hi':i<a:=by omega
      rw [zeV g3 (by omega)]
      exact (h4 i hi' f hf).mono fun s hs=>g3.subset hs
    ·have:=zfO h2.nd fun s hs=>(h2.sub s hs).1
     show 2000 - ((a+1:Nat):Int).toNat<2000 - (a:Int).toNat
     omega
   ·left;rw [decide_eq_false hq]) 1000000 (pE F G B lab k [k] 0 none)
  ⟨[k],0,none,rfl,⟨by simp,fun s hs=>by rw [List.mem_singleton.mp hs];exact ⟨hk,.refl⟩,by simp⟩,Nat.zero_le _,fun i hi=>absurd hi (Nat.not_lt_zero _)⟩ (by show 2000 - _<_;omega)
 rw [ht] at h5
 have ha:¬ a<q.length:=by simpa using h5
 refine ⟨q,?_,fun s hs=>(h2.sub s hs).1,fun t=>⟨fun z=>(h2.sub t z).2,fun z=>h2.all (fun x hx f hf=>?_) z⟩⟩
 ·refine yT (e:=pE F G B lab k q a y5) [some (dF F G),some (.lst (B.map PV.int)),some (lab k),none,none,none] rfl ?_
  unfold uq
  rw [zF (e:=[some (dF F G),some (.lst (B.map PV.int)),some (lab k),some (.lst [lab k]),none,none]) (by
   have hv:zA 2 [some (dF F G),some (.lst (B.map PV.int)),some (lab k),none,none,none]=some (lab k):=rfl
   rw [kO,zfp,zS,qg,hv,Option.bind_some,if_pos (Ed.L.dat k)];rfl),zF (e:=pE F G B lab k [k] 0 none) rfl,zF h1]
  rfl
 ·obtain ⟨i,hi,rfl⟩:=List.getElem_of_mem hx
  have:=h4 i (by omega) f hf
  rwa [show q.getD i 0=q[i] by simp [List.getD,hi]] at this
theorem zcf(Ed:Ends ls F n lab G)(hB:∀ f ∈ B,f ∈ F){f:Int}(hf:f ∈ F):∃ (q:PV) (b:Bool),yJ [dF F G,.lst (B.map PV.int),lab (rc ls f).1]=some q/\zhC (lab (rc ls f).2) q=some b/\(b=true ↔ Con ls B (rc ls f).1 (rc ls f).2):=by
 obtain ⟨r1,r2,_⟩:=Ed.rg f hf
 obtain ⟨q,h1,h2,h3⟩:=zhY Ed hB r1
 exact ⟨_,_,h1,Ed.L.inn r2 h2,by rw [decide_eq_true_eq,h3]⟩
end
noncomputable def xl:FT:=(fT (fOp vNe (zA 2) (xA zI)))
noncomputable def xx:FS:=(zak 3 2 (va (xv ze 0 (zC (zJ yo (zC (zA 2) zI)) zI))))
noncomputable def ur:FS:=(zU (zh 2 (zJ xH (zC (zA 1) zI)))
 (zU (zh 3 (xA zI))
 (zU (fWh xl xx 1000000)
 (yM (zA 3)))))
noncomputable def xU:List PV->Option (PV × List Int):=fnM 4 ur
theorem zbq:∀ (l:List Int) (k:Nat) (h:k<l.length),(l[k]::l.eraseIdx k).Perm l
 | x::l,0,_=>.refl _
 | x::l,k+1,h=>by
  rw [List.eraseIdx_cons_succ,List.getElem_cons_succ]
  exact (List.Perm.swap x _ _).trans (List.Perm.cons x (zbq l k (Nat.lt_of_succ_lt_succ h)))
theorem zdP(n':PV):∀ (c:Nat) (left found ns:List Int),left.length=c->found.length+c≤100->Pen ns->∃ (L ns':List Int),L.Perm (found++left)/\Pen ns'/\∀ (a:Addr) (fuel:Nat),c<fuel->
  fWh xl xx fuel [some (.pen a ns),some n',some (.lst (left.map PV.int)),some (.lst (found.map PV.int))]=some (.nx [some (.pen a ns'),some n',some (.lst []),some (.lst (L.map PV.int))])
 | 0,left,found,ns,hc,_,hp=>by
  have hl:=List.length_eq_zero_iff.mp hc
  subst hl
  refine ⟨found,ns,by rw [List.append_nil],hp,fun a fuel hf=>?_⟩
  obtain ⟨m,rfl⟩:=Nat.exists_eq_succ_of_ne_zero (Nat.ne_of_gt hf)
  unfold fWh
  have ht:xl [some (.pen a ns),some n',some (.lst (([]:List Int).map PV.int)),some (.lst (found.map PV.int))]=some false:=by
   show (vNe (.lst []) (.lst [])).bind yC=_
   rw [zcZ (kh (d:=0) (by simp)) (by decide)];rfl
  rw [ht];rfl
 | c+1,left,found,ns,hc,hs,hp=>by
  obtain ⟨r,ns1,p1,r0,r1,ht⟩:=kX (m:=((c+1:Nat):Int)) hp (by omega) (by omega)
  have hlt:r.toNat<left.length:=by omega
  obtain ⟨z,hz⟩:∃ z,left[r.toNat]?=some z:=⟨left[r.toNat],List.getElem?_eq_getElem hlt⟩
  have hel:(left.eraseIdx r.toNat).length=c:=by rw [List.length_eraseIdx_of_lt hlt];omega
  obtain ⟨L,ns',hL,p2,go⟩:=zdP n' c (left.eraseIdx r.toNat) (found++[z]) ns1 hel (by rw [List.length_append,List.length_singleton];omega) p1
  have hzl:z=left[r.toNat]:=Option.some.inj (hz.symm.trans (List.getElem?_eq_getElem hlt))
  refine ⟨L,ns',hL.trans ?_,p2,fun a fuel hf=>?_⟩
  ·rw [List.append_assoc]
   refine List.Perm.append_left found ?_
   rw [List.singleton_append,hzl]
   exact zbq left _ hlt
  ·obtain ⟨m,rfl⟩:=Nat.exists_eq_succ_of_ne_zero (Nat.ne_of_gt (Nat.lt_of_le_of_lt (Nat.zero_le _) hf))
   unfold fWh
   have hne:left≠[]:=fun y=>by rw [y] at hc;cases hc
   have htt:xl [some (.pen a ns),some n',some (.lst (left.map PV.int)),some (.lst (found.map PV.int))]=some true:=by
    show (vNe (.lst (left.map PV.int)) (.lst (([]:List Int).map PV.int))).bind yC=_
    rw [zio,decide_eq_false hne];rfl
   have hcall:va (xv ze 0 (zC (zJ yo (zC (zA 2) zI)) zI)) [some (.pen a ns),some n',some (.lst (left.map PV.int)),some (.lst (found.map PV.int))]=some (r,[some (.pen a ns1),some n',some (.lst (left.map PV.int)),some (.lst (found.map PV.int))]):=by
    refine zdf (qe (ps:=[.int ((c+1:Nat):Int)]) rfl ?_ ht)
    rw [zS,zT (as:=[.lst (left.map PV.int)]) rfl (by rw [ui,List.length_map,hc])];rfl
   have hb:xx [some (.pen a ns),some n',some (.lst (left.map PV.int)),some (.lst (found.map PV.int))]=some (.nx [some (.pen a ns1),some n',some (.lst ((left.eraseIdx r.toNat).map PV.int)),some (.lst ((found++[z]).map PV.int))]):=by
    unfold xx zak
    have v3:zA 3 [some (.pen a ns),some n',some (.lst (left.map PV.int)),some (.lst (found.map PV.int))]=some (.lst (found.map PV.int)):=rfl
    have v2:zA 2 [some (.pen a ns),some n',some (.lst (left.map PV.int)),some (.lst (found.map PV.int))]=some (.lst (left.map PV.int)):=rfl
    have w2:zA 2 [some (.pen a ns1),some n',some (.lst (left.map PV.int)),some (.lst (found.map PV.int))]=some (.lst (left.map PV.int)):=rfl
    have w3:zA 3 [some (.pen a ns1),some n',some (.lst ((left.eraseIdx r.toNat).map PV.int)),some (.lst (found.map PV.int))]=some (.lst (found.map PV.int)):=rfl
    rw [v3,v2]
    dsimp only
    rw [hcall,Option.bind_some]
    dsimp only
    rw [w2]
    dsimp only
    rw [uk,Option.bind_some,if_pos ⟨r0,by rw [hc];exact r1,by omega⟩,hz,Option.bind_some]
    simp only [List.set_cons_succ,List.set_cons_zero,w3]
    rw [if_pos ⟨xK,by rw [List.length_map];omega⟩,List.map_append];rfl
   rw [htt,Option.bind_some,if_pos rfl,hb,Option.bind_some]
   exact go a m (by omega)
theorem zdO{ns F:List Int}(hp:Pen ns)(hn:F.length≤100):∃ (L ns':List Int),L.Perm F/\Pen ns'/\∀ a,xU [.pen a ns,.tup (F.map PV.int)]=some (.lst (L.map PV.int),ns'):=by
 obtain ⟨L,ns',h1,h2,go⟩:=zdP (.tup (F.map PV.int)) F.length F [] ns rfl (by simpa using hn) hp
 refine ⟨L,ns',by simpa using h1,h2,fun a=>?_⟩
 have g1:=go a 1000000 (by omega)
 have s1:zh 2 (zJ xH (zC (zA 1) zI)) [some (.pen a ns),some (.tup (F.map PV.int)),none,none]=some (.nx [some (.pen a ns),some (.tup (F.map PV.int)),some (.lst (F.map PV.int)),none]):=z8 (as:=[.tup (F.map PV.int)]) rfl (by simp)
 refine ziT (e:=[some (.pen a ns'),some (.tup (F.map PV.int)),some (.lst []),some (.lst (L.map PV.int))]) [some (.pen a ns),some (.tup (F.map PV.int)),none,none] rfl ?_ rfl
 unfold ur
 rw [zF s1]
 rw [zF (e:=[some (.pen a ns),some (.tup (F.map PV.int)),some (.lst (F.map PV.int)),some (.lst (([]:List Int).map PV.int))]) rfl]
 rw [zF g1]
 rfl
noncomputable def xy:FS:=(zU (zff (kM 2 (yu (zP 4) (yu (zP 5) kN))) (fOp vIx (zA 0) (zA 3)))
 (y7 (fT (fOp vM (zA 5) (zJ yJ (zC (zA 0) (zC (zA 2) (zC (zA 4) zI)))))) (zt 2 (zm (zA 3))) fNx))
noncomputable def ut:FS:=(zU (zh 2 (xA zI))
 (zU (xu (zY (zA 1)) (zP 3) xy)
 (yM (zJ xG (zC (zA 2) zI)))))
noncomputable def xV:List PV->Option PV:=fnV 6 ut
section
variable {ls:List (List Int)} {F B X:List Int} {n:Nat} {lab:Nat->PV} {G:Int->PV}
noncomputable def Free(ls:List (List Int))(X:List Int):Prop:=∀ f ∈ X,¬ Con ls (wo X f) (rc ls f).1 (rc ls f).2
theorem Free.add{f:Int}(h:Free ls X)(hn:¬ Con ls X (rc ls f).1 (rc ls f).2):Free ls (X++[f]):=by
 have fno:f ∉ X:=fun z=>hn (.step .refl z (.inl rfl))
 intro g hg hc
 rcases List.mem_append.mp hg with z | z
 ·have hW:∀ y,y ∈ wo (X++[f]) g ↔ y ∈ wo X g∨y=f:=fun y=>by
   rw [mem_wo,mem_wo,List.mem_append,List.mem_singleton]
   constructor
   ·rintro ⟨u | u,v⟩
    ·exact .inl ⟨u,v⟩
    ·exact .inr u
   ·rintro (⟨u,v⟩ | u)
    ·exact ⟨.inl u,v⟩
    ·exact ⟨.inr u,fun e=>fno (by rw [← u,e];exact z)⟩
  have up:∀ {s t:Nat},Con ls (wo X g) s t->Con ls X s t:=fun h=>h.mono fun y hy=>(mem_wo.mp hy).1
  have hgg:Con ls X (rc ls g).1 (rc ls g).2:=.step .refl z (.inl rfl)
  rcases zdn hW hc with k | ⟨k1,k2⟩ | ⟨k1,k2⟩
  ·exact h g z k
  ·exact hn (((up k1).symm.trans hgg).trans (up k2).symm)
  ·exact hn (((up k2).trans hgg.symm).trans (up k1))
 ·rw [List.mem_singleton.mp z] at hc
  refine hn (hc.mono fun y hy=>?_)
  obtain ⟨u,v⟩:=mem_wo.mp hy
  exact (List.mem_append.mp u).resolve_right fun q=>v (List.mem_singleton.mp q)
theorem Tree.same(T:Tree ls F B)(nd:X.Nodup)(h:∀ f,f ∈ X ↔ f ∈ B):Tree ls F X:=
 ⟨fun f hf=>T.sub f ((h f).mp hf),nd,fun f hf=>(T.span f hf).mono fun x hx=>(h x).mpr hx,fun f hf hc=>T.ind f ((h f).mp hf) (hc.mono fun x hx=>mem_wo.mpr ⟨(h x).mp (mem_wo.mp hx).1,(mem_wo.mp hx).2⟩)⟩
theorem zeg(Ed:Ends ls F n lab G)(nd:F.Nodup)(hl:F.length<64){D:List Int}(hD:D.Perm F):∃ Y:List Int,xV [dF F G,.lst (D.map PV.int)]=some (.lst (Y.map PV.int))/\Tree ls F Y/\Y.Pairwise (·<·):=by
 let mk:List Int->Option PV->Option PV->Option PV->En:=fun X x3 x4 x5=>[some (dF F G),some (.lst (D.map PV.int)),some (.lst (X.map PV.int)),x3,x4,x5]
 obtain ⟨e,h1,X,x3,x4,x5,rfl,s1,s2,s3⟩:=yh (b:=zP 3) (g:=xy) (xs:=D) (hh:=PV.int) (env:=mk [] none none none)
  (fun pre e=>∃ X x3 x4 x5,e=mk X x3 x4 x5/\X.Sublist pre/\Free ls X/\∀ f ∈ pre,Con ls X (rc ls f).1 (rc ls f).2)
  ⟨[],none,none,none,rfl,.slnil,fun f hf=>(nomatch hf),by simp⟩ (by
   rintro pre f post e hp ⟨X,x3,x4,x5,rfl,s1,s2,s3⟩
   have hfD:f ∈ D:=by rw [hp];simp
   have hf:f ∈ F:=hD.mem_iff.mp hfD
   have hXF:∀ g ∈ X,g ∈ F:=fun g hg=>hD.mem_iff.mp (by rw [hp];exact List.mem_append_left _ (s1.subset hg))
   have hXl:X.length<100:=by
    have h1:=s1.length_le
    have h2:=congrArg List.length hp
    rw [List.length_append,hD.length_eq] at h2
    omega
   obtain ⟨q,b,p1,p2,p3⟩:=zcf Ed hXF hf
   have hix:=jz (L:=F) (G:=G) hf
   rw [Ed.at' f hf] at hix
   have ha:zff (kM 2 (yu (zP 4) (yu (zP 5) kN))) (fOp vIx (zA 0) (zA 3)) (mk X (some (.int f)) x4 x5)=some (.nx (mk X (some (.int f)) (some (lab (rc ls f).1)) (some (lab (rc ls f).2)))):=by
    have hv0:zA 0 (mk X (some (.int f)) x4 x5)=some (dF F G):=rfl
    have hv3:zA 3 (mk X (some (.int f)) x4 x5)=some (.int f):=rfl
    rw [zjs,yA,hv0,hv3,Option.bind_some,Option.bind_some,hix];rfl
   have ht:fT (fOp vM (zA 5) (zJ yJ (zC (zA 0) (zC (zA 2) (zC (zA 4) zI))))) (mk X (some (.int f)) (some (lab (rc ls f).1)) (some (lab (rc ls f).2)))=some (!b):=by
    have hv5:zA 5 (mk X (some (.int f)) (some (lab (rc ls f).1)) (some (lab (rc ls f).2)))=some (lab (rc ls f).2):=rfl
    rw [jg,yA,hv5,zT (as:=[dF F G,.lst (X.map PV.int),lab (rc ls f).1]) rfl p1,Option.bind_some,Option.bind_some]
    unfold vM
    rw [p2];rfl
   cases b with
   | true=>
    refine ⟨mk X (some (.int f)) x4 x5,mk X (some (.int f)) (some (lab (rc ls f).1)) (some (lab (rc ls f).2)),rfl,.inl ?_,X,_,_,_,rfl,s1.trans (List.sublist_append_left _ _),s2,fun g hg=>?_⟩
    ·unfold xy
     rw [zF ha,zr,ht];rfl
    ·rcases List.mem_append.mp hg with hg | hg
     ·exact s3 g hg
     ·rw [List.mem_singleton.mp hg];exact p3.mp rfl
   | false=>
    have hn:¬ Con ls X (rc ls f).1 (rc ls f).2:=fun z=>Bool.false_ne_true (p3.mpr z)
    refine ⟨mk X (some (.int f)) x4 x5,mk (X++[f]) (some (.int f)) (some (lab (rc ls f).1)) (some (lab (rc ls f).2)),rfl,.inl ?_,X++[f],_,_,_,rfl,s1.append (List.Sublist.refl _),s2.add hn,fun g hg=>?_⟩
    ·unfold xy
     rw [zF ha,zr,ht,Option.bind_some,Bool.not_false,if_pos rfl]
     simp [mk,zt,show X.length<100000 by omega]
    ·rcases List.mem_append.mp hg with hg | hg
     ·exact (s3 g hg).mono fun x hx=>List.mem_append_left _ hx
     ·rw [List.mem_singleton.mp hg];exact .step .refl (f:=f) (by simp) (.inl rfl))
 have ndX:X.Nodup:=(hD.nodup_iff.mpr nd).sublist s1
 have hXF:∀ g ∈ X,g ∈ F:=fun g hg=>hD.mem_iff.mp (s1.subset hg)
 have hXl:X.length<64:=by have:=s1.length_le;rw [hD.length_eq] at this;omega
 have T:Tree ls F X:=⟨hXF,ndX,fun f hf=>s3 f (hD.mem_iff.mpr hf),s2⟩
 have sp:=wt X
 have ndY:(vQ X).Nodup:=sp.nodup_iff.mpr ndX
 refine ⟨vQ X,?_,T.same ndY fun f=>sp.mem_iff,?_⟩
 ·refine yT (e:=mk X x3 x4 x5) [some (dF F G),some (.lst (D.map PV.int)),none,none,none,none] rfl ?_
  unfold ut
  have hv:zY (zA 1) (mk [] none none none)=some (D.map PV.int):=rfl
  rw [zF (e:=mk [] none none none) rfl,zF (by rw [yi,hv,Option.bind_some];exact h1),wK,zT (as:=[.lst (X.map PV.int)]) rfl (j4 hXl)];rfl
 ·exact ((xm X).and ndY).imp fun ⟨h1,h2⟩=>by omega
end
noncomputable def wj:FS:=(zU (y7 (fOr (uN (yr (zJ xP (zC (zA 5) (zC (fC (.ty "tuple")) zI))))) (fOr (fT (fOp vNe (zJ yo (zC (zA 5) zI)) (fC (.int 2)))) (fOr (fT (fOp z4 (fOp vIx (zA 5) (fC (.int 0))) (zA 4))) (fT (fOp xz (fOp vIx (zA 5) (fC (.int 1))) (zA 4)))))) (yM (fC (.bl false))) fNx)
 (zU (y7 (fOr (yr (zJ xP (zC (fOp vIx (zA 5) (fC (.int 0))) (zC (fC (.ty "bool")) zI)))) (yr (zJ xP (zC (fOp vIx (zA 5) (fC (.int 1))) (zC (fC (.ty "bool")) zI))))) (yM (fC (.bl false))) fNx)
 (zU (zh 4 (fLC (zY (zA 4)) 1 [5] (zP 0) (fT (fOp vNe (zA 0) (fOp vIx (zA 1) (fC (.int 0))))) (zm (zA 0))))
 (zU (zff (kM 2 (yu (zP 6) (yu (zP 7) kN))) (fOp vIx (zA 0) (fOp vIx (zA 5) (fC (.int 1)))))
 (zU (y7 (fT (fOp zat (zA 7) (zJ yJ (zC (zA 0) (zC (zA 4) (zC (zA 6) zI)))))) (yM (fC (.bl false))) fNx)
 (zt 4 (zm (fOp vIx (zA 5) (fC (.int 1))))))))))
noncomputable def v8:FS:=(zU (y7 (uN (yr (zJ xP (zC (zA 3) (zC (fC (.ty "list")) zI))))) (yM (fC (.bl false))) fNx)
 (zU (y7 (fT (fOp vNe (zJ xG (zC (fLC (zY (zA 3)) 1 [] (zP 0) ja (zm (fOp vIx (zA 0) (fC (.int 0))))) zI)) (fLC (zY (zA 1)) 1 [2] (zP 0) (fT (fOp z4 (zA 0) (zA 1))) (zm (zA 0))))) (yM (fC (.bl false))) fNx)
 (zU (y7 (fT (fOp vNe (zJ xG (zC (fLC (zY (zA 3)) 1 [] (zP 0) ja (zm (fOp vIx (zA 0) (fC (.int 1))))) zI)) (fLC (zY (zA 2)) 1 [1] (zP 0) (fT (fOp z4 (zA 0) (zA 1))) (zm (zA 0))))) (yM (fC (.bl false))) fNx)
 (zU (zh 4 (zJ xH (zC (zA 1) zI)))
 (zU (xu (zY (zA 3)) (zP 5) wj)
 (yM (fOp vEq (zJ xG (zC (zA 4) zI)) (zA 2))))))))
noncomputable def yL:List PV->Option PV:=fnV 8 v8
noncomputable def zfZ:FS:=(zU (zh 1 (kG wM (zJ xD (zC (zA 0) (zC (fC (.int 0)) zI))) zI))
 (zU (zh 2 (zJ vL (zC (fOp vIx (zA 1) (fC (.int 0))) (zC (fOp vIx (zA 1) (fC (.int 1))) (zC (zJ xH (zC (fOp vIx (zA 1) (fC (.int 2))) zI)) zI)))))
 (zU (zh 3 (zJ zau (zC (fLC (zY (fOp vIx (zA 1) (fC (.int 2)))) 1 [1] (zP 0) ja (xJ (zC (zm (zA 0)) (zC (zJ ym (zC (zA 1) (zC (zA 0) zI))) zI)))) zI)))
 (zU (zh 4 (zJ xV (zC (zA 3) (zC (kG xU (zJ xD (zC (zA 0) (zC (fC (.int 1)) zI))) (zC (fOp vIx (zA 1) (fC (.int 2))) zI)) zI))))
 (zU (zh 5 (zJ xV (zC (zA 3) (zC (kG xU (zJ xD (zC (zA 0) (zC (fC (.int 2)) zI))) (zC (fOp vIx (zA 1) (fC (.int 2))) zI)) zI))))
 (zU (zh 6 (xA (zC (zJ xH (zC (zA 4) zI)) (zC (zJ xH (zC (zA 5) zI)) zI))))
 (zU (zh 7 (zJ yP (zC (zA 2) (zC (fOp vIx (zA 6) (fC (.int 0))) (zC (fOp vIx (zA 6) (fC (.int 1))) zI)))))
 (zU (y7 (fOr (uN (yr (zJ yL (zC (zA 3) (zC (zA 4) (zC (zA 5) (zC (zA 7) zI))))))) (fT (fOp vNe (zA 6) (xA (zC (zA 4) (zC (zA 5) zI)))))) (yM (fC (.bl false))) fNx)
 (zU (zt 7 (xJ (zC (fC (.int 0)) (zC (fC (.int 0)) zI))))
 (zU (y7 (uN (yr (zJ yL (zC (zA 3) (zC (zA 5) (zC (zA 4) (zC (zJ yP (zC (zA 2) (zC (fOp vIx (zA 6) (fC (.int 1))) (zC (fOp vIx (zA 6) (fC (.int 0))) zI)))) zI))))))) (yM (fC (.bl false))) fNx)
 (zU (y7 (fT (fOp vNe (zJ yP (zC (zA 2) (zC (zA 4) (zC (zJ xH (zC (zA 4) zI)) zI)))) (xA zI))) (yM (fC (.bl false))) fNx)
 (yM (zJ yL (zC (zA 3) (zC (zA 4) (zC (zA 5) (zC (zJ yP (zC (zA 2) (zC (zA 4) (zC (zA 5) zI)))) zI)))))))))))))))))
noncomputable def zam:List PV->Option PV:=fnV 8 zfZ
theorem zdk:∀ {ps:List (Int × Int)} {now:List Int} {x:Int},x ∈ yI now ps->x ∈ now∨x ∈ ps.map (·.2)
 | [],now,x,h=>.inl h
 | p::ps,now,x,h=>by
  rcases zdk (ps:=ps) (now:=wo now p.1++[p.2]) h with z | z
  ·rcases List.mem_append.mp z with z | z
   ·exact .inl (mem_wo.mp z).1
   ·exact .inr (by rw [List.mem_singleton.mp z];simp)
  ·exact .inr (List.mem_cons_of_mem _ z)
theorem zgi:∀ (ps:List (Int × Int)) (now:List Int),(yI now ps).length≤now.length+ps.length
 | [],now=>Nat.le_refl _
 | p::ps,now=>by
  have h1:=zgi ps (wo now p.1++[p.2])
  have h2:(wo now p.1).length≤now.length:=List.length_filter_le _ _
  rw [List.length_append,List.length_singleton] at h1
  rw [List.length_cons]
  show (yI (wo now p.1++[p.2]) ps).length≤_
  omega
theorem zhK{E:En}{fa fb:FE}{A M:List Int}(ha:fa E=some (.lst (A.map PV.int)))(hb:fb E=some (.lst (M.map PV.int)))(hl:A.length<64)(h:vQ A=M):fT (fOp vNe (zJ xG (zC fa zI)) fb) E=some false:=by
 rw [jg,yA,zT (as:=[.lst (A.map PV.int)]) (by rw [zS,ha];rfl) (j4 hl),hb,Option.bind_some,Option.bind_some,zio,decide_eq_true h];rfl
theorem zcm{A B:List Int}{i j:Nat}{E:En}(hi:zA i E=some (.lst (A.map PV.int)))(hj:cE 1 [j] E=[none,some (.lst (B.map PV.int))])(hl:A.length≤1000):fLC (zY (zA i)) 1 [j] (zP 0) (fT (fOp z4 (zA 0) (zA 1))) (zm (zA 0)) E=some (.lst ((A.filter fun f=>!decide (f ∈ B)).map PV.int)):=
 vW (qs:=A.map PV.int) (by rw [xX,hi];rfl) hj (by rw [List.length_map];omega) (yd (fun f=>!decide (f ∈ B)) PV.int A fun s _=>⟨_,rfl,by simp,fun _=>rfl⟩)
theorem zfY{ps:List (Int × Int)}{k:Int}{g:Int × Int->Int}{E:En}{i:Nat}(hi:zA i E=some (.lst (ps.map y8)))(hl:ps.length≤1000)(hk:∀ p,fOp vIx (zA 0) (fC (.int k)) [some (y8 p)]=some (.int (g p))):fLC (zY (zA i)) 1 [] (zP 0) ja (zm (fOp vIx (zA 0) (fC (.int k)))) E=some (.lst ((ps.map g).map PV.int)):=by
 rw [vW (qs:=ps.map y8) (E':=[none]) (by rw [xX,hi];rfl) rfl (by rw [List.length_map];omega) (wZ (fun p=>PV.int (g p)) ps fun p _=>⟨_,rfl,rfl,by rw [qg];show (fOp vIx (zA 0) (fC (.int k)) [some (y8 p)]).bind _=_;rw [hk];rfl⟩),List.map_map];rfl
section
variable {ls:List (List Int)} {F One Oth:List Int} {n:Nat} {lab:Nat->PV} {G:Int->PV} {ps:List (Int × Int)}
theorem zbU(Ed:Ends ls F n lab G)(hFl:F.length≤36)(T:Tree ls F One)(U:Tree ls F Oth)(rT:One.Pairwise (·<·))(rU:Oth.Pairwise (·<·))(X:Exch ls F One Oth (One.filter fun f=>!decide (f ∈ Oth)) ps):yL [dF F G,.lst (One.map PV.int),.lst (Oth.map PV.int),.lst (ps.map y8)]=some (.bl true):=by
 have l1:One.length≤36:=Nat.le_trans (zL _ _ T.nd T.sub) hFl
 have l2:Oth.length≤36:=Nat.le_trans (zL _ _ U.nd U.sub) hFl
 have lp:ps.length≤36:=by
  have h1:=congrArg List.length X.outs
  have h2:=List.length_filter_le (fun f=>!decide (f ∈ Oth)) One
  rw [List.length_map] at h1
  omega
 have le:(yI One ps).length≤36:=Nat.le_trans (zL _ _ X.tree.nd X.tree.sub) hFl
 have same:=X.tree.eq U fun x hx=>by
  rcases X.inn x hx with z | ⟨z1,z2⟩
  ·exact z
  ·by_cases z:x ∈ Oth
   ·exact z
   ·exact absurd (List.mem_filter.mpr ⟨z1,by simp [z]⟩) z2
 have sort1:vQ (ps.map (·.1))=One.filter fun f=>!decide (f ∈ Oth):=by
  rw [X.outs]
  exact jm (T.nd.filter _) (rT.filter _) fun _=>Iff.rfl
 have sort2:vQ (ps.map (·.2))=Oth.filter fun f=>!decide (f ∈ One):=jm X.nd (rU.filter _) fun s=>by
  rw [List.mem_filter]
  constructor
  ·intro z
   obtain ⟨p,hp,rfl⟩:=List.mem_map.mp z
   obtain ⟨c1,c2,_⟩:=X.comes p hp
   exact ⟨c1,by simp [c2]⟩
  ·rintro ⟨z1,z2⟩
   have z3:s ∉ One:=by simpa using z2
   exact (zdk ((same s).mp z1)).resolve_left z3
 have sort3:vQ (yI One ps)=Oth:=jm X.tree.nd rU fun s=>(same s).symm
 let mk:Option PV->Option PV->Option PV->Option PV->En:=fun x4 x5 x6 x7=>[some (dF F G),some (.lst (One.map PV.int)),some (.lst (Oth.map PV.int)),some (.lst (ps.map y8)),x4,x5,x6,x7]
 obtain ⟨e,f1,x5,x6,x7,rfl⟩:=yh (b:=zP 5) (g:=wj) (xs:=ps) (hh:=y8) (env:=mk (some (.lst (One.map PV.int))) none none none)
  (fun pre e=>∃ x5 x6 x7,e=mk (some (.lst ((yI One pre).map PV.int))) x5 x6 x7) ⟨none,none,none,rfl⟩ (by
   rintro pre p post e hp ⟨x5,x6,x7,rfl⟩
   obtain ⟨w1,w2,w3⟩:=X.walk pre p post hp
   have hpp:p ∈ ps:=by rw [hp];simp
   have hpF:p.2 ∈ F:=U.sub _ (X.comes p hpp).1
   have hnF:∀ f ∈ wo (yI One pre) p.1,f ∈ F:=fun f hf=>by
    rcases zdk (mem_wo.mp hf).1 with z | z
    ·exact T.sub f z
    ·obtain ⟨q,hq,rfl⟩:=List.mem_map.mp z
     exact U.sub _ (X.comes q (by rw [hp];exact List.mem_append_left _ hq)).1
   have hnl:(yI One pre).length≤1000:=by
    have h1:=zgi pre One
    have h2:=congrArg List.length hp
    rw [List.length_append] at h2
    omega
   have hwl:(wo (yI One pre) p.1).length≤1000:=Nat.le_trans (List.length_filter_le _ _) hnl
   obtain ⟨q,b,q1,q2,q3⟩:=zcf Ed hnF hpF
   have hb:b=false:=by
    cases b with
    | false=>rfl
    | true=>exact absurd (q3.mp rfl) w3
   subst hb
   have hix:=jz (L:=F) (G:=G) hpF
   rw [Ed.at' _ hpF] at hix
   rw [wF]
   generalize yI One pre=now at *
   generalize hl1:lab (rc ls p.2).1=a1 at *
   generalize hl2:lab (rc ls p.2).2=a2 at *
   let P:=some (y8 p)
   let N:=some (PV.lst (now.map PV.int))
   let N':=some (PV.lst ((wo now p.1).map PV.int))
   refine ⟨mk N P x6 x7,mk (some (.lst ((wo now p.1++[p.2]).map PV.int))) P (some a1) (some a2),rfl,.inl ?_,_,_,_,rfl⟩
   have i0:∀ x4 x6 x7,fOp vIx (zA 5) (fC (.int 0)) (mk x4 P x6 x7)=some (.int p.1):=fun _ _ _=>zde rfl
   have i1:∀ x4 x6 x7,fOp vIx (zA 5) (fC (.int 1)) (mk x4 P x6 x7)=some (.int p.2):=fun _ _ _=>zeZ rfl
   have v4:zA 4 (mk N P x6 x7)=some (.lst (now.map PV.int)):=rfl
   unfold wj
   rw [zF (e:=mk N P x6 x7) (by
    have t1:uN (yr (zJ xP (zC (zA 5) (zC (fC (.ty "tuple")) zI)))) (mk N P x6 x7)=some false:=by
     rw [zdt];unfold yr
     rw [zT (as:=[y8 p,.ty "tuple"]) rfl (p:=.bl true) rfl];rfl
    have t2:fT (fOp vNe (zJ yo (zC (zA 5) zI)) (fC (.int 2))) (mk N P x6 x7)=some false:=by
     rw [jg,yA,zT (as:=[y8 p]) rfl (p:=.int 2) rfl]
     show (vNe (.int 2) (.int 2)).bind yC=_
     rw [zkX];rfl
    have t3:fT (fOp z4 (fOp vIx (zA 5) (fC (.int 0))) (zA 4)) (mk N P x6 x7)=some false:=by
     rw [jg,yA,i0,v4,Option.bind_some,Option.bind_some]
     unfold z4
     rw [zfc,decide_eq_true w1];rfl
    have t4:fT (fOp xz (fOp vIx (zA 5) (fC (.int 1))) (zA 4)) (mk N P x6 x7)=some false:=by
     rw [jg,yA,i1,v4,Option.bind_some,Option.bind_some]
     unfold xz
     rw [zfc,decide_eq_false w2];rfl
    rw [zr,qy,t1,Option.bind_some,if_neg Bool.false_ne_true,qy,t2,Option.bind_some,if_neg Bool.false_ne_true,qy,t3,Option.bind_some,if_neg Bool.false_ne_true,t4];rfl)]
   rw [zF (e:=mk N P x6 x7) (by
    have t1:yr (zJ xP (zC (fOp vIx (zA 5) (fC (.int 0))) (zC (fC (.ty "bool")) zI))) (mk N P x6 x7)=some false:=by
     unfold yr
     rw [zT (as:=[.int p.1,.ty "bool"]) (by rw [zS,i0];rfl) (p:=.bl false) rfl];rfl
    have t2:yr (zJ xP (zC (fOp vIx (zA 5) (fC (.int 1))) (zC (fC (.ty "bool")) zI))) (mk N P x6 x7)=some false:=by
     unfold yr
     rw [zT (as:=[.int p.2,.ty "bool"]) (by rw [zS,i1];rfl) (p:=.bl false) rfl];rfl
    rw [zr,qy,t1,Option.bind_some,if_neg Bool.false_ne_true,t2];rfl)]
   rw [zF (e:=mk N' P x6 x7) (xo (vW (qs:=now.map PV.int) (E':=[none,some (y8 p)]) rfl rfl (by rw [List.length_map];omega) (yd (fun g=>!decide (g=p.1)) PV.int now fun g _=>⟨_,rfl,by
    have hx:fOp vIx (zA 1) (fC (.int 0)) [some (.int g),some (y8 p)]=some (.int p.1):=zde rfl
    show fT (fOp vNe (zA 0) (fOp vIx (zA 1) (fC (.int 0)))) [some (.int g),some (y8 p)]=_
    rw [jg,yA,hx]
    show (vNe (.int g) (.int p.1)).bind yC=_
    rw [zkX];rfl,fun _=>rfl⟩)))]
   rw [zF (e:=mk N' P (some a1) (some a2)) (by
    have hv0:zA 0 (mk N' P x6 x7)=some (dF F G):=rfl
    rw [zjs,yA,hv0,i1,Option.bind_some,Option.bind_some,hix];rfl)]
   rw [zF (e:=mk N' P (some a1) (some a2)) (by
    have hv7:zA 7 (mk N' P (some a1) (some a2))=some a2:=rfl
    have t1:fT (fOp zat (zA 7) (zJ yJ (zC (zA 0) (zC (zA 4) (zC (zA 6) zI))))) (mk N' P (some a1) (some a2))=some false:=by
     rw [jg,yA,hv7,zT (as:=[dF F G,.lst ((wo now p.1).map PV.int),a1]) rfl q1,Option.bind_some,Option.bind_some]
     unfold zat
     rw [q2];rfl
    rw [zr,t1];rfl)]
   unfold zt
   have hv4:zA 4 (mk N' P (some a1) (some a2))=some (.lst ((wo now p.1).map PV.int)):=rfl
   rw [qg,i1,hv4]
   simp only [Option.bind_some,zeo,if_true,List.length_map,show (wo now p.1).length<100000 by omega]
   rw [List.map_append];rfl)
 refine yT (e:=mk (some (.lst ((yI One ps).map PV.int))) x5 x6 x7) (mk none none none none) rfl ?_
 unfold v8
 rw [zF (e:=mk none none none none) (by
  have t1:uN (yr (zJ xP (zC (zA 3) (zC (fC (.ty "list")) zI)))) (mk none none none none)=some false:=by
   rw [zdt];unfold yr
   rw [zT (as:=[.lst (ps.map y8),.ty "list"]) rfl (p:=.bl true) rfl];rfl
  rw [zr,t1];rfl)]
 rw [zF (e:=mk none none none none) (by
  rw [zr,zhK (zfY (g:=(·.1)) rfl (by omega) fun p=>zde rfl) (zcm rfl rfl (by omega)) (by rw [List.length_map];omega) sort1];rfl)]
 rw [zF (e:=mk none none none none) (by
  rw [zr,zhK (zfY (g:=(·.2)) rfl (by omega) fun p=>zeZ rfl) (zcm rfl rfl (by omega)) (by rw [List.length_map];omega) sort2];rfl)]
 rw [zF (e:=mk (some (.lst (One.map PV.int))) none none none) (z8 (as:=[.lst (One.map PV.int)]) rfl (uK One))]
 have hsq:zY (zA 3) (mk (some (.lst (One.map PV.int))) none none none)=some (ps.map y8):=rfl
 rw [zF (by rw [yi,hsq,Option.bind_some];exact f1)]
 have hv2:zA 2 (mk (some (.lst ((yI One ps).map PV.int))) x5 x6 x7)=some (.lst (Oth.map PV.int)):=rfl
 rw [wK,yA,zT (as:=[.lst ((yI One ps).map PV.int)]) rfl (j4 (by omega)),sort3,hv2,Option.bind_some,Option.bind_some,zja,decide_eq_true rfl];rfl
end
theorem zdL{G:Int->PV}(hd:∀ f,zl (G f)=true):∀ F:List Int,_root_.F.pairsOf (F.map fun f=>PV.tup [.int f,G f])=some (F.map fun f=>(f,G f))
 | []=>rfl
 | f::F=>by
  rw [List.map_cons]
  unfold _root_.F.pairsOf
  dsimp only
  rw [if_pos (hd f),zdL hd F];rfl
theorem zkG{G:Int->PV}(hd:∀ f,zl (G f)=true){F:List Int}(nd:F.Nodup)(hl:F.length≤1000):zau [.lst (F.map fun f=>PV.tup [.int f,G f])]=some (dF F G):=by
 have e1:(F.map fun f=>(f,G f)).map (·.1)=F:=by rw [List.map_map];exact List.map_id F
 unfold zau
 dsimp only
 rw [zdL hd,Option.bind_some,if_pos ⟨by rw [e1];exact nd,by rw [List.length_map];exact hl⟩,List.map_map,List.map_map];rfl
theorem ziA(ns:List Int)(hl:ns.length≤63)(hb:∀ m ∈ ns,Builtin.Int.intBits m≤1048576):zam [.fls (ns.map PV.int)]=some (.bl true):=by
 have SC:Scr ns:=⟨hl,hb⟩
 obtain ⟨m0,hpen0,p0⟩:=zeM SC (j:=0) (by decide) (by decide)
 obtain ⟨m1,hpen1,p1⟩:=zeM SC (j:=1) (by decide) (by decide)
 obtain ⟨m2,hpen2,p2⟩:=zeM SC (j:=2) (by decide) (by decide)
 obtain ⟨w,h,F,ns',hfl,fl,_⟩:=ziU p0
 obtain ⟨rs,cs,L0,G0,S,hs,C⟩:=zhm fl
 have hFl:=xc fl
 have nd:=zi fl.rise
 have few:=S.few
 have ff:=zfe fl
 obtain ⟨D1,_,d1,_,o1⟩:=zdO (F:=F) p1 (by omega)
 obtain ⟨D2,_,d2,_,o2⟩:=zdO (F:=F) p2 (by omega)
 let G:Int->PV:=fun f=>.tup [qR rs cs (rc (zn w rs cs) f).1,qR rs cs (rc (zn w rs cs) f).2]
 have Ed:Ends (zn w rs cs) F (rs.length+cs.length) (qR rs cs) G:=⟨S.lab,fun f _=>rfl,fun f hf=>by
  obtain ⟨_,q1,q2,q3⟩:=S.rc_of hf
  omega,by omega⟩
 have hG:∀ f,zl (G f)=true:=fun f=>by
  show isDatas [_,_]=true
  rw [wX]
  intro x hx
  rcases List.mem_cons.mp hx with rfl | hx
  ·exact S.lab.dat _
  ·rw [List.mem_singleton.mp hx];exact S.lab.dat _
 have hfs:∀ f ∈ F,ym [flV w h F,.int f]=some (G f):=fun f hf=>zhd S hf
 have hdc:=zkG hG nd (by omega)
 obtain ⟨One,g1,T,r1⟩:=zeg Ed nd (by omega) d1
 obtain ⟨Oth,g2,U,r2⟩:=zeg Ed nd (by omega) d2
 obtain ⟨ps,x1,X1⟩:=uy S C hs hFl T U
 obtain ⟨qs,x2,X2⟩:=uy S C hs hFl U T
 obtain ⟨zs,x3,X3⟩:=uy S C hs hFl T T
 have hz:zs=[]:=by
  have:=X3.outs
  rw [List.filter_eq_nil_iff.mpr (fun f hf=>by simp [hf])] at this
  exact List.map_eq_nil_iff.mp this
 subst hz
 have w1:=zbU Ed hFl T U r1 r2 X1
 have w2:=zbU Ed hFl U T r2 r1 X2
 have lp:ps.length≤36:=by
  have h1:=congrArg List.length X1.outs
  have h2:=List.length_filter_le (fun f=>!decide (f ∈ Oth)) One
  have h3:=Nat.le_trans (zL _ _ T.nd T.sub) hFl
  rw [List.length_map] at h1
  omega
 clear X1 X2 X3 Ed C S hs few
 generalize hGG:dF F G=Dv at *
 let mk:Option PV->Option PV->Option PV->Option PV->Option PV->Option PV->Option PV->En:=fun x1 x2 x3 x4 x5 x6 x7=>[some (scr ns),x1,x2,x3,x4,x5,x6,x7]
 let L:=some (flV w h F)
 let D:=some Dv
 let A:=some (PV.lst (One.map PV.int))
 let B:=some (PV.lst (Oth.map PV.int))
 let hv:=PV.lst [.lst (One.map PV.int),.lst (Oth.map PV.int)]
 have okh:okB 2 hv:=kh fun p hp=>by
  rcases List.mem_cons.mp hp with rfl | hp
  ·exact kh (zdX One)
  ·rw [List.mem_singleton.mp hp];exact kh (zdX Oth)
 suffices hz:∃ e,zfZ (mk none none none none none none none)=some (.rt (.bl true) e) by
  obtain ⟨e,hz⟩:=hz
  exact yT _ rfl hz
 unfold zfZ
 rw [zF (e:=mk L none none none none none none) (xo (zbF (ns:=m0) (ps:=[]) (zT (as:=[scr ns,.int 0]) rfl hpen0) rfl rfl hfl))]
 have i2:∀ x2 x3 x4 x5 x6 x7,fOp vIx (zA 1) (fC (.int 2)) (mk L x2 x3 x4 x5 x6 x7)=some (.tup (F.map PV.int)):=fun _ _ _ _ _ _=>zmi rfl
 rw [zF (e:=mk L L none none none none none) (by
  have j0:fOp vIx (zA 1) (fC (.int 0)) (mk L none none none none none none)=some (.int w):=zde rfl
  have j1:fOp vIx (zA 1) (fC (.int 1)) (mk L none none none none none none)=some (.int h):=zeZ rfl
  refine z8 (as:=[.int w,.int h,.lst (F.map PV.int)]) ?_ ff
  rw [zS,j0,zS,j1,zS,zT (as:=[.tup (F.map PV.int)]) (by rw [zS,i2];rfl) (by rw [ziw,if_pos xK])];rfl)]
 rw [zF (e:=mk L L D none none none none) (by
  refine z8 (as:=[.lst (F.map fun f=>PV.tup [.int f,G f])]) ?_ hdc
  have hc:yO (zP 0) ja (xJ (zC (zm (zA 0)) (zC (zJ ym (zC (zA 1) (zC (zA 0) zI))) zI))) (F.map PV.int) [none,some (flV w h F)]=some (F.map fun f=>PV.tup [.int f,G f]):=wZ _ F fun f hf=>⟨_,rfl,rfl,by
   rw [zfo,zS,zS,zT (as:=[flV w h F,.int f]) rfl (hfs f hf)];rfl⟩
  rw [zS,vW (qs:=F.map PV.int) (by rw [xX,i2];rfl) rfl (by rw [List.length_map];omega) hc];rfl)]
 have dF1:isDatas [PV.tup (F.map PV.int)]=true:=by simp
 rw [zF (e:=mk L L D A none none none) (by
  refine z8 (as:=[Dv,.lst (D1.map PV.int)]) ?_ g1
  rw [zS,zS,zbF (ns:=m1) (ps:=[.tup (F.map PV.int)]) (zT (as:=[scr ns,.int 1]) rfl hpen1) (by rw [zS,i2];rfl) dF1 o1];rfl)]
 rw [zF (e:=mk L L D A B none none) (by
  refine z8 (as:=[Dv,.lst (D2.map PV.int)]) ?_ g2
  rw [zS,zS,zbF (ns:=m2) (ps:=[.tup (F.map PV.int)]) (zT (as:=[scr ns,.int 2]) rfl hpen2) (by rw [zS,i2];rfl) dF1 o2];rfl)]
 rw [zF (e:=mk L L D A B (some hv) none) (xo (by
  rw [zfp,zS,zT (as:=[.lst (One.map PV.int)]) rfl (uK One),zS,zT (as:=[.lst (Oth.map PV.int)]) rfl (uK Oth)];rfl))]
 have h0:∀ x7,fOp vIx (zA 6) (fC (.int 0)) (mk L L D A B (some hv) x7)=some (.lst (One.map PV.int)):=fun _=>by
  show atI [PV.lst (One.map PV.int),.lst (Oth.map PV.int)] 0=_
  exact zgo
 have h1:∀ x7,fOp vIx (zA 6) (fC (.int 1)) (mk L L D A B (some hv) x7)=some (.lst (Oth.map PV.int)):=fun _=>by
  show atI [PV.lst (One.map PV.int),.lst (Oth.map PV.int)] 1=_
  exact zlc
 let Z:=some (PV.lst (ps.map y8))
 rw [zF (e:=mk L L D A B (some hv) Z) (z8 (as:=[flV w h F,.lst (One.map PV.int),.lst (Oth.map PV.int)]) (by rw [zS,zS,h0,zS,h1];rfl) x1)]
 rw [zF (e:=mk L L D A B (some hv) Z) (by
  have t1:uN (yr (zJ yL (zC (zA 3) (zC (zA 4) (zC (zA 5) (zC (zA 7) zI)))))) (mk L L D A B (some hv) Z)=some false:=by
   rw [zdt];unfold yr
   rw [zT (as:=[Dv,.lst (One.map PV.int),.lst (Oth.map PV.int),.lst (ps.map y8)]) rfl w1];rfl
  have t2:fT (fOp vNe (zA 6) (xA (zC (zA 4) (zC (zA 5) zI)))) (mk L L D A B (some hv) Z)=some false:=by
   show (vNe hv hv).bind yC=_
   rw [zcZ okh (by decide)];rfl
  rw [zr,qy,t1,Option.bind_some,if_neg Bool.false_ne_true,t2];rfl)]
 let Z':=some (PV.lst (ps.map y8++[.tup [.int 0,.int 0]]))
 rw [zF (e:=mk L L D A B (some hv) Z') (by
  unfold zt
  have hv7:zA 7 (mk L L D A B (some hv) Z)=some (.lst (ps.map y8)):=rfl
  have ht:xJ (zC (fC (.int 0)) (zC (fC (.int 0)) zI)) (mk L L D A B (some hv) Z)=some (.tup [.int 0,.int 0]):=rfl
  rw [hv7,ht]
  simp only [Option.bind_some,List.length_map,show ps.length<100000 by omega,if_true]
  rfl)]
 rw [zF (e:=mk L L D A B (some hv) Z') (by
  have t1:uN (yr (zJ yL (zC (zA 3) (zC (zA 5) (zC (zA 4) (zC (zJ yP (zC (zA 2) (zC (fOp vIx (zA 6) (fC (.int 1))) (zC (fOp vIx (zA 6) (fC (.int 0))) zI)))) zI)))))) (mk L L D A B (some hv) Z')=some false:=by
   rw [zdt];unfold yr
   rw [zT (as:=[Dv,.lst (Oth.map PV.int),.lst (One.map PV.int),.lst (qs.map y8)]) (by
    rw [zS,zS,zS,zS,zT (as:=[flV w h F,.lst (Oth.map PV.int),.lst (One.map PV.int)]) (by rw [zS,zS,h1,zS,h0];rfl) x2];rfl) w2];rfl
  rw [zr,t1];rfl)]
 rw [zF (e:=mk L L D A B (some hv) Z') (by
  have t1:fT (fOp vNe (zJ yP (zC (zA 2) (zC (zA 4) (zC (zJ xH (zC (zA 4) zI)) zI)))) (xA zI)) (mk L L D A B (some hv) Z')=some false:=by
   rw [jg,yA,zT (as:=[flV w h F,.lst (One.map PV.int),.lst (One.map PV.int)]) (by rw [zS,zS,zS,zT (as:=[.lst (One.map PV.int)]) rfl (uK One)];rfl) x3]
   show (vNe (.lst []) (.lst [])).bind yC=_
   rw [zcZ (kh (d:=0) (by simp)) (by decide)];rfl
  rw [zr,t1];rfl)]
 refine ⟨mk L L D A B (some hv) Z',?_⟩
 rw [wK,zT (as:=[Dv,.lst (One.map PV.int),.lst (Oth.map PV.int),.lst (ps.map y8)]) (by
  rw [zS,zS,zS,zS,zT (as:=[flV w h F,.lst (One.map PV.int),.lst (Oth.map PV.int)]) rfl x1];rfl) w1];rfl
end Cb
namespace Cb
open PySem L2 F PyProof.Rows
noncomputable def top(i:Nat):Stmt:=PySem.Challenge.pw_crossbrace_k27_from_choice_to_choice.main.body.getD i (.Pass ⟨0,0,0,0⟩)
structure Blt (mg:Str->Option Value):Prop where
 bool_:mg "bool"=none
 dict_:mg "dict"=none
 enumerate_:mg "enumerate"=none
 int_:mg "int"=none
 isinstance_:mg "isinstance"=none
 len_:mg "len"=none
 list_:mg "list"=none
 range_:mg "range"=none
 sorted_:mg "sorted"=none
 tuple_:mg "tuple"=none
 zip_:mg "zip"=none
variable {P:Program} {w:World} {K:PySem.W.Frag} {mg:Str->Option Value} {base:Heap} {f:Addr} {fd:FuncData}
noncomputable abbrev jL:Stmt:=top 40
theorem sc__law_near:FnScope ["_law_wide","_law_high","_law_place","_law_x","_law_y","_law_some"] ["_law_wide","_law_high","_law_place"] (zN jL):=⟨rfl,rfl,rfl,by decide +kernel,rfl,by decide +kernel,by decide +kernel⟩
theorem zcY(F:Fun K "_law_near" "_law_near" jL f fd)(B:Blt mg):FnOk P w K mg base CX0 1 f fd ["_law_wide","_law_high","_law_place"] (spV K 3 xO):=
 xS (g:=jZ) (n:=3) (m:=6) [] rfl rfl (by decide) F sc__law_near fun cdv A outer s H E hr=>by
  have nd:=sc__law_near.nd
  have hu:=yH hr
  have hu64:=hr.units
  exact (zD (zM (i:=3) rfl (zO (i:=3) nd rfl (by first|exact .inl rfl|exact .inr rfl) (VE.sh (zZ xt xq (zB 2 rfl (pv 2)) (zB 0 rfl (pv 0))))))
   (zD (zM (i:=4) rfl (zO (i:=4) nd rfl (by first|exact .inl rfl|exact .inr rfl) (VE.sh (zZ uf ue (zB 2 rfl (pv 2)) (zB 0 rfl (pv 0))))))
   (zD (zM (i:=5) rfl (zO (i:=5) nd rfl (by first|exact .inl rfl|exact .inr rfl) (yE (xF (z7 (xF (VE.sh (zZ yx yw (zB 3 rfl (pv 3)) zH)) (xF (zB 4 rfl (pv 4)) (zE (c:=.sh))))) (xF (z7 (xF (VE.sh (zZ yS yR (zB 3 rfl (pv 3)) zH)) (xF (zB 4 rfl (pv 4)) (zE (c:=.sh))))) (xF (z7 (xF (zB 3 rfl (pv 3)) (xF (VE.sh (zZ yx yw (zB 4 rfl (pv 4)) zH)) (zE (c:=.sh))))) (xF (z7 (xF (zB 3 rfl (pv 3)) (xF (VE.sh (zZ yS yR (zB 4 rfl (pv 4)) zH)) (zE (c:=.sh))))) (zE (c:=.sh)))))))))
   (zK (zb (xE (ow:=["_law_p","_law_q"]) (js:=[0,1]) (.mv []) (Or.inl rfl) (by decide) rfl (zg false (zB 5 rfl (pv 5))) (fun _ _ _ _=>(qE 2 rfl (yn (zR 0 rfl (zQ (i:=0) (show (["_law_p","_law_q","_law_wide","_law_high"]:List Str).Nodup by decide +kernel) rfl (by first|exact .inl rfl|exact .inr rfl))) (yn (zR 1 rfl (zQ (i:=1) (show (["_law_p","_law_q","_law_wide","_law_high"]:List Str).Nodup by decide +kernel) rfl (by first|exact .inl rfl|exact .inr rfl))) jj)))) (fun _ _ _ _=>(yK (VW.vt (zet (zdv zdQ kf zdN ke zH (zB 0 rfl (pv 0)) (zB 2 rfl (pv 2))) (zcG (zdv zdQ kf zdN ke zH (zB 1 rfl (pv 1)) (zB 3 rfl (pv 3)))))))) (fun _ _ _ _=>(zZ yS yR (zZ vp vo (zB 1 rfl (pv 1)) (zB 2 rfl (pv 2))) (zB 0 rfl (pv 0))))))))))
noncomputable abbrev wv:Stmt:=top 41
theorem sc__law_reached:FnScope ["_law_wide","_law_high","_law_starts","_law_some","_law_there","_law_at"] ["_law_wide","_law_high","_law_starts","_law_some"] (zN wv):=⟨rfl,rfl,rfl,by decide +kernel,rfl,by decide +kernel,by decide +kernel⟩
theorem q9(F:Fun K "_law_reached" "_law_reached" wv f fd)(B:Blt mg)
  (c__law_near:Fn P w K mg base "_law_near" 1 ["_law_wide","_law_high","_law_place"] (spV K 3 xO)):FnOk P w K mg base CX0 2 f fd ["_law_wide","_law_high","_law_starts","_law_some"] (spV K 4 yz):=
 xS (g:=vC) (n:=4) (m:=6) [4] rfl rfl (by decide) F sc__law_reached fun cdv A outer s H E hr=>by
  have nd:=sc__law_reached.nd
  have hu:=yH hr
  have hu64:=hr.units
  exact (zD (zc (i:=4) (by decide) (by first | exact (qk (i:=4) (ow:=["_law_place"]) (js:=[3]) (.mv []) nd rfl (by first|exact .inl rfl|exact .inr rfl) (Or.inl rfl) (by decide) rfl (zg false (zB 2 rfl (pv 2))) (fun _ _ _ _=>(zR 0 rfl (zQ (i:=0) (show (["_law_place","_law_some"]:List Str).Nodup by decide +kernel) rfl (by first|exact .inl rfl|exact .inr rfl)))) (fun _ _ _ _=>(yK (zX (vT hu) vS (zB 0 rfl (pv 0)) (zB 1 rfl (pv 1)) (by with_unfolding_all rfl)))) (fun _ _ _ _=>(VE.data (zB 0 rfl (pv 0)) (.mv [])))) | exact (zO (i:=4) nd rfl (by first|exact .inl rfl|exact .inr rfl) (xE (ow:=["_law_place"]) (js:=[3]) (.mv []) (Or.inl rfl) (by decide) rfl (zg false (zB 2 rfl (pv 2))) (fun _ _ _ _=>(zR 0 rfl (zQ (i:=0) (show (["_law_place","_law_some"]:List Str).Nodup by decide +kernel) rfl (by first|exact .inl rfl|exact .inr rfl)))) (fun _ _ _ _=>(yK (zX (vT hu) vS (zB 0 rfl (pv 0)) (zB 1 rfl (pv 1)) (by with_unfolding_all rfl)))) (fun _ _ _ _=>(VE.data (zB 0 rfl (pv 0)) (.mv [])))))))
   (zD (zM (i:=5) rfl (zO (i:=5) nd rfl (by first|exact .inl rfl|exact .inr rfl) (VE.sh zH)))
   (zD (wq 1000000 PassesOwn.never (zX kf ke (zB 5 rfl (pv 5)) (zf xL xM (by rfl) B.len_ PySem.boot_len (zG (yG 4 (pv 4)) (zE (c:=.bo)))) (zu _)) (zD (zc (i:=4) (by decide) (zO (i:=4) nd rfl (by first|exact .inl rfl|exact .inr rfl) (zZ yS yR (yG 4 (pv 4)) (xE (ow:=["_law_place"]) (js:=[3,4]) (.mv []) (Or.inl rfl) (by decide) rfl (zg false (VE.sh (zV c__law_near (hr.mono (by decide)) rfl (zG (zB 0 rfl (pv 0)) (zG (zB 1 rfl (pv 1)) (zG (za hu (yG 4 (pv 4)) (zB 5 rfl (pv 5)) (fun _ _=>rfl)) (zE (c:=.bo)))))))) (fun _ _ _ _=>(zR 0 rfl (zQ (i:=0) (show (["_law_place","_law_some","_law_there"]:List Str).Nodup by decide +kernel) rfl (by first|exact .inl rfl|exact .inr rfl)))) (fun _ _ _ _=>(yK (VW.vt (zet (zX (vT hu) vS (zB 0 rfl (pv 0)) (zB 1 rfl (pv 1)) (by with_unfolding_all rfl)) (zcG (zX (yq hu) yp (zB 0 rfl (pv 0)) (yG 2 (pv 2)) (by with_unfolding_all rfl))))))) (fun _ _ _ _=>(VE.data (zB 0 rfl (pv 0)) (.mv [])))))))
   (zK (zM (i:=5) rfl (zO (i:=5) nd rfl (by first|exact .inl rfl|exact .inr rfl) (VE.sh (zZ yS yR (zB 5 rfl (pv 5)) zH)))))))
   (zK (zb (u5 4 rfl (pv 4)))))))
noncomputable abbrev jK:Stmt:=top 39
theorem sc__law_take:FnScope ["_law_pen_here","_law_most","_law_found"] ["_law_pen_here","_law_most"] (zN jK):=⟨rfl,rfl,rfl,by decide +kernel,rfl,by decide +kernel,by decide +kernel⟩
theorem zcX(F:Fun K "_law_take" "_law_take" jK f fd)(B:Blt mg):FnOk P w K mg base CX0 1 f fd ["_law_pen_here","_law_most"] (spM K 2 ze):=
 zmo (g:=vX) (n:=2) (m:=3) [0] rfl rfl (by decide) (by decide) F sc__law_take fun cdv A outer s H G E hr=>by
  have nd:=sc__law_take.nd
  have hu:=yH hr
  have hu64:=hr.units
  exact (zD (yV (zX (jP hu64) qm (za hu (uS 0 (pv 0)) zH (fun _ _=>rfl)) zH (zu _)) (zD (zbV 0 (by decide) (ud (zZ xt xq (zZ yS yR (zZ yS yR (zZ vp vo (za hu (uS 0 (pv 0)) zH (fun _ _=>rfl)) (za hu (uS 0 (pv 0)) zH (fun _ _=>rfl))) (zZ vp vo zH (za hu (uS 0 (pv 0)) zH (fun _ _=>rfl)))) zH) zH) (jN (pv 0) zH wV)))
   (zK (zb (zZ xt xq (zZ uf ue (zZ xt xq (zZ vp vo (za hu (uS 0 (pv 0)) zH (fun _ _=>rfl)) zH) zH) zH) (zB 1 rfl (pv 1)))))) zj)
   (zD (zM (i:=2) rfl (zO (i:=2) nd rfl (by first|exact .inl rfl|exact .inr rfl) (VE.sh (zZ xt xq (za hu (uS 0 (pv 0)) zH (fun _ _=>rfl)) (zB 1 rfl (pv 1))))))
   (zD (zbV 0 (by decide) (ud (zZ uf ue (za hu (uS 0 (pv 0)) zH (fun _ _=>rfl)) (zB 1 rfl (pv 1))) (jN (pv 0) zH wV)))
   (zK (zb (VE.data (zB 2 rfl (pv 2)) (.mv [])))))))
noncomputable abbrev ub:Stmt:=top 42
theorem sc__law_floor:FnScope ["_law_pen_here","_law_wide","_law_high","_law_thin","_law_every","_law_some","_law_piece_here","_law_free","_law_rim","_law_outer"] ["_law_pen_here"] (zN ub):=⟨rfl,rfl,rfl,by decide +kernel,rfl,by decide +kernel,by decide +kernel⟩
theorem zbT(F:Fun K "_law_floor" "_law_floor" ub f fd)(B:Blt mg)
  (c__law_reached:Fn P w K mg base "_law_reached" 2 ["_law_wide","_law_high","_law_starts","_law_some"] (spV K 4 yz))
  (c__law_take:Fn P w K mg base "_law_take" 1 ["_law_pen_here","_law_most"] (spM K 2 ze)):FnOk P w K mg base CX0 3 f fd ["_law_pen_here"] (spM K 1 wM):=
 zmo (g:=uu) (n:=1) (m:=10) [0] rfl rfl (by decide) (by decide) F sc__law_floor fun cdv A outer s H G E hr=>by
  have nd:=sc__law_floor.nd
  have hu:=yH hr
  have hu64:=hr.units
  exact (zD (zcH (by decide) (zO (i:=1) nd rfl (by first|exact .inl rfl|exact .inr rfl) (zev yS yR zH (zhx (kS 0 rfl zah c__law_take (hr.mono (by decide)) rfl (pv 0) (xF (VE.sh zH) (zE (c:=.sh))))))))
   (zD (zcH (by decide) (zO (i:=2) nd rfl (by first|exact .inl rfl|exact .inr rfl) (zev yS yR zH (zhx (kS 0 rfl zah c__law_take (hr.mono (by decide)) rfl (pv 0) (xF (VE.sh zH) (zE (c:=.sh))))))))
   (zD (zcH (by decide) (zO (i:=3) nd rfl (by first|exact .inl rfl|exact .inr rfl) (zev yS yR zH (zhx (kS 0 rfl zah c__law_take (hr.mono (by decide)) rfl (pv 0) (xF (VE.sh zH) (zE (c:=.sh))))))))
   (zD (zM (i:=4) rfl (zO (i:=4) nd rfl (by first|exact .inl rfl|exact .inr rfl) (VE.sh (zgy (by rfl) (by rfl) B.list_ (by rfl) B.range_ (zG (zZ vp vo (zB 1 rfl (pv 1)) (zB 2 rfl (pv 2))) (zE (c:=.bo)))))))
   (zD (zjy (by decide) (zlE (ow:=["_law_place"]) (js:=[0,3]) (i:=0) (q:=1) (x:=5) rfl (by decide) (by decide) rfl nd rfl (by first|exact .inl rfl|exact .inr rfl) (by decide) rfl (zg true (zB 4 rfl (pv 4))) (fun _ _ _ _=>(zR 0 rfl (zQ (i:=0) (show (["_law_place","_law_pen_here","_law_thin"]:List Str).Nodup by decide +kernel) rfl (by first|exact .inl rfl|exact .inr rfl)))) (fun _ _ _ _=>(zhw kf ke (zhx (kS 1 rfl (zkJ (by decide) (by decide) rfl) c__law_take (hr.mono (by decide)) rfl (pv 1) (xF (zB 2 rfl (pv 2)) (zE (c:=.sh))))) (zZ yx yw (zB 2 rfl (pv 2)) zH) (zu _))) (fun _ _ _ _=>(VE.bo (zB 0 rfl (pv 0))))))
   (zD (yV (zX (jP hu64) qm (zB 5 rfl (pv 5)) (yE (zE (c:=.bo))) (zu _)) (zK (zM (i:=5) rfl (zO (i:=5) nd rfl (by first|exact .inl rfl|exact .inr rfl) (yE (xF (VE.sh zH) (zE (c:=.sh))))))) zj)
   (zD (zM (i:=6) rfl (zO (i:=6) nd rfl (by first|exact .inl rfl|exact .inr rfl) (VE.sh (zV c__law_reached (hr.mono (by decide)) rfl (zG (zB 1 rfl (pv 1)) (zG (zB 2 rfl (pv 2)) (zG (zdx (zB 5 rfl (pv 5)) zfx (zfw zH)) (zG (zB 5 rfl (pv 5)) (zE (c:=.bo))))))))))
   (zD (zM (i:=7) rfl (by first | exact qO (qk (i:=7) (ow:=["_law_place"]) (js:=[6]) (.mv []) nd rfl (by first|exact .inl rfl|exact .inr rfl) (Or.inl rfl) (by decide) rfl (zg false (zB 4 rfl (pv 4))) (fun _ _ _ _=>(zR 0 rfl (zQ (i:=0) (show (["_law_place","_law_piece_here"]:List Str).Nodup by decide +kernel) rfl (by first|exact .inl rfl|exact .inr rfl)))) (fun _ _ _ _=>(yK (zX (yq hu) yp (zB 0 rfl (pv 0)) (zB 1 rfl (pv 1)) (by with_unfolding_all rfl)))) (fun _ _ _ _=>(VE.data (zB 0 rfl (pv 0)) (.mv [])))) | exact (zO (i:=7) nd rfl (by first|exact .inl rfl|exact .inr rfl) (VE.sh (xE (ow:=["_law_place"]) (js:=[6]) (.mv []) (Or.inl rfl) (by decide) rfl (zg false (zB 4 rfl (pv 4))) (fun _ _ _ _=>(zR 0 rfl (zQ (i:=0) (show (["_law_place","_law_piece_here"]:List Str).Nodup by decide +kernel) rfl (by first|exact .inl rfl|exact .inr rfl)))) (fun _ _ _ _=>(yK (zX (yq hu) yp (zB 0 rfl (pv 0)) (zB 1 rfl (pv 1)) (by with_unfolding_all rfl)))) (fun _ _ _ _=>(VE.data (zB 0 rfl (pv 0)) (.mv []))))))))
   (zD (zM (i:=8) rfl (by first | exact qO (qk (i:=8) (ow:=["_law_place"]) (js:=[1,2]) (.mv []) nd rfl (by first|exact .inl rfl|exact .inr rfl) (Or.inl rfl) (by decide) rfl (zg false (zB 7 rfl (pv 7))) (fun _ _ _ _=>(zR 0 rfl (zQ (i:=0) (show (["_law_place","_law_wide","_law_high"]:List Str).Nodup by decide +kernel) rfl (by first|exact .inl rfl|exact .inr rfl)))) (fun _ _ _ _=>(yK (VW.vt (jv (zX (vT hu) vS (zZ xt xq (zB 0 rfl (pv 0)) (zB 1 rfl (pv 1))) (z7 (zG zH (zG (zZ yx yw (zB 1 rfl (pv 1)) zH) (zE (c:=.bo))))) (by with_unfolding_all rfl)) (j3 (zX (vT hu) vS (zZ uf ue (zB 0 rfl (pv 0)) (zB 1 rfl (pv 1))) (z7 (zG zH (zG (zZ yx yw (zB 2 rfl (pv 2)) zH) (zE (c:=.bo))))) (by with_unfolding_all rfl))))))) (fun _ _ _ _=>(VE.data (zB 0 rfl (pv 0)) (.mv [])))) | exact (zO (i:=8) nd rfl (by first|exact .inl rfl|exact .inr rfl) (VE.sh (xE (ow:=["_law_place"]) (js:=[1,2]) (.mv []) (Or.inl rfl) (by decide) rfl (zg false (zB 7 rfl (pv 7))) (fun _ _ _ _=>(zR 0 rfl (zQ (i:=0) (show (["_law_place","_law_wide","_law_high"]:List Str).Nodup by decide +kernel) rfl (by first|exact .inl rfl|exact .inr rfl)))) (fun _ _ _ _=>(yK (VW.vt (jv (zX (vT hu) vS (zZ xt xq (zB 0 rfl (pv 0)) (zB 1 rfl (pv 1))) (z7 (zG zH (zG (zZ yx yw (zB 1 rfl (pv 1)) zH) (zE (c:=.bo))))) (by with_unfolding_all rfl)) (j3 (zX (vT hu) vS (zZ uf ue (zB 0 rfl (pv 0)) (zB 1 rfl (pv 1))) (z7 (zG zH (zG (zZ yx yw (zB 2 rfl (pv 2)) zH) (zE (c:=.bo))))) (by with_unfolding_all rfl))))))) (fun _ _ _ _=>(VE.data (zB 0 rfl (pv 0)) (.mv []))))))))
   (zD (zM (i:=9) rfl (zO (i:=9) nd rfl (by first|exact .inl rfl|exact .inr rfl) (VE.sh (zV c__law_reached (hr.mono (by decide)) rfl (zG (zB 1 rfl (pv 1)) (zG (zB 2 rfl (pv 2)) (zG (zB 8 rfl (pv 8)) (zG (zB 7 rfl (pv 7)) (zE (c:=.bo))))))))))
   (zK (zb (z7 (zx (VE.data (zB 1 rfl (pv 1)) (.mv [])) (zx (VE.data (zB 2 rfl (pv 2)) (.mv [])) (zx (yN zbw uB (by rfl) B.tuple_ boot_tuple (zG (xE (ow:=["_law_place"]) (js:=[9]) (.mv []) (Or.inl rfl) (by decide) rfl (zg false (zB 4 rfl (pv 4))) (fun _ _ _ _=>(zR 0 rfl (zQ (i:=0) (show (["_law_place","_law_outer"]:List Str).Nodup by decide +kernel) rfl (by first|exact .inl rfl|exact .inr rfl)))) (fun _ _ _ _=>(yK (zX (yq hu) yp (zB 0 rfl (pv 0)) (zB 1 rfl (pv 1)) (by with_unfolding_all rfl)))) (fun _ _ _ _=>(VE.data (zB 0 rfl (pv 0)) (.mv [])))) (zE (c:=.bo)))) (zE (c:=.mv []))))))))))))))))))
noncomputable abbrev wu:Stmt:=top 11
theorem sc_is_outermost:FnScope ["wide","high","place"] ["wide","high","place"] (zN wu):=⟨rfl,rfl,rfl,by decide +kernel,rfl,by decide +kernel,by decide +kernel⟩
theorem qz(F:Fun K "is_outermost" "is_outermost" wu f fd)(B:Blt mg):FnOk P w K mg base CX0 1 f fd ["wide","high","place"] (spV K 3 yb):=
 xS (g:=vB) (n:=3) (m:=3) [] rfl rfl (by decide) F sc_is_outermost fun cdv A outer s H E hr=>by
  have nd:=sc_is_outermost.nd
  have hu:=yH hr
  have hu64:=hr.units
  exact (zK (zb (zmJ (qG (vT hu) vS (zZ xt xq (zB 2 rfl (pv 2)) (zB 0 rfl (pv 0))) (z7 (zG zH (zG (zZ yx yw (zB 0 rfl (pv 0)) zH) (zE (c:=.bo))))) (by with_unfolding_all rfl)) (zew (qG (vT hu) vS (zZ uf ue (zB 2 rfl (pv 2)) (zB 0 rfl (pv 0))) (z7 (zG zH (zG (zZ yx yw (zB 1 rfl (pv 1)) zH) (zE (c:=.bo))))) (by with_unfolding_all rfl))))))
noncomputable abbrev wc:Stmt:=top 10
theorem sc_places_beside:FnScope ["wide","high","place","x","y","found"] ["wide","high","place"] (zN wc):=⟨rfl,rfl,rfl,by decide +kernel,rfl,by decide +kernel,by decide +kernel⟩
theorem qP(F:Fun K "places_beside" "places_beside" wc f fd)(B:Blt mg):FnOk P w K mg base CX0 1 f fd ["wide","high","place"] (spV K 3 yj):=
 xS (g:=we) (n:=3) (m:=6) [5] rfl rfl (by decide) F sc_places_beside fun cdv A outer s H E hr=>by
  have nd:=sc_places_beside.nd
  have hu:=yH hr
  have hu64:=hr.units
  exact (zD (zM (i:=3) rfl (zO (i:=3) nd rfl (by first|exact .inl rfl|exact .inr rfl) (VE.sh (zZ xt xq (zB 2 rfl (pv 2)) (zB 0 rfl (pv 0))))))
   (zD (zM (i:=4) rfl (zO (i:=4) nd rfl (by first|exact .inl rfl|exact .inr rfl) (VE.sh (zZ uf ue (zB 2 rfl (pv 2)) (zB 0 rfl (pv 0))))))
   (zD (zc (i:=5) (by decide) (zO (i:=5) nd rfl (by first|exact .inl rfl|exact .inr rfl) (yE (zE (c:=.mv [])))))
   (zD (yV (zX zcl zcj (zB 3 rfl (pv 3)) zH (zu _)) (zK (yc 5 (by decide) (yZ (xa PySem.F.plainAttrs_list PySem.F.slot_list_append PySem.F.type_list_append yB (pv 5) (zw (zZ yx yw (zB 2 rfl (pv 2)) zH) pa_nil))))) zj)
   (zD (yV (zX kf ke (zB 3 rfl (pv 3)) (zZ yx yw (zB 0 rfl (pv 0)) zH) (zu _)) (zK (yc 5 (by decide) (yZ (xa PySem.F.plainAttrs_list PySem.F.slot_list_append PySem.F.type_list_append yB (pv 5) (zw (zZ yS yR (zB 2 rfl (pv 2)) zH) pa_nil))))) zj)
   (zD (yV (zX zcl zcj (zB 4 rfl (pv 4)) zH (zu _)) (zK (yc 5 (by decide) (yZ (xa PySem.F.plainAttrs_list PySem.F.slot_list_append PySem.F.type_list_append yB (pv 5) (zw (zZ yx yw (zB 2 rfl (pv 2)) (zB 0 rfl (pv 0))) pa_nil))))) zj)
   (zD (yV (zX kf ke (zB 4 rfl (pv 4)) (zZ yx yw (zB 1 rfl (pv 1)) zH) (zu _)) (zK (yc 5 (by decide) (yZ (xa PySem.F.plainAttrs_list PySem.F.slot_list_append PySem.F.type_list_append yB (pv 5) (zw (zZ yS yR (zB 2 rfl (pv 2)) (zB 0 rfl (pv 0))) pa_nil))))) zj)
   (zK (zb (u5 5 rfl (pv 5)))))))))))
noncomputable abbrev qL:Stmt:=top 12
theorem sc_reached:FnScope ["wide","high","starts","places","found","waiting","place"] ["wide","high","starts","places"] (zN qL):=⟨rfl,rfl,rfl,by decide +kernel,rfl,by decide +kernel,by decide +kernel⟩
theorem zeR(F:Fun K "reached" "reached" qL f fd)(B:Blt mg)
  (c_places_beside:Fn P w K mg base "places_beside" 1 ["wide","high","place"] (spV K 3 yj)):FnOk P w K mg base CX0 2 f fd ["wide","high","starts","places"] (spV K 4 yf):=
 xS (g:=qX) (n:=4) (m:=7) [4,5] rfl rfl (by decide) F sc_reached fun cdv A outer s H E hr=>by
  have nd:=sc_reached.nd
  have hu:=yH hr
  have hu64:=hr.units
  exact (zD (zc (i:=4) (by decide) (zO (i:=4) nd rfl (by first|exact .inl rfl|exact .inr rfl) (uG uJ)))
   (zD (zc (i:=5) (by decide) (zO (i:=5) nd rfl (by first|exact .inl rfl|exact .inr rfl) (yN wR (wS rfl) (by rfl) B.list_ boot_list (zG (zB 2 rfl (pv 2)) (zE (c:=.bo))))))
   (zD (wq 1000000 PassesOwn.never (zX zcl zcj (zf xL xM (by rfl) B.len_ PySem.boot_len (zG (yG 5 (pv 5)) (zE (c:=.bo)))) zH (zu _)) (zD (zlf 6 5 (by decide) (by decide) (zO (i:=6) nd rfl (by first|exact .inl rfl|exact .inr rfl) (zlR PySem.F.plainAttrs_list PySem.F.slot_list_pop PySem.F.type_list_pop zlX (pv 5))))
   (zK (yV (zX (yq hu) yp (zB 6 rfl (pv 6)) (yG 4 (pv 4)) (by with_unfolding_all rfl)) (zD (ji 4 (by decide) (ud u6 (jN (pv 4) (zB 6 rfl (pv 6)) wV)) (uc hu (pv 4) (zB 6 rfl (pv 6)) u6 rfl))
   (zK (zap 5 (by decide) (yZ (xa PySem.F.plainAttrs_list PySem.F.slot_list_extend PySem.F.type_list_extend zaU (pv 5) (zw (xE (ow:=["other"]) (js:=[3]) (.mv []) (Or.inl rfl) (by decide) rfl (zg false (VE.sh (zV c_places_beside (hr.mono (by decide)) rfl (zG (zB 0 rfl (pv 0)) (zG (zB 1 rfl (pv 1)) (zG (zB 6 rfl (pv 6)) (zE (c:=.bo)))))))) (fun _ _ _ _=>(zR 0 rfl (zQ (i:=0) (show (["other","places"]:List Str).Nodup by decide +kernel) rfl (by first|exact .inl rfl|exact .inr rfl)))) (fun _ _ _ _=>(yK (zX (vT hu) vS (zB 0 rfl (pv 0)) (zB 1 rfl (pv 1)) (by with_unfolding_all rfl)))) (fun _ _ _ _=>(VE.data (zB 0 rfl (pv 0)) (.mv [])))) pa_nil)))))) zj))))
   (zK (zb (yN wR (wS rfl) (by rfl) B.list_ boot_list (zG (yG 4 (pv 4)) (zE (c:=.bo)))))))))
noncomputable abbrev jH:Stmt:=top 14
theorem sc_have_hole:FnScope ["wide","high","fields","empty","rim"] ["wide","high","fields"] (zN jH):=⟨rfl,rfl,rfl,by decide +kernel,rfl,by decide +kernel,by decide +kernel⟩
theorem zcU(F:Fun K "have_hole" "have_hole" jH f fd)(B:Blt mg)
  (c_is_outermost:Fn P w K mg base "is_outermost" 1 ["wide","high","place"] (spV K 3 yb))
  (c_reached:Fn P w K mg base "reached" 2 ["wide","high","starts","places"] (spV K 4 yf)):FnOk P w K mg base CX0 3 f fd ["wide","high","fields"] (spV K 3 xg):=
 xS (g:=jW) (n:=3) (m:=5) [] rfl rfl (by decide) F sc_have_hole fun cdv A outer s H E hr=>by
  have nd:=sc_have_hole.nd
  have hu:=yH hr
  have hu64:=hr.units
  exact (zD (zM (i:=3) rfl (by first | exact qO (qk (i:=3) (ow:=["place"]) (js:=[2]) (.mv []) nd rfl (by first|exact .inl rfl|exact .inr rfl) (Or.inl rfl) (by decide) rfl (zcI false (by rfl) B.range_ (zG (zZ vp vo (zB 0 rfl (pv 0)) (zB 1 rfl (pv 1))) (zE (c:=.bo)))) (fun _ _ _ _=>(zR 0 rfl (zQ (i:=0) (show (["place","fields"]:List Str).Nodup by decide +kernel) rfl (by first|exact .inl rfl|exact .inr rfl)))) (fun _ _ _ _=>(yK (zX (yq hu) yp (zB 0 rfl (pv 0)) (zB 1 rfl (pv 1)) (by with_unfolding_all rfl)))) (fun _ _ _ _=>(VE.data (zB 0 rfl (pv 0)) (.mv [])))) | exact (zO (i:=3) nd rfl (by first|exact .inl rfl|exact .inr rfl) (VE.sh (xE (ow:=["place"]) (js:=[2]) (.mv []) (Or.inl rfl) (by decide) rfl (zcI false (by rfl) B.range_ (zG (zZ vp vo (zB 0 rfl (pv 0)) (zB 1 rfl (pv 1))) (zE (c:=.bo)))) (fun _ _ _ _=>(zR 0 rfl (zQ (i:=0) (show (["place","fields"]:List Str).Nodup by decide +kernel) rfl (by first|exact .inl rfl|exact .inr rfl)))) (fun _ _ _ _=>(yK (zX (yq hu) yp (zB 0 rfl (pv 0)) (zB 1 rfl (pv 1)) (by with_unfolding_all rfl)))) (fun _ _ _ _=>(VE.data (zB 0 rfl (pv 0)) (.mv []))))))))
   (zD (zM (i:=4) rfl (by first | exact qO (qk (i:=4) (ow:=["place"]) (js:=[0,1]) (.mv []) nd rfl (by first|exact .inl rfl|exact .inr rfl) (Or.inl rfl) (by decide) rfl (zg false (zB 3 rfl (pv 3))) (fun _ _ _ _=>(zR 0 rfl (zQ (i:=0) (show (["place","wide","high"]:List Str).Nodup by decide +kernel) rfl (by first|exact .inl rfl|exact .inr rfl)))) (fun _ _ _ _=>(yK (yW (zV c_is_outermost (hr.mono (by decide)) rfl (zG (zB 1 rfl (pv 1)) (zG (zB 2 rfl (pv 2)) (zG (zB 0 rfl (pv 0)) (zE (c:=.bo)))))) (fun _=>rfl)))) (fun _ _ _ _=>(VE.data (zB 0 rfl (pv 0)) (.mv [])))) | exact (zO (i:=4) nd rfl (by first|exact .inl rfl|exact .inr rfl) (VE.sh (xE (ow:=["place"]) (js:=[0,1]) (.mv []) (Or.inl rfl) (by decide) rfl (zg false (zB 3 rfl (pv 3))) (fun _ _ _ _=>(zR 0 rfl (zQ (i:=0) (show (["place","wide","high"]:List Str).Nodup by decide +kernel) rfl (by first|exact .inl rfl|exact .inr rfl)))) (fun _ _ _ _=>(yK (yW (zV c_is_outermost (hr.mono (by decide)) rfl (zG (zB 1 rfl (pv 1)) (zG (zB 2 rfl (pv 2)) (zG (zB 0 rfl (pv 0)) (zE (c:=.bo)))))) (fun _=>rfl)))) (fun _ _ _ _=>(VE.data (zB 0 rfl (pv 0)) (.mv []))))))))
   (zK (zb (qG kf ke (zf xL xM (by rfl) B.len_ PySem.boot_len (zG (zV c_reached (hr.mono (by decide)) rfl (zG (zB 0 rfl (pv 0)) (zG (zB 1 rfl (pv 1)) (zG (zB 4 rfl (pv 4)) (zG (zB 3 rfl (pv 3)) (zE (c:=.bo))))))) (zE (c:=.bo)))) (zf xL xM (by rfl) B.len_ PySem.boot_len (zG (zB 3 rfl (pv 3)) (zE (c:=.bo)))) (zu _))))))
noncomputable abbrev j6:Stmt:=top 7
theorem sc_is_whole:FnScope ["thing"] ["thing"] (zN j6):=⟨rfl,rfl,rfl,by decide +kernel,rfl,by decide +kernel,by decide +kernel⟩
theorem zdT(F:Fun K "is_whole" "is_whole" j6 f fd)(B:Blt mg):FnOk P w K mg base CX0 1 f fd ["thing"] (spV K 1 yt):=
 xS (g:=zbj) (n:=1) (m:=1) [] rfl rfl (by decide) F sc_is_whole fun cdv A outer s H E hr=>by
  have nd:=sc_is_whole.nd
  have hu:=yH hr
  have hu64:=hr.units
  exact (zK (zb (zhB (zf wG wH (by rfl) B.isinstance_ boot_isinstance (zG (zB 0 rfl (pv 0)) (zG (qH (c:=.mv []) (fun _ _=>.mkTy _) (jO rfl B.int_ boot_int)) (zE (c:=.bo))))) (zew (zlh (zf wG wH (by rfl) B.isinstance_ boot_isinstance (zG (zB 0 rfl (pv 0)) (zG (qH (c:=.mv []) (fun _ _=>.mkTy _) (jO rfl B.bool_ boot_bool)) (zE (c:=.bo))))))))))
noncomputable abbrev uX:Stmt:=top 9
theorem sc_are_fields:FnScope ["wide","high","fields","ahead","field"] ["wide","high","fields"] (zN uX):=⟨rfl,rfl,rfl,by decide +kernel,rfl,by decide +kernel,by decide +kernel⟩
theorem zbP(F:Fun K "are_fields" "are_fields" uX f fd)(B:Blt mg)
  (c_is_whole:Fn P w K mg base "is_whole" 1 ["thing"] (spV K 1 yt)):FnOk P w K mg base CX0 2 f fd ["wide","high","fields"] (spV K 3 xT):=
 xS (g:=uo) (n:=3) (m:=5) [] rfl rfl (by decide) F sc_are_fields fun cdv A outer s H E hr=>by
  have nd:=sc_are_fields.nd
  have hu:=yH hr
  have hu64:=hr.units
  exact (zD (zM (i:=3) rfl (zO (i:=3) nd rfl (by first|exact .inl rfl|exact .inr rfl) (VE.sh (zmI zlm zlk zH))))
   (zD (xR PassesOwn.never rfl (zg true (zB 2 rfl (pv 2))) (zR 4 rfl (zQ (i:=4) nd rfl (by first|exact .inl rfl|exact .inr rfl))) (zD (yV (VW.vt (jv (ve (yW (zV c_is_whole (hr.mono (by decide)) rfl (zG (zB 4 rfl (pv 4)) (zE (c:=.bo)))) (fun _=>rfl))) (jv (zX zdQ zdN (zB 4 rfl (pv 4)) (zB 3 rfl (pv 3)) (zu _)) (j3 (zX zno znn (zB 4 rfl (pv 4)) (zZ vp vo (zB 0 rfl (pv 0)) (zB 1 rfl (pv 1))) (zu _)))))) (zK (zb u6)) zj)
   (zK (zM (i:=3) rfl (zO (i:=3) nd rfl (by first|exact .inl rfl|exact .inr rfl) (zB 4 rfl (pv 4)))))))
   (zK (zb (qG zcl zcj (zf xL xM (by rfl) B.len_ PySem.boot_len (zG (zB 2 rfl (pv 2)) (zE (c:=.bo)))) zH (zu _))))))
noncomputable abbrev wd:Stmt:=top 13
theorem sc_hang_together:FnScope ["wide","high","fields"] ["wide","high","fields"] (zN wd):=⟨rfl,rfl,rfl,by decide +kernel,rfl,by decide +kernel,by decide +kernel⟩
theorem qQ(F:Fun K "hang_together" "hang_together" wd f fd)(B:Blt mg)
  (c_reached:Fn P w K mg base "reached" 2 ["wide","high","starts","places"] (spV K 4 yf)):FnOk P w K mg base CX0 3 f fd ["wide","high","fields"] (spV K 3 yk):=
 xS (g:=wf) (n:=3) (m:=3) [] rfl rfl (by decide) F sc_hang_together fun cdv A outer s H E hr=>by
  have nd:=sc_hang_together.nd
  have hu:=yH hr
  have hu64:=hr.units
  exact (zK (zb (qG (jP hu64) qm (zf xL xM (by rfl) B.len_ PySem.boot_len (zG (zV c_reached (hr.mono (by decide)) rfl (zG (zB 0 rfl (pv 0)) (zG (zB 1 rfl (pv 1)) (zG (zdx (zB 2 rfl (pv 2)) zfx (zfw zH)) (zG (zB 2 rfl (pv 2)) (zE (c:=.bo))))))) (zE (c:=.bo)))) (zf xL xM (by rfl) B.len_ PySem.boot_len (zG (zB 2 rfl (pv 2)) (zE (c:=.bo)))) (zu _))))
noncomputable abbrev jG:Stmt:=top 8
theorem sc_is_length:FnScope ["thing"] ["thing"] (zN jG):=⟨rfl,rfl,rfl,by decide +kernel,rfl,by decide +kernel,by decide +kernel⟩
theorem zcT (F : Fun K "is_length" "is_length" jG f fd) (B : Blt mg)
    {t_MOST_PLACES : Tok} (h_MOST_PLACES : mg "MOST_PLACES" = some (.int 6 t_MOST_PLACES))
    (c_is_whole : Fn P w K mg base "is_whole" 1 ["thing"] (spV K 1 yt)) : FnOk P w K mg base CX0 2 f fd ["thing"] (spV K 1 yv) :=
  xS (g := jV) (n := 1) (m := 1) [] rfl rfl (by decide) F sc_is_length fun cdv A outer s H E hr => by
    have nd := sc_is_length.nd
    have hu := yH hr
    have hu64 := hr.units
    exact (zK (zb (zhB (zV c_is_whole (hr.mono (by decide)) rfl (zG (zB 0 rfl (pv 0)) (zE (c := .bo)))) (zew (zhA zdQ zdQ zdN zdN zH (zB 0 rfl (pv 0)) (qH (c := .mv []) (fun _ _ => .mkI _) (zjY rfl h_MOST_PLACES)))))))
noncomputable abbrev j7:Stmt:=top 15
theorem sc_floor_of:FnScope ["wide","high","fields","kept"] ["wide","high","fields"] (zN j7):=⟨rfl,rfl,rfl,by decide +kernel,rfl,by decide +kernel,by decide +kernel⟩
theorem zdU(F:Fun K "floor_of" "floor_of" j7 f fd)(B:Blt mg)
  (c_have_hole:Fn P w K mg base "have_hole" 3 ["wide","high","fields"] (spV K 3 xg))
  (c_are_fields:Fn P w K mg base "are_fields" 2 ["wide","high","fields"] (spV K 3 xT))
  (c_hang_together:Fn P w K mg base "hang_together" 3 ["wide","high","fields"] (spV K 3 yk))
  (c_is_length:Fn P w K mg base "is_length" 2 ["thing"] (spV K 1 yv)):FnOk P w K mg base CX0 4 f fd ["wide","high","fields"] (spV K 3 vL):=
 xS (g:=kF) (n:=3) (m:=4) [] rfl rfl (by decide) F sc_floor_of fun cdv A outer s H E hr=>by
  have nd:=sc_floor_of.nd
  have hu:=yH hr
  have hu64:=hr.units
  exact (zD (yV (VW.vt (jv (ve (yW (zV c_is_length (hr.mono (by decide)) rfl (zG (zB 0 rfl (pv 0)) (zE (c:=.bo)))) (fun _=>rfl))) (j3 (ve (yW (zV c_is_length (hr.mono (by decide)) rfl (zG (zB 1 rfl (pv 1)) (zE (c:=.bo)))) (fun _=>rfl)))))) (zK jD) zj)
   (zD (yV (ve (yW (zf wG wH (by rfl) B.isinstance_ boot_isinstance (zG (zB 2 rfl (pv 2)) (zG (z7 (zG (qH (c:=.mv []) (fun _ _=>.mkTy _) (jO rfl B.list_ boot_list)) (zG (qH (c:=.mv []) (fun _ _=>.mkTy _) (jO rfl B.tuple_ boot_tuple)) (zE (c:=.bo))))) (zE (c:=.bo))))) (fun _=>rfl))) (zK jD) zj)
   (zD (zM (i:=3) rfl (zO (i:=3) nd rfl (by first|exact .inl rfl|exact .inr rfl) (VE.sh (yN zbw uB (by rfl) B.tuple_ boot_tuple (zG (zB 2 rfl (pv 2)) (zE (c:=.bo)))))))
   (zD (yV (ve (yW (zV c_are_fields (hr.mono (by decide)) rfl (zG (zB 0 rfl (pv 0)) (zG (zB 1 rfl (pv 1)) (zG (zB 3 rfl (pv 3)) (zE (c:=.bo)))))) (fun _=>rfl))) (zK jD) zj)
   (zD (yV (ve (yW (zV c_hang_together (hr.mono (by decide)) rfl (zG (zB 0 rfl (pv 0)) (zG (zB 1 rfl (pv 1)) (zG (zB 3 rfl (pv 3)) (zE (c:=.bo)))))) (fun _=>rfl))) (zK jD) zj)
   (zD (yV (yW (zV c_have_hole (hr.mono (by decide)) rfl (zG (zB 0 rfl (pv 0)) (zG (zB 1 rfl (pv 1)) (zG (zB 3 rfl (pv 3)) (zE (c:=.bo)))))) (fun _=>rfl)) (zK jD) zj)
   (zK (zb (z7 (zx (VE.data (zB 0 rfl (pv 0)) (.mv [])) (zx (VE.data (zB 1 rfl (pv 1)) (.mv [])) (zx (VE.data (zB 3 rfl (pv 3)) (.mv [])) (zE (c:=.mv []))))))))))))))
noncomputable abbrev uY:Stmt:=top 44
theorem sc__law_piece:FnScope ["_law_ends","_law_fields","_law_start","_law_there","_law_at","_law_field"] ["_law_ends","_law_fields","_law_start"] (zN uY):=⟨rfl,rfl,rfl,by decide +kernel,rfl,by decide +kernel,by decide +kernel⟩
theorem zbQ(F:Fun K "_law_piece" "_law_piece" uY f fd)(B:Blt mg):FnOk P w K mg base CX0 1 f fd ["_law_ends","_law_fields","_law_start"] (spV K 3 yJ):=
 xS (g:=uq) (n:=3) (m:=6) [3] rfl rfl (by decide) F sc__law_piece fun cdv A outer s H E hr=>by
  have nd:=sc__law_piece.nd
  have hu:=yH hr
  have hu64:=hr.units
  exact (zD (zc (i:=3) (by decide) (zO (i:=3) nd rfl (by first|exact .inl rfl|exact .inr rfl) (yE (zx (VE.data (zB 2 rfl (pv 2)) (.mv [])) (zE (c:=.mv []))))))
   (zD (zM (i:=4) rfl (zO (i:=4) nd rfl (by first|exact .inl rfl|exact .inr rfl) (VE.sh zH)))
   (zD (wq 1000000 PassesOwn.never (zX kf ke (zB 4 rfl (pv 4)) (zf xL xM (by rfl) B.len_ PySem.boot_len (zG (yG 3 (pv 3)) (zE (c:=.bo)))) (zu _)) (zD (xR PassesOwn.never rfl (zg true (zB 1 rfl (pv 1))) (zR 5 rfl (zQ (i:=5) nd rfl (by first|exact .inl rfl|exact .inr rfl))) (zK (yV (zX (zim hu64) zij (za hu (yG 3 (pv 3)) (zB 4 rfl (pv 4)) (fun _ _=>rfl)) (za hu (zB 0 rfl (pv 0)) (zB 5 rfl (pv 5)) (fun _ _=>rfl)) (by with_unfolding_all rfl)) (zK (zc (i:=3) (by decide) (zO (i:=3) nd rfl (by first|exact .inl rfl|exact .inr rfl) (zZ yS yR (yG 3 (pv 3)) (xE (ow:=["_law_strip"]) (js:=[3]) (.mv []) (Or.inl rfl) (by decide) rfl (zg false (za hu (zB 0 rfl (pv 0)) (zB 5 rfl (pv 5)) (fun _ _=>rfl))) (fun _ _ _ _=>(zR 0 rfl (zQ (i:=0) (show (["_law_strip","_law_there"]:List Str).Nodup by decide +kernel) rfl (by first|exact .inl rfl|exact .inr rfl)))) (fun _ _ _ _=>(yK (zX (zck hu64) zci (zB 0 rfl (pv 0)) (yG 1 (pv 1)) (by with_unfolding_all rfl)))) (fun _ _ _ _=>(VE.data (zB 0 rfl (pv 0)) (.mv [])))))))) zj)))
   (zK (zM (i:=4) rfl (zO (i:=4) nd rfl (by first|exact .inl rfl|exact .inr rfl) (VE.sh (zZ yS yR (zB 4 rfl (pv 4)) zH)))))))
   (zK (zb (u5 3 rfl (pv 3)))))))
noncomputable abbrev ua:Stmt:=top 46
theorem sc__law_grown:FnScope ["_law_ends","_law_order_here","_law_found","_law_field","_law_row","_law_column"] ["_law_ends","_law_order_here"] (zN ua):=⟨rfl,rfl,rfl,by decide +kernel,rfl,by decide +kernel,by decide +kernel⟩
theorem zbS(F:Fun K "_law_grown" "_law_grown" ua f fd)(B:Blt mg)
  (c__law_piece:Fn P w K mg base "_law_piece" 1 ["_law_ends","_law_fields","_law_start"] (spV K 3 yJ)):FnOk P w K mg base CX0 2 f fd ["_law_ends","_law_order_here"] (spV K 2 xV):=
 xS (g:=ut) (n:=2) (m:=6) [2] rfl rfl (by decide) F sc__law_grown fun cdv A outer s H E hr=>by
  have nd:=sc__law_grown.nd
  have hu:=yH hr
  have hu64:=hr.units
  exact (zD (zc (i:=2) (by decide) (zO (i:=2) nd rfl (by first|exact .inl rfl|exact .inr rfl) (yE (zE (c:=.mv [])))))
   (zD (xR PassesOwn.never rfl (zg true (zB 1 rfl (pv 1))) (zR 3 rfl (zQ (i:=3) nd rfl (by first|exact .inl rfl|exact .inr rfl))) (zD (zeu (za hu (zB 0 rfl (pv 0)) (zB 3 rfl (pv 3)) (fun _ _=>rfl)) (qE 2 rfl (yn (zR 4 rfl (zQ (i:=4) nd rfl (by first|exact .inl rfl|exact .inr rfl))) (yn (zR 5 rfl (zQ (i:=5) nd rfl (by first|exact .inl rfl|exact .inr rfl))) jj))))
   (zK (yV (zX (zck hu64) zci (zB 5 rfl (pv 5)) (zV c__law_piece (hr.mono (by decide)) rfl (zG (zB 0 rfl (pv 0)) (zG (yG 2 (pv 2)) (zG (zB 4 rfl (pv 4)) (zE (c:=.bo)))))) (by with_unfolding_all rfl)) (zK (yc 2 (by decide) (yZ (xa PySem.F.plainAttrs_list PySem.F.slot_list_append PySem.F.type_list_append yB (pv 2) (zw (VE.data (zB 3 rfl (pv 3)) (.mv [])) pa_nil))))) zj))))
   (zK (zb (zf vG (vH rfl) (by rfl) B.sorted_ boot_sorted (zG (yG 2 (pv 2)) (zE (c:=.bo))))))))
noncomputable abbrev qK:Stmt:=top 34
theorem sc_without:FnScope ["fields","field"] ["fields","field"] (zN qK):=⟨rfl,rfl,rfl,by decide +kernel,rfl,by decide +kernel,by decide +kernel⟩
theorem zeQ(F:Fun K "without" "without" qK f fd)(B:Blt mg):FnOk P w K mg base CX0 1 f fd ["fields","field"] (spV K 2 wp):=
 xS (g:=qW) (n:=2) (m:=2) [] rfl rfl (by decide) F sc_without fun cdv A outer s H E hr=>by
  have nd:=sc_without.nd
  have hu:=yH hr
  have hu64:=hr.units
  exact (zK (zb (xE (ow:=["other"]) (js:=[1]) (.mv []) (Or.inl rfl) (by decide) rfl (zg false (zB 0 rfl (pv 0))) (fun _ _ _ _=>(zR 0 rfl (zQ (i:=0) (show (["other","field"]:List Str).Nodup by decide +kernel) rfl (by first|exact .inl rfl|exact .inr rfl)))) (fun _ _ _ _=>(yK (zX (vq hu64) jw (zB 0 rfl (pv 0)) (zB 1 rfl (pv 1)) (zu _)))) (fun _ _ _ _=>(VE.data (zB 0 rfl (pv 0)) (.mv []))))))
noncomputable abbrev zeH:Stmt:=top 19
theorem sc_runs:FnScope ["fields","aheads","found","run_at","field","ahead"] ["fields","aheads"] (zN zeH):=⟨rfl,rfl,rfl,by decide +kernel,rfl,by decide +kernel,by decide +kernel⟩
theorem zkg(F:Fun K "runs" "runs" zeH f fd)(B:Blt mg):FnOk P w K mg base CX0 1 f fd ["fields","aheads"] (spV K 2 uQ):=
 xS (g:=zfd) (n:=2) (m:=6) [2,3] rfl rfl (by decide) F sc_runs fun cdv A outer s H E hr=>by
  have nd:=sc_runs.nd
  have hu:=yH hr
  have hu64:=hr.units
  exact (zD (zc (i:=2) (by decide) (zO (i:=2) nd rfl (by first|exact .inl rfl|exact .inr rfl) (yE (zE (c:=.mv [])))))
   (zD (zc (i:=3) (by decide) (zO (i:=3) nd rfl (by first|exact .inl rfl|exact .inr rfl) (uG uJ)))
   (zD (xR PassesOwn.never rfl (zlg true (by rfl) B.zip_ (xF (zB 0 rfl (pv 0)) (xF (zB 1 rfl (pv 1)) (zE (c:=.sh))))) (qE 2 rfl (yn (zR 4 rfl (zQ (i:=4) nd rfl (by first|exact .inl rfl|exact .inr rfl))) (yn (zR 5 rfl (zQ (i:=5) nd rfl (by first|exact .inl rfl|exact .inr rfl))) jj))) (zK (yV (zX (vT hu) vS (zB 5 rfl (pv 5)) (yG 3 (pv 3)) (by with_unfolding_all rfl)) (zD (ji 3 (by decide) (ud (za hu (yG 3 (pv 3)) (zB 5 rfl (pv 5)) (fun _ _=>rfl)) (jN (pv 3) (zB 4 rfl (pv 4)) wV)) (uc hu (pv 3) (zB 4 rfl (pv 4)) (za hu (yG 3 (pv 3)) (zB 5 rfl (pv 5)) (fun _ _=>rfl)) rfl))
   (zK (zdw 2 (by decide) (yZ (xa PySem.F.plainAttrs_list PySem.F.slot_list_append PySem.F.type_list_append yB (zkW ziG (pv 2) (za hu (yG 3 (pv 3)) (zB 4 rfl (pv 4)) (fun _ _=>rfl)) (fun _ _=>rfl)) (zw (VE.data (zB 4 rfl (pv 4)) (.mv [])) pa_nil)))))) (zD (ji 3 (by decide) (ud (zf xL xM (by rfl) B.len_ PySem.boot_len (zG (yG 2 (pv 2)) (zE (c:=.bo)))) (jN (pv 3) (zB 4 rfl (pv 4)) wV)) (uc hu (pv 3) (zB 4 rfl (pv 4)) (zf xL xM (by rfl) B.len_ PySem.boot_len (zG (yG 2 (pv 2)) (zE (c:=.bo)))) rfl))
   (zK (yc 2 (by decide) (yZ (xa PySem.F.plainAttrs_list PySem.F.slot_list_append PySem.F.type_list_append yB (pv 2) (zw (yE (zx (VE.data (zB 4 rfl (pv 4)) (.mv [])) (zE (c:=.mv [])))) pa_nil)))))))))
   (zK (zb (zfz (xE (ow:=["run"]) (js:=[]) (.mv []) (Or.inl rfl) (by decide) rfl (zg false (zB 2 rfl (pv 2))) (fun _ _ _ _=>(zR 0 rfl (zQ (i:=0) (show (["run"]:List Str).Nodup by decide +kernel) rfl (by first|exact .inl rfl|exact .inr rfl)))) (fun _ _ _ _=>wN) (fun _ _ _ _=>(yN zbw uB (by rfl) B.tuple_ boot_tuple (zG (zB 0 rfl (pv 0)) (zE (c:=.bo))))))))))))
noncomputable abbrev uW:Stmt:=top 17
theorem sc_field_left:FnScope ["floor","field"] ["floor","field"] (zN uW):=⟨rfl,rfl,rfl,by decide +kernel,rfl,by decide +kernel,by decide +kernel⟩
theorem zbO(F:Fun K "field_left" "field_left" uW f fd)(B:Blt mg):FnOk P w K mg base CX0 1 f fd ["floor","field"] (spV K 2 y4):=
 xS (g:=wm) (n:=2) (m:=2) [] rfl rfl (by decide) F sc_field_left fun cdv A outer s H E hr=>by
  have nd:=sc_field_left.nd
  have hu:=yH hr
  have hu64:=hr.units
  exact (zK (zb (zmK (zX (jP hu64) qm (zZ xt xq (zB 1 rfl (pv 1)) (za hu (zB 0 rfl (pv 0)) zH (fun _ _=>rfl))) zH (zu _)) zli (zZ yx yw (zB 1 rfl (pv 1)) zH))))
noncomputable abbrev j5:Stmt:=top 20
theorem sc_row_runs:FnScope ["floor"] ["floor"] (zN j5):=⟨rfl,rfl,rfl,by decide +kernel,rfl,by decide +kernel,by decide +kernel⟩
theorem zdS(F:Fun K "row_runs" "row_runs" j5 f fd)(B:Blt mg)
  (c_runs:Fn P w K mg base "runs" 1 ["fields","aheads"] (spV K 2 uQ))
  (c_field_left:Fn P w K mg base "field_left" 1 ["floor","field"] (spV K 2 y4)):FnOk P w K mg base CX0 2 f fd ["floor"] (spV K 1 wT):=
 xS (g:=kE) (n:=1) (m:=1) [] rfl rfl (by decide) F sc_row_runs fun cdv A outer s H E hr=>by
  have nd:=sc_row_runs.nd
  have hu:=yH hr
  have hu64:=hr.units
  exact (zK (zb (zV c_runs (hr.mono (by decide)) rfl (zG (za hu (zB 0 rfl (pv 0)) zH (fun _ _=>rfl)) (zG (xE (ow:=["field"]) (js:=[0]) (.mv []) (Or.inl rfl) (by decide) rfl (zg false (za hu (zB 0 rfl (pv 0)) zH (fun _ _=>rfl))) (fun _ _ _ _=>(zR 0 rfl (zQ (i:=0) (show (["field","floor"]:List Str).Nodup by decide +kernel) rfl (by first|exact .inl rfl|exact .inr rfl)))) (fun _ _ _ _=>wN) (fun _ _ _ _=>(zV c_field_left (hr.mono (by decide)) rfl (zG (zB 1 rfl (pv 1)) (zG (zB 0 rfl (pv 0)) (zE (c:=.bo))))))) (zE (c:=.bo)))))))
noncomputable abbrev vi:Stmt:=top 18
theorem sc_field_below:FnScope ["floor","field"] ["floor","field"] (zN vi):=⟨rfl,rfl,rfl,by decide +kernel,rfl,by decide +kernel,by decide +kernel⟩
theorem zaL(F:Fun K "field_below" "field_below" vi f fd)(B:Blt mg):FnOk P w K mg base CX0 1 f fd ["floor","field"] (spV K 2 xB):=
 xS (g:=vy) (n:=2) (m:=2) [] rfl rfl (by decide) F sc_field_below fun cdv A outer s H E hr=>by
  have nd:=sc_field_below.nd
  have hu:=yH hr
  have hu64:=hr.units
  exact (zK (zb (zZ yx yw (zB 1 rfl (pv 1)) (za hu (zB 0 rfl (pv 0)) zH (fun _ _=>rfl)))))
noncomputable abbrev vj:Stmt:=top 21
theorem sc_column_runs:FnScope ["floor"] ["floor"] (zN vj):=⟨rfl,rfl,rfl,by decide +kernel,rfl,by decide +kernel,by decide +kernel⟩
theorem zaM(F:Fun K "column_runs" "column_runs" vj f fd)(B:Blt mg)
  (c_runs:Fn P w K mg base "runs" 1 ["fields","aheads"] (spV K 2 uQ))
  (c_field_below:Fn P w K mg base "field_below" 1 ["floor","field"] (spV K 2 xB)):FnOk P w K mg base CX0 2 f fd ["floor"] (spV K 1 xC):=
 xS (g:=vz) (n:=1) (m:=1) [] rfl rfl (by decide) F sc_column_runs fun cdv A outer s H E hr=>by
  have nd:=sc_column_runs.nd
  have hu:=yH hr
  have hu64:=hr.units
  exact (zK (zb (zV c_runs (hr.mono (by decide)) rfl (zG (za hu (zB 0 rfl (pv 0)) zH (fun _ _=>rfl)) (zG (xE (ow:=["field"]) (js:=[0]) (.mv []) (Or.inl rfl) (by decide) rfl (zg false (za hu (zB 0 rfl (pv 0)) zH (fun _ _=>rfl))) (fun _ _ _ _=>(zR 0 rfl (zQ (i:=0) (show (["field","floor"]:List Str).Nodup by decide +kernel) rfl (by first|exact .inl rfl|exact .inr rfl)))) (fun _ _ _ _=>wN) (fun _ _ _ _=>(zV c_field_below (hr.mono (by decide)) rfl (zG (zB 1 rfl (pv 1)) (zG (zB 0 rfl (pv 0)) (zE (c:=.bo))))))) (zE (c:=.bo)))))))
noncomputable abbrev zaz:Stmt:=top 22
theorem sc_strips:FnScope ["floor","rows","columns"] ["floor"] (zN zaz):=⟨rfl,rfl,rfl,by decide +kernel,rfl,by decide +kernel,by decide +kernel⟩
theorem zgS(F:Fun K "strips" "strips" zaz f fd)(B:Blt mg)
  (c_row_runs:Fn P w K mg base "row_runs" 2 ["floor"] (spV K 1 wT))
  (c_column_runs:Fn P w K mg base "column_runs" 2 ["floor"] (spV K 1 xC)):FnOk P w K mg base CX0 3 f fd ["floor"] (spV K 1 zq):=
 xS (g:=zbg) (n:=1) (m:=3) [] rfl rfl (by decide) F sc_strips fun cdv A outer s H E hr=>by
  have nd:=sc_strips.nd
  have hu:=yH hr
  have hu64:=hr.units
  exact (zD (zM (i:=1) rfl (by first | exact qO (qk (i:=1) (ow:=["run"]) (js:=[]) (.mv []) nd rfl (by first|exact .inl rfl|exact .inr rfl) (Or.inl rfl) (by decide) rfl (zg false (VE.sh (zV c_row_runs (hr.mono (by decide)) rfl (zG (zB 0 rfl (pv 0)) (zE (c:=.bo)))))) (fun _ _ _ _=>(zR 0 rfl (zQ (i:=0) (show (["run"]:List Str).Nodup by decide +kernel) rfl (by first|exact .inl rfl|exact .inr rfl)))) (fun _ _ _ _=>wN) (fun _ _ _ _=>(z7 (zx qF (zx (VE.data (zB 0 rfl (pv 0)) (.mv [])) (zE (c:=.mv []))))))) | exact (zO (i:=1) nd rfl (by first|exact .inl rfl|exact .inr rfl) (VE.sh (xE (ow:=["run"]) (js:=[]) (.mv []) (Or.inl rfl) (by decide) rfl (zg false (VE.sh (zV c_row_runs (hr.mono (by decide)) rfl (zG (zB 0 rfl (pv 0)) (zE (c:=.bo)))))) (fun _ _ _ _=>(zR 0 rfl (zQ (i:=0) (show (["run"]:List Str).Nodup by decide +kernel) rfl (by first|exact .inl rfl|exact .inr rfl)))) (fun _ _ _ _=>wN) (fun _ _ _ _=>(z7 (zx qF (zx (VE.data (zB 0 rfl (pv 0)) (.mv [])) (zE (c:=.mv [])))))))))))
   (zD (zM (i:=2) rfl (by first | exact qO (qk (i:=2) (ow:=["run"]) (js:=[]) (.mv []) nd rfl (by first|exact .inl rfl|exact .inr rfl) (Or.inl rfl) (by decide) rfl (zg false (VE.sh (zV c_column_runs (hr.mono (by decide)) rfl (zG (zB 0 rfl (pv 0)) (zE (c:=.bo)))))) (fun _ _ _ _=>(zR 0 rfl (zQ (i:=0) (show (["run"]:List Str).Nodup by decide +kernel) rfl (by first|exact .inl rfl|exact .inr rfl)))) (fun _ _ _ _=>wN) (fun _ _ _ _=>(z7 (zx qF (zx (VE.data (zB 0 rfl (pv 0)) (.mv [])) (zE (c:=.mv []))))))) | exact (zO (i:=2) nd rfl (by first|exact .inl rfl|exact .inr rfl) (VE.sh (xE (ow:=["run"]) (js:=[]) (.mv []) (Or.inl rfl) (by decide) rfl (zg false (VE.sh (zV c_column_runs (hr.mono (by decide)) rfl (zG (zB 0 rfl (pv 0)) (zE (c:=.bo)))))) (fun _ _ _ _=>(zR 0 rfl (zQ (i:=0) (show (["run"]:List Str).Nodup by decide +kernel) rfl (by first|exact .inl rfl|exact .inr rfl)))) (fun _ _ _ _=>wN) (fun _ _ _ _=>(z7 (zx qF (zx (VE.data (zB 0 rfl (pv 0)) (.mv [])) (zE (c:=.mv [])))))))))))
   (zK (zb (zZ yS yR (zB 1 rfl (pv 1)) (zB 2 rfl (pv 2)))))))
noncomputable abbrev jJ:Stmt:=top 23
theorem sc_crossings:FnScope ["floor","found","number","strip","field"] ["floor"] (zN jJ):=⟨rfl,rfl,rfl,by decide +kernel,rfl,by decide +kernel,by decide +kernel⟩
theorem zcW(F:Fun K "crossings" "crossings" jJ f fd)(B:Blt mg)
  (c_strips:Fn P w K mg base "strips" 3 ["floor"] (spV K 1 zq)):FnOk P w K mg base CX0 4 f fd ["floor"] (spV K 1 yQ):=
 xS (g:=jY) (n:=1) (m:=5) [1] rfl rfl (by decide) F sc_crossings fun cdv A outer s H E hr=>by
  have nd:=sc_crossings.nd
  have hu:=yH hr
  have hu64:=hr.units
  exact (zD (zc (i:=1) (by decide) (zO (i:=1) nd rfl (by first|exact .inl rfl|exact .inr rfl) (uG uJ)))
   (zD (xR PassesOwn.never rfl (zhy true (by rfl) B.enumerate_ (xF (VE.sh (zV c_strips (hr.mono (by decide)) rfl (zG (zB 0 rfl (pv 0)) (zE (c:=.bo))))) (zE (c:=.sh)))) (qE 2 rfl (yn (zR 2 rfl (zQ (i:=2) nd rfl (by first|exact .inl rfl|exact .inr rfl))) (yn (zR 3 rfl (zQ (i:=3) nd rfl (by first|exact .inl rfl|exact .inr rfl))) jj))) (zK (xR PassesOwn.never rfl (zg true (za hu (zB 3 rfl (pv 3)) zH (fun _ _=>rfl))) (zR 4 rfl (zQ (i:=4) nd rfl (by first|exact .inl rfl|exact .inr rfl))) (zK (ji 1 (by decide) (ud (zZ yS yR (zfy hu (yG 1 (pv 1)) (zB 4 rfl (pv 4)) (z7 (zE (c:=.bo))) ⟨rfl,rfl,rfl,rfl⟩) (z7 (zG (zB 2 rfl (pv 2)) (zE (c:=.bo))))) (jN (pv 1) (zB 4 rfl (pv 4)) wV)) (uc hu (pv 1) (zB 4 rfl (pv 4)) (zZ yS yR (zfy hu (yG 1 (pv 1)) (zB 4 rfl (pv 4)) (z7 (zE (c:=.bo))) ⟨rfl,rfl,rfl,rfl⟩) (z7 (zG (zB 2 rfl (pv 2)) (zE (c:=.bo))))) rfl))))))
   (zK (zb (u5 1 rfl (pv 1))))))
noncomputable abbrev wC:Stmt:=top 27
theorem sc_there_and_back:FnScope ["start","end","mark"] ["start","end","mark"] (zN wC):=⟨rfl,rfl,rfl,by decide +kernel,rfl,by decide +kernel,by decide +kernel⟩
theorem kg(F:Fun K "there_and_back" "there_and_back" wC f fd)(B:Blt mg):FnOk P w K mg base CX0 1 f fd ["start","end","mark"] (spV K 3 z6):=
 xS (g:=wD) (n:=3) (m:=3) [] rfl rfl (by decide) F sc_there_and_back fun cdv A outer s H E hr=>by
  have nd:=sc_there_and_back.nd
  have hu:=yH hr
  have hu64:=hr.units
  exact (zK (zb (yE (zx (z7 (zx (VE.data (zB 0 rfl (pv 0)) (.mv [])) (zx (VE.data (zB 1 rfl (pv 1)) (.mv [])) (zx (VE.data (zB 2 rfl (pv 2)) (.mv [])) (zE (c:=.mv [])))))) (zx (z7 (zx (VE.data (zB 1 rfl (pv 1)) (.mv [])) (zx (VE.data (zB 0 rfl (pv 0)) (.mv [])) (zx (VE.data (zB 2 rfl (pv 2)) (.mv [])) (zE (c:=.mv [])))))) (zE (c:=.mv [])))))))
noncomputable abbrev vk:Stmt:=top 28
theorem sc_brace_steps:FnScope ["floor","braces","at","found","field"] ["floor","braces"] (zN vk):=⟨rfl,rfl,rfl,by decide +kernel,rfl,by decide +kernel,by decide +kernel⟩
theorem zaN(F:Fun K "brace_steps" "brace_steps" vk f fd)(B:Blt mg)
  (c_crossings:Fn P w K mg base "crossings" 4 ["floor"] (spV K 1 yQ))
  (c_there_and_back:Fn P w K mg base "there_and_back" 1 ["start","end","mark"] (spV K 3 z6)):FnOk P w K mg base CX0 5 f fd ["floor","braces"] (spV K 2 xh):=
 xS (g:=v7) (n:=2) (m:=5) [3] rfl rfl (by decide) F sc_brace_steps fun cdv A outer s H E hr=>by
  have nd:=sc_brace_steps.nd
  have hu:=yH hr
  have hu64:=hr.units
  exact (zD (zM (i:=2) rfl (zO (i:=2) nd rfl (by first|exact .inl rfl|exact .inr rfl) (VE.sh (zV c_crossings (hr.mono (by decide)) rfl (zG (zB 0 rfl (pv 0)) (zE (c:=.bo)))))))
   (zD (zc (i:=3) (by decide) (zO (i:=3) nd rfl (by first|exact .inl rfl|exact .inr rfl) (yE (zE (c:=.mv [])))))
   (zD (xR PassesOwn.never rfl (zg true (zB 1 rfl (pv 1))) (zR 4 rfl (zQ (i:=4) nd rfl (by first|exact .inl rfl|exact .inr rfl))) (zK (zap 3 (by decide) (yZ (xa PySem.F.plainAttrs_list PySem.F.slot_list_extend PySem.F.type_list_extend zaU (pv 3) (zw (zV c_there_and_back (hr.mono (by decide)) rfl (zG (za hu (za hu (zB 2 rfl (pv 2)) (zB 4 rfl (pv 4)) (fun _ _=>rfl)) zH (fun _ _=>rfl)) (zG (za hu (za hu (zB 2 rfl (pv 2)) (zB 4 rfl (pv 4)) (fun _ _=>rfl)) zH (fun _ _=>rfl)) (zG (zB 4 rfl (pv 4)) (zE (c:=.bo)))))) pa_nil))))))
   (zK (zb (u5 3 rfl (pv 3)))))))
noncomputable abbrev vh:Stmt:=top 25
theorem sc_onward_from:FnScope ["steps","found","step"] ["steps"] (zN vh):=⟨rfl,rfl,rfl,by decide +kernel,rfl,by decide +kernel,by decide +kernel⟩
theorem zaK(F:Fun K "onward_from" "onward_from" vh f fd)(B:Blt mg):FnOk P w K mg base CX0 1 f fd ["steps"] (spV K 1 xf):=
 xS (g:=vx) (n:=1) (m:=3) [1] rfl rfl (by decide) F sc_onward_from fun cdv A outer s H E hr=>by
  have nd:=sc_onward_from.nd
  have hu:=yH hr
  have hu64:=hr.units
  exact (zD (zc (i:=1) (by decide) (zO (i:=1) nd rfl (by first|exact .inl rfl|exact .inr rfl) (uG uJ)))
   (zD (xR PassesOwn.never rfl (zg true (zB 0 rfl (pv 0))) (zR 2 rfl (zQ (i:=2) nd rfl (by first|exact .inl rfl|exact .inr rfl))) (zK (zgw 1 (by decide) (yZ (xa PySem.F.plainAttrs_list PySem.F.slot_list_append PySem.F.type_list_append yB (zjZ (pv 1) (za hu (zB 2 rfl (pv 2)) zH (fun _ _=>rfl)) (yE (zE (c:=.mv []))) ⟨rfl,rfl,rfl,rfl⟩) (zw (VE.data (zB 2 rfl (pv 2)) (.mv [])) pa_nil))))))
   (zK (zb (u5 1 rfl (pv 1))))))
noncomputable abbrev uV:Stmt:=top 26
theorem sc_walks_from:FnScope ["steps","start","found","onward","waiting","here","step"] ["steps","start"] (zN uV):=⟨rfl,rfl,rfl,by decide +kernel,rfl,by decide +kernel,by decide +kernel⟩
theorem zbN(F:Fun K "walks_from" "walks_from" uV f fd)(B:Blt mg)
  (c_onward_from:Fn P w K mg base "onward_from" 1 ["steps"] (spV K 1 xf)):FnOk P w K mg base CX0 2 f fd ["steps","start"] (spV K 2 wL):=
 xS (g:=um) (n:=2) (m:=7) [2,4] rfl rfl (by decide) F sc_walks_from fun cdv A outer s H E hr=>by
  have nd:=sc_walks_from.nd
  have hu:=yH hr
  have hu64:=hr.units
  exact (zD (zc (i:=2) (by decide) (zO (i:=2) nd rfl (by first|exact .inl rfl|exact .inr rfl) (zhz (zB 1 rfl (pv 1)) (yE (zE (c:=.mv []))))))
   (zD (zM (i:=3) rfl (zO (i:=3) nd rfl (by first|exact .inl rfl|exact .inr rfl) (VE.sh (zV c_onward_from (hr.mono (by decide)) rfl (zG (zB 0 rfl (pv 0)) (zE (c:=.bo)))))))
   (zD (zc (i:=4) (by decide) (zO (i:=4) nd rfl (by first|exact .inl rfl|exact .inr rfl) (yE (zx (VE.data (zB 1 rfl (pv 1)) (.mv [])) (zE (c:=.mv []))))))
   (zD (wq 1000000 PassesOwn.never (zX zcl zcj (zf xL xM (by rfl) B.len_ PySem.boot_len (zG (yG 4 (pv 4)) (zE (c:=.bo)))) zH (zu _)) (zD (zjA 5 4 (by decide) (by decide) (zO (i:=5) nd rfl (by first|exact .inl rfl|exact .inr rfl) (xa PySem.F.plainAttrs_list PySem.F.slot_list_pop PySem.F.type_list_pop zdZ (pv 4) (zw zie pa_nil))))
   (zK (xR PassesOwn.never rfl (zg true (zjB hu (zB 3 rfl (pv 3)) (zB 5 rfl (pv 5)) (yE (zE (c:=.sh))) ⟨rfl,rfl,rfl,rfl⟩)) (zR 6 rfl (zQ (i:=6) nd rfl (by first|exact .inl rfl|exact .inr rfl))) (zK (yV (zX (yq hu) yp (za hu (zB 6 rfl (pv 6)) zH (fun _ _=>rfl)) (yG 2 (pv 2)) (by with_unfolding_all rfl)) (zD (zjz 2 (by decide) (uc hu (pv 2) (za hu (zB 6 rfl (pv 6)) zH (fun _ _=>rfl)) (zZ yS yR (za hu (yG 2 (pv 2)) (zB 5 rfl (pv 5)) (fun _ _=>rfl)) (yE (zG (za hu (zB 6 rfl (pv 6)) zH (fun _ _=>rfl)) (zE (c:=.bo))))) rfl))
   (zK (yc 4 (by decide) (yZ (xa PySem.F.plainAttrs_list PySem.F.slot_list_append PySem.F.type_list_append yB (pv 4) (zw (VE.data (za hu (zB 6 rfl (pv 6)) zH (fun _ _=>rfl)) (.mv [])) pa_nil)))))) zj))))))
   (zK (zb (u5 2 rfl (pv 2))))))))
noncomputable abbrev zaA:Stmt:=top 30
theorem sc_pieces:FnScope ["floor","braces","steps","found","met","strip","ways"] ["floor","braces"] (zN zaA):=⟨rfl,rfl,rfl,by decide +kernel,rfl,by decide +kernel,by decide +kernel⟩
theorem zgT(F:Fun K "pieces" "pieces" zaA f fd)(B:Blt mg)
  (c_brace_steps:Fn P w K mg base "brace_steps" 5 ["floor","braces"] (spV K 2 xh))
  (c_strips:Fn P w K mg base "strips" 3 ["floor"] (spV K 1 zq))
  (c_walks_from:Fn P w K mg base "walks_from" 2 ["steps","start"] (spV K 2 wL)):FnOk P w K mg base CX0 6 f fd ["floor","braces"] (spV K 2 wn):=
 xS (g:=zbh) (n:=2) (m:=7) [3,4] rfl rfl (by decide) F sc_pieces fun cdv A outer s H E hr=>by
  have nd:=sc_pieces.nd
  have hu:=yH hr
  have hu64:=hr.units
  exact (zD (zM (i:=2) rfl (zO (i:=2) nd rfl (by first|exact .inl rfl|exact .inr rfl) (VE.sh (zV c_brace_steps (hr.mono (by decide)) rfl (zG (zB 0 rfl (pv 0)) (zG (zB 1 rfl (pv 1)) (zE (c:=.bo))))))))
   (zD (zc (i:=3) (by decide) (zO (i:=3) nd rfl (by first|exact .inl rfl|exact .inr rfl) (yE (zE (c:=.mv [])))))
   (zD (zc (i:=4) (by decide) (zO (i:=4) nd rfl (by first|exact .inl rfl|exact .inr rfl) (uG uJ)))
   (zD (xR PassesOwn.never rfl (zcI true (by rfl) B.range_ (zG (zf xL xM (by rfl) B.len_ PySem.boot_len (zG (zV c_strips (hr.mono (by decide)) rfl (zG (zB 0 rfl (pv 0)) (zE (c:=.bo)))) (zE (c:=.bo)))) (zE (c:=.bo)))) (zR 5 rfl (zQ (i:=5) nd rfl (by first|exact .inl rfl|exact .inr rfl))) (zK (yV (zX (yq hu) yp (zB 5 rfl (pv 5)) (yG 4 (pv 4)) (by with_unfolding_all rfl)) (zD (zM (i:=6) rfl (zO (i:=6) nd rfl (by first|exact .inl rfl|exact .inr rfl) (VE.sh (zV c_walks_from (hr.mono (by decide)) rfl (zG (zB 2 rfl (pv 2)) (zG (zB 5 rfl (pv 5)) (zE (c:=.bo))))))))
   (zD (zgv 4 (by decide) (yZ (xa PySem.F.plainAttrs_dict PySem.F.slot_dict_update PySem.F.type_dict_update zgW (pv 4) (zw (zB 6 rfl (pv 6)) pa_nil))))
   (zK (yc 3 (by decide) (yZ (xa PySem.F.plainAttrs_list PySem.F.slot_list_append PySem.F.type_list_append yB (pv 3) (zw (zf vG (vH rfl) (by rfl) B.sorted_ boot_sorted (zG (zB 6 rfl (pv 6)) (zE (c:=.bo)))) pa_nil))))))) zj)))
   (zK (zb (u5 3 rfl (pv 3))))))))
noncomputable abbrev zaC:Stmt:=top 31
theorem sc_labels:FnScope ["floor","braces","found","piece","strip"] ["floor","braces"] (zN zaC):=⟨rfl,rfl,rfl,by decide +kernel,rfl,by decide +kernel,by decide +kernel⟩
theorem zgU(F:Fun K "labels" "labels" zaC f fd)(B:Blt mg)
  (c_pieces:Fn P w K mg base "pieces" 6 ["floor","braces"] (spV K 2 wn)):FnOk P w K mg base CX0 7 f fd ["floor","braces"] (spV K 2 jh):=
 xS (g:=zbi) (n:=2) (m:=5) [2] rfl rfl (by decide) F sc_labels fun cdv A outer s H E hr=>by
  have nd:=sc_labels.nd
  have hu:=yH hr
  have hu64:=hr.units
  exact (zD (zc (i:=2) (by decide) (zO (i:=2) nd rfl (by first|exact .inl rfl|exact .inr rfl) (uG uJ)))
   (zD (xR PassesOwn.never rfl (zg true (VE.sh (zV c_pieces (hr.mono (by decide)) rfl (zG (zB 0 rfl (pv 0)) (zG (zB 1 rfl (pv 1)) (zE (c:=.bo))))))) (zR 3 rfl (zQ (i:=3) nd rfl (by first|exact .inl rfl|exact .inr rfl))) (zK (xR PassesOwn.never rfl (zg true (zB 3 rfl (pv 3))) (zR 4 rfl (zQ (i:=4) nd rfl (by first|exact .inl rfl|exact .inr rfl))) (zK (ji 2 (by decide) (ud (za hu (zB 3 rfl (pv 3)) zH (fun _ _=>rfl)) (jN (pv 2) (zB 4 rfl (pv 4)) wV)) (uc hu (pv 2) (zB 4 rfl (pv 4)) (za hu (zB 3 rfl (pv 3)) zH (fun _ _=>rfl)) rfl))))))
   (zK (zb (u5 2 rfl (pv 2))))))
noncomputable abbrev qM:Stmt:=top 32
theorem sc_joining:FnScope ["floor","braces","fields","label","at","found","field","one","other","strip"] ["floor","braces","fields"] (zN qM):=⟨rfl,rfl,rfl,by decide +kernel,rfl,by decide +kernel,by decide +kernel⟩
theorem zeS(F:Fun K "joining" "joining" qM f fd)(B:Blt mg)
  (c_labels:Fn P w K mg base "labels" 7 ["floor","braces"] (spV K 2 jh))
  (c_crossings:Fn P w K mg base "crossings" 4 ["floor"] (spV K 1 yQ)):FnOk P w K mg base CX0 8 f fd ["floor","braces","fields"] (spV K 3 uR):=
 xS (g:=qY) (n:=3) (m:=10) [3,5] rfl rfl (by decide) F sc_joining fun cdv A outer s H E hr=>by
  have nd:=sc_joining.nd
  have hu:=yH hr
  have hu64:=hr.units
  exact (zD (zc (i:=3) (by decide) (zO (i:=3) nd rfl (by first|exact .inl rfl|exact .inr rfl) (zV c_labels (hr.mono (by decide)) rfl (zG (zB 0 rfl (pv 0)) (zG (zB 1 rfl (pv 1)) (zE (c:=.bo)))))))
   (zD (zM (i:=4) rfl (zO (i:=4) nd rfl (by first|exact .inl rfl|exact .inr rfl) (VE.sh (zV c_crossings (hr.mono (by decide)) rfl (zG (zB 0 rfl (pv 0)) (zE (c:=.bo)))))))
   (zD (zc (i:=5) (by decide) (zO (i:=5) nd rfl (by first|exact .inl rfl|exact .inr rfl) (yE (zE (c:=.mv [])))))
   (zD (xR PassesOwn.never rfl (zg true (zB 2 rfl (pv 2))) (zR 6 rfl (zQ (i:=6) nd rfl (by first|exact .inl rfl|exact .inr rfl))) (zD (zM (i:=7) rfl (zO (i:=7) nd rfl (by first|exact .inl rfl|exact .inr rfl) (VE.data (za hu (yG 3 (pv 3)) (za hu (za hu (zB 4 rfl (pv 4)) (zB 6 rfl (pv 6)) (fun _ _=>rfl)) zH (fun _ _=>rfl)) (fun _ _=>rfl)) .sh)))
   (zD (zM (i:=8) rfl (zO (i:=8) nd rfl (by first|exact .inl rfl|exact .inr rfl) (VE.data (za hu (yG 3 (pv 3)) (za hu (za hu (zB 4 rfl (pv 4)) (zB 6 rfl (pv 6)) (fun _ _=>rfl)) zH (fun _ _=>rfl)) (fun _ _=>rfl)) .sh)))
   (zK (yV (zX (vq hu64) jw (zB 7 rfl (pv 7)) (zB 8 rfl (pv 8)) (zu _)) (zD (yc 5 (by decide) (yZ (xa PySem.F.plainAttrs_list PySem.F.slot_list_append PySem.F.type_list_append yB (pv 5) (zw (VE.data (zB 6 rfl (pv 6)) (.mv [])) pa_nil))))
   (zK (xR PassesOwn.never rfl (zg true (VE.sh (yN wR (wS rfl) (by rfl) B.list_ boot_list (zG (yG 3 (pv 3)) (zE (c:=.bo)))))) (zR 9 rfl (zQ (i:=9) nd rfl (by first|exact .inl rfl|exact .inr rfl))) (zK (yV (zX (jP hu64) qm (za hu (yG 3 (pv 3)) (zB 9 rfl (pv 9)) (fun _ _=>rfl)) (zB 8 rfl (pv 8)) (zu _)) (zK (ji 3 (by decide) (ud (zB 7 rfl (pv 7)) (jN (pv 3) (zB 9 rfl (pv 9)) wV)) (uc hu (pv 3) (zB 9 rfl (pv 9)) (zB 7 rfl (pv 7)) rfl))) zj))))) zj)))))
   (zK (zb (u5 5 rfl (pv 5))))))))
noncomputable abbrev jI:Stmt:=top 36
theorem sc_exchanges:FnScope ["floor","one","other","now","found","out","left","come"] ["floor","one","other"] (zN jI):=⟨rfl,rfl,rfl,by decide +kernel,rfl,by decide +kernel,by decide +kernel⟩
theorem zcV(F:Fun K "exchanges" "exchanges" jI f fd)(B:Blt mg)
  (c_without:Fn P w K mg base "without" 1 ["fields","field"] (spV K 2 wp))
  (c_joining:Fn P w K mg base "joining" 8 ["floor","braces","fields"] (spV K 3 uR)):FnOk P w K mg base CX0 9 f fd ["floor","one","other"] (spV K 3 yP):=
 xS (g:=jX) (n:=3) (m:=8) [4] rfl rfl (by decide) F sc_exchanges fun cdv A outer s H E hr=>by
  have nd:=sc_exchanges.nd
  have hu:=yH hr
  have hu64:=hr.units
  exact (zD (zM (i:=3) rfl (zO (i:=3) nd rfl (by first|exact .inl rfl|exact .inr rfl) (VE.sh (yN wR (wS rfl) (by rfl) B.list_ boot_list (zG (zB 1 rfl (pv 1)) (zE (c:=.bo)))))))
   (zD (zc (i:=4) (by decide) (zO (i:=4) nd rfl (by first|exact .inl rfl|exact .inr rfl) (yE (zE (c:=.mv [])))))
   (zD (xR PassesOwn.never rfl (zg true (VE.sh (xE (ow:=["field"]) (js:=[2]) (.mv []) (Or.inl rfl) (by decide) rfl (zg false (zB 1 rfl (pv 1))) (fun _ _ _ _=>(zR 0 rfl (zQ (i:=0) (show (["field","other"]:List Str).Nodup by decide +kernel) rfl (by first|exact .inl rfl|exact .inr rfl)))) (fun _ _ _ _=>(yK (zX (yq hu) yp (zB 0 rfl (pv 0)) (zB 1 rfl (pv 1)) (by with_unfolding_all rfl)))) (fun _ _ _ _=>(VE.data (zB 0 rfl (pv 0)) (.mv [])))))) (zR 5 rfl (zQ (i:=5) nd rfl (by first|exact .inl rfl|exact .inr rfl))) (zD (zM (i:=6) rfl (zO (i:=6) nd rfl (by first|exact .inl rfl|exact .inr rfl) (VE.sh (zV c_without (hr.mono (by decide)) rfl (zG (zB 3 rfl (pv 3)) (zG (zB 5 rfl (pv 5)) (zE (c:=.bo))))))))
   (zD (zM (i:=7) rfl (zO (i:=7) nd rfl (by first|exact .inl rfl|exact .inr rfl) (VE.sh (za hu (zV c_joining (hr.mono (by decide)) rfl (zG (zB 0 rfl (pv 0)) (zG (zB 6 rfl (pv 6)) (zG (zB 2 rfl (pv 2)) (zE (c:=.bo)))))) zH (fun _ _=>rfl)))))
   (zD (yc 4 (by decide) (yZ (xa PySem.F.plainAttrs_list PySem.F.slot_list_append PySem.F.type_list_append yB (pv 4) (zw (z7 (zx (VE.data (zB 5 rfl (pv 5)) (.mv [])) (zx (VE.data (zB 7 rfl (pv 7)) (.mv [])) (zE (c:=.mv []))))) pa_nil))))
   (zK (zM (i:=3) rfl (zO (i:=3) nd rfl (by first|exact .inl rfl|exact .inr rfl) (VE.sh (zZ yS yR (zB 6 rfl (pv 6)) (yE (zG (zB 7 rfl (pv 7)) (zE (c:=.bo)))))))))))))
   (zK (zb (u5 4 rfl (pv 4)))))))
noncomputable abbrev vm:Stmt:=top 47
theorem sc__law_walked:FnScope ["_law_ends","_law_one","_law_other","_law_found","_law_now","_law_pair","_law_row","_law_column"] ["_law_ends","_law_one","_law_other","_law_found"] (zN vm):=⟨rfl,rfl,rfl,by decide +kernel,rfl,by decide +kernel,by decide +kernel⟩
theorem zaO(F:Fun K "_law_walked" "_law_walked" vm f fd)(B:Blt mg)
  (c__law_piece:Fn P w K mg base "_law_piece" 1 ["_law_ends","_law_fields","_law_start"] (spV K 3 yJ)):FnOk P w K mg base CX0 2 f fd ["_law_ends","_law_one","_law_other","_law_found"] (spV K 4 yL):=
 xS (g:=v8) (n:=4) (m:=8) [4] rfl rfl (by decide) F sc__law_walked fun cdv A outer s H E hr=>by
  have nd:=sc__law_walked.nd
  have hu:=yH hr
  have hu64:=hr.units
  exact (zD (yV (ve (yW (zf wG wH (by rfl) B.isinstance_ boot_isinstance (zG (zB 3 rfl (pv 3)) (zG (qH (c:=.mv []) (fun _ _=>.mkTy _) (jO rfl B.list_ boot_list)) (zE (c:=.bo))))) (fun _=>rfl))) (zK (zb u6)) zj)
   (zD (yV (zX (vq hu64) jw (zf vG (vH rfl) (by rfl) B.sorted_ boot_sorted (zG (xE (ow:=["_law_pair"]) (js:=[]) (.mv []) (Or.inl rfl) (by decide) rfl (zg false (zB 3 rfl (pv 3))) (fun _ _ _ _=>(zR 0 rfl (zQ (i:=0) (show (["_law_pair"]:List Str).Nodup by decide +kernel) rfl (by first|exact .inl rfl|exact .inr rfl)))) (fun _ _ _ _=>wN) (fun _ _ _ _=>(VE.data (za hu (zB 0 rfl (pv 0)) zH (fun _ _=>rfl)) (.mv [])))) (zE (c:=.bo)))) (xE (ow:=["_law_field"]) (js:=[2]) (.mv []) (Or.inl rfl) (by decide) rfl (zg false (zB 1 rfl (pv 1))) (fun _ _ _ _=>(zR 0 rfl (zQ (i:=0) (show (["_law_field","_law_other"]:List Str).Nodup by decide +kernel) rfl (by first|exact .inl rfl|exact .inr rfl)))) (fun _ _ _ _=>(yK (zX (yq hu) yp (zB 0 rfl (pv 0)) (zB 1 rfl (pv 1)) (by with_unfolding_all rfl)))) (fun _ _ _ _=>(VE.data (zB 0 rfl (pv 0)) (.mv [])))) (zu _)) (zK (zb u6)) zj)
   (zD (yV (zX (vq hu64) jw (zf vG (vH rfl) (by rfl) B.sorted_ boot_sorted (zG (xE (ow:=["_law_pair"]) (js:=[]) (.mv []) (Or.inl rfl) (by decide) rfl (zg false (zB 3 rfl (pv 3))) (fun _ _ _ _=>(zR 0 rfl (zQ (i:=0) (show (["_law_pair"]:List Str).Nodup by decide +kernel) rfl (by first|exact .inl rfl|exact .inr rfl)))) (fun _ _ _ _=>wN) (fun _ _ _ _=>(VE.data (za hu (zB 0 rfl (pv 0)) zH (fun _ _=>rfl)) (.mv [])))) (zE (c:=.bo)))) (xE (ow:=["_law_field"]) (js:=[1]) (.mv []) (Or.inl rfl) (by decide) rfl (zg false (zB 2 rfl (pv 2))) (fun _ _ _ _=>(zR 0 rfl (zQ (i:=0) (show (["_law_field","_law_one"]:List Str).Nodup by decide +kernel) rfl (by first|exact .inl rfl|exact .inr rfl)))) (fun _ _ _ _=>(yK (zX (yq hu) yp (zB 0 rfl (pv 0)) (zB 1 rfl (pv 1)) (by with_unfolding_all rfl)))) (fun _ _ _ _=>(VE.data (zB 0 rfl (pv 0)) (.mv [])))) (zu _)) (zK (zb u6)) zj)
   (zD (zc (i:=4) (by decide) (zO (i:=4) nd rfl (by first|exact .inl rfl|exact .inr rfl) (yN wR (wS rfl) (by rfl) B.list_ boot_list (zG (zB 1 rfl (pv 1)) (zE (c:=.bo))))))
   (zD (xR PassesOwn.never rfl (zg true (zB 3 rfl (pv 3))) (zR 5 rfl (zQ (i:=5) nd rfl (by first|exact .inl rfl|exact .inr rfl))) (zD (yV (VW.vt (jv (ve (yW (zf wG wH (by rfl) B.isinstance_ boot_isinstance (zG (zB 5 rfl (pv 5)) (zG (qH (c:=.mv []) (fun _ _=>.mkTy _) (jO rfl B.tuple_ boot_tuple)) (zE (c:=.bo))))) (fun _=>rfl))) (jv (zX (vq hu64) jw (zf xL xM (by rfl) B.len_ PySem.boot_len (zG (zB 5 rfl (pv 5)) (zE (c:=.bo)))) zH (zu _)) (jv (zX (yq hu) yp (za hu (zB 5 rfl (pv 5)) zH (fun _ _=>rfl)) (yG 4 (pv 4)) (by with_unfolding_all rfl)) (j3 (zX (vT hu) vS (za hu (zB 5 rfl (pv 5)) zH (fun _ _=>rfl)) (yG 4 (pv 4)) (by with_unfolding_all rfl))))))) (zK (zb u6)) zj)
   (zD (yV (VW.vt (jv (yW (zf wG wH (by rfl) B.isinstance_ boot_isinstance (zG (za hu (zB 5 rfl (pv 5)) zH (fun _ _=>rfl)) (zG (qH (c:=.mv []) (fun _ _=>.mkTy _) (jO rfl B.bool_ boot_bool)) (zE (c:=.bo))))) (fun _=>rfl)) (j3 (yW (zf wG wH (by rfl) B.isinstance_ boot_isinstance (zG (za hu (zB 5 rfl (pv 5)) zH (fun _ _=>rfl)) (zG (qH (c:=.mv []) (fun _ _=>.mkTy _) (jO rfl B.bool_ boot_bool)) (zE (c:=.bo))))) (fun _=>rfl))))) (zK (zb u6)) zj)
   (zD (zc (i:=4) (by decide) (by first | exact (zjP (qk (i:=4) (ow:=["_law_field"]) (js:=[5]) (.mv []) nd rfl (by first|exact .inl rfl|exact .inr rfl) (Or.inl rfl) (by decide) rfl (zg false (zB 4 rfl (pv 4))) (fun _ _ _ _=>(zR 0 rfl (zQ (i:=0) (show (["_law_field","_law_pair"]:List Str).Nodup by decide +kernel) rfl (by first|exact .inl rfl|exact .inr rfl)))) (fun _ _ _ _=>(yK (zX (vq hu64) jw (zB 0 rfl (pv 0)) (za hu (zB 1 rfl (pv 1)) zH (fun _ _=>rfl)) (zu _)))) (fun _ _ _ _=>(VE.data (zB 0 rfl (pv 0)) (.mv []))))) | exact (zO (i:=4) nd rfl (by first|exact .inl rfl|exact .inr rfl) (zfz (xE (ow:=["_law_field"]) (js:=[5]) (.mv []) (Or.inl rfl) (by decide) rfl (zg false (zB 4 rfl (pv 4))) (fun _ _ _ _=>(zR 0 rfl (zQ (i:=0) (show (["_law_field","_law_pair"]:List Str).Nodup by decide +kernel) rfl (by first|exact .inl rfl|exact .inr rfl)))) (fun _ _ _ _=>(yK (zX (vq hu64) jw (zB 0 rfl (pv 0)) (za hu (zB 1 rfl (pv 1)) zH (fun _ _=>rfl)) (zu _)))) (fun _ _ _ _=>(VE.data (zB 0 rfl (pv 0)) (.mv []))))))))
   (zD (zeu (za hu (zB 0 rfl (pv 0)) (za hu (zB 5 rfl (pv 5)) zH (fun _ _=>rfl)) (fun _ _=>rfl)) (qE 2 rfl (yn (zR 6 rfl (zQ (i:=6) nd rfl (by first|exact .inl rfl|exact .inr rfl))) (yn (zR 7 rfl (zQ (i:=7) nd rfl (by first|exact .inl rfl|exact .inr rfl))) jj))))
   (zD (yV (zX (zim hu64) zij (zB 7 rfl (pv 7)) (zV c__law_piece (hr.mono (by decide)) rfl (zG (zB 0 rfl (pv 0)) (zG (yG 4 (pv 4)) (zG (zB 6 rfl (pv 6)) (zE (c:=.bo)))))) (by with_unfolding_all rfl)) (zK (zb u6)) zj)
   (zK (yc 4 (by decide) (yZ (xa PySem.F.plainAttrs_list PySem.F.slot_list_append PySem.F.type_list_append yB (pv 4) (zw (VE.data (za hu (zB 5 rfl (pv 5)) zH (fun _ _=>rfl)) (.mv [])) pa_nil)))))))))))
   (zK (zb (qG (jP hu64) qm (zf vG (vH rfl) (by rfl) B.sorted_ boot_sorted (zG (yG 4 (pv 4)) (zE (c:=.bo)))) (zB 2 rfl (pv 2)) (zu _)))))))))
noncomputable abbrev j8:Stmt:=top 38
theorem sc__law_pen:FnScope ["_law_script","_law_j","_law_cell"] ["_law_script","_law_j"] (zN j8):=⟨rfl,rfl,rfl,by decide +kernel,rfl,by decide +kernel,by decide +kernel⟩
theorem zdV(F:Fun K "_law_pen" "_law_pen" j8 f fd)(B:Blt mg):FnOk P w K mg base CX0 1 f fd ["_law_script","_law_j"] (spV K 2 xD):=
 xS (g:=vD) (n:=2) (m:=3) [] rfl rfl (by decide) F sc__law_pen fun cdv A outer s H E hr=>by
  have nd:=sc__law_pen.nd
  have hu:=yH hr
  have hu64:=hr.units
  exact (zD (yV (zX (jP hu64) qm (zf xL xM (by rfl) B.len_ PySem.boot_len (zG (zB 0 rfl (pv 0)) (zE (c:=.bo)))) zH (zu _)) (zK (zb (yE (zx (zZ yS yR (zZ vp vo zH (zB 1 rfl (pv 1))) zH) (zx zH (zE (c:=.mv []))))))) zj)
   (zD (yV (zX (jP hu64) qm (zZ xt xq (za hu (zB 0 rfl (pv 0)) zH (fun _ _=>rfl)) zH) zH (zu _)) (zK (zb (yE (zx (zZ xt xq (zZ yS yR (za hu (zB 0 rfl (pv 0)) (zZ xt xq (zZ yS yR zH (zB 1 rfl (pv 1))) (zf xL xM (by rfl) B.len_ PySem.boot_len (zG (zB 0 rfl (pv 0)) (zE (c:=.bo))))) (fun _ _=>rfl)) (zZ vp vo zH (zB 1 rfl (pv 1)))) zH) (zx zH (zE (c:=.mv []))))))) zj)
   (zD (zM (i:=2) rfl (zO (i:=2) nd rfl (by first|exact .inl rfl|exact .inr rfl) (VE.sh zH)))
   (zD (yV (zX kf ke (zZ yS yR (zB 1 rfl (pv 1)) zH) (zf xL xM (by rfl) B.len_ PySem.boot_len (zG (zB 0 rfl (pv 0)) (zE (c:=.bo)))) (zu _)) (zK (zM (i:=2) rfl (zO (i:=2) nd rfl (by first|exact .inl rfl|exact .inr rfl) (za hu (zB 0 rfl (pv 0)) (zZ yS yR (zB 1 rfl (pv 1)) zH) (fun _ _=>rfl))))) zj)
   (zK (zb (yE (zx (VE.data (zB 2 rfl (pv 2)) (.mv [])) (zx zH (zE (c:=.mv [])))))))))))
noncomputable abbrev uZ:Stmt:=top 45
theorem sc__law_order:FnScope ["_law_pen_here","_law_some","_law_left","_law_found"] ["_law_pen_here","_law_some"] (zN uZ):=⟨rfl,rfl,rfl,by decide +kernel,rfl,by decide +kernel,by decide +kernel⟩
theorem zbR(F:Fun K "_law_order" "_law_order" uZ f fd)(B:Blt mg)
  (c__law_take:Fn P w K mg base "_law_take" 1 ["_law_pen_here","_law_most"] (spM K 2 ze)):FnOk P w K mg base CX0 2 f fd ["_law_pen_here","_law_some"] (spM K 2 xU):=
 zmo (g:=ur) (n:=2) (m:=4) [0,2,3] rfl rfl (by decide) (by decide) F sc__law_order fun cdv A outer s H G E hr=>by
  have nd:=sc__law_order.nd
  have hu:=yH hr
  have hu64:=hr.units
  exact (zD (zc (i:=2) (by decide) (zO (i:=2) nd rfl (by first|exact .inl rfl|exact .inr rfl) (yN wR (wS rfl) (by rfl) B.list_ boot_list (zG (zB 1 rfl (pv 1)) (zE (c:=.bo))))))
   (zD (zc (i:=3) (by decide) (zO (i:=3) nd rfl (by first|exact .inl rfl|exact .inr rfl) (yE (zE (c:=.mv [])))))
   (zD (wq 1000000 PassesOwn.never (zX (vq hu64) jw (yG 2 (pv 2)) (yE (zE (c:=.bo))) (zu _)) (zK (zgx 3 2 (by decide) (by decide) (yZ (xa PySem.F.plainAttrs_list PySem.F.slot_list_append PySem.F.type_list_append yB (pv 3) (zw (xa PySem.F.plainAttrs_list PySem.F.slot_list_pop PySem.F.type_list_pop zdZ (pv 2) (zw (zhx (kS 0 rfl zah c__law_take (hr.mono (by decide)) rfl (pv 0) (xF (VE.sh (zf xL xM (by rfl) B.len_ PySem.boot_len (zG (yG 2 (pv 2)) (zE (c:=.bo))))) (zE (c:=.sh))))) pa_nil)) pa_nil))))))
   (zK (zb (u5 3 rfl (pv 3)))))))
noncomputable abbrev vn:Stmt:=top 43
theorem sc__law_firsts:FnScope ["_law_floor_here","_law_field","_law_wide","_law_high","_law_fields","_law_left","_law_low"] ["_law_floor_here","_law_field"] (zN vn):=⟨rfl,rfl,rfl,by decide +kernel,rfl,by decide +kernel,by decide +kernel⟩
theorem zaP(F:Fun K "_law_firsts" "_law_firsts" vn f fd)(B:Blt mg):FnOk P w K mg base CX0 1 f fd ["_law_floor_here","_law_field"] (spV K 2 ym):=
 xS (g:=uA) (n:=2) (m:=7) [] rfl rfl (by decide) F sc__law_firsts fun cdv A outer s H E hr=>by
  have nd:=sc__law_firsts.nd
  have hu:=yH hr
  have hu64:=hr.units
  exact (zD (zeu (zB 0 rfl (pv 0)) (qE 3 rfl (yn (zR 2 rfl (zQ (i:=2) nd rfl (by first|exact .inl rfl|exact .inr rfl))) (yn (zR 3 rfl (zQ (i:=3) nd rfl (by first|exact .inl rfl|exact .inr rfl))) (yn (zR 4 rfl (zQ (i:=4) nd rfl (by first|exact .inl rfl|exact .inr rfl))) jj)))))
   (zD (zM (i:=5) rfl (zO (i:=5) nd rfl (by first|exact .inl rfl|exact .inr rfl) (zB 1 rfl (pv 1))))
   (zD (wq 1000000 PassesOwn.never (VW.vt (zet (zX zcl zcj (zZ xt xq (zB 5 rfl (pv 5)) (zB 2 rfl (pv 2))) zH (zu _)) (zcG (zX (vT hu) vS (zZ yx yw (zB 5 rfl (pv 5)) zH) (zB 4 rfl (pv 4)) (by with_unfolding_all rfl))))) (zK (zM (i:=5) rfl (zO (i:=5) nd rfl (by first|exact .inl rfl|exact .inr rfl) (VE.sh (zZ yx yw (zB 5 rfl (pv 5)) zH))))))
   (zD (zM (i:=6) rfl (zO (i:=6) nd rfl (by first|exact .inl rfl|exact .inr rfl) (zB 1 rfl (pv 1))))
   (zD (wq 1000000 PassesOwn.never (zX (vT hu) vS (zZ yx yw (zB 6 rfl (pv 6)) (zB 2 rfl (pv 2))) (zB 4 rfl (pv 4)) (by with_unfolding_all rfl)) (zK (zM (i:=6) rfl (zO (i:=6) nd rfl (by first|exact .inl rfl|exact .inr rfl) (VE.sh (zZ yx yw (zB 6 rfl (pv 6)) (zB 2 rfl (pv 2))))))))
   (zK (zb (z7 (zx (z7 (zx qF (zx (VE.data (zB 5 rfl (pv 5)) (.mv [])) (zE (c:=.mv []))))) (zx (z7 (zx qF (zx (VE.data (zB 6 rfl (pv 6)) (.mv [])) (zE (c:=.mv []))))) (zE (c:=.mv []))))))))))))
noncomputable abbrev zaB:Stmt:=top 48
theorem sc_law:FnScope ["_law_script","_law_floor_here","_law_there","_law_ends","_law_one","_law_other","_law_handed","_law_found"] ["_law_script"] (zN zaB):=⟨rfl,rfl,rfl,by decide +kernel,rfl,by decide +kernel,by decide +kernel⟩
theorem zlV(F:Fun K "law" "law" zaB f fd)(B:Blt mg)
  (c__law_floor:Fn P w K mg base "_law_floor" 3 ["_law_pen_here"] (spM K 1 wM))
  (c_floor_of:Fn P w K mg base "floor_of" 4 ["wide","high","fields"] (spV K 3 vL))
  (c__law_grown:Fn P w K mg base "_law_grown" 2 ["_law_ends","_law_order_here"] (spV K 2 xV))
  (c_exchanges:Fn P w K mg base "exchanges" 9 ["floor","one","other"] (spV K 3 yP))
  (c__law_walked:Fn P w K mg base "_law_walked" 2 ["_law_ends","_law_one","_law_other","_law_found"] (spV K 4 yL))
  (c__law_pen:Fn P w K mg base "_law_pen" 1 ["_law_script","_law_j"] (spV K 2 xD))
  (c__law_order:Fn P w K mg base "_law_order" 2 ["_law_pen_here","_law_some"] (spM K 2 xU))
  (c__law_firsts:Fn P w K mg base "_law_firsts" 1 ["_law_floor_here","_law_field"] (spV K 2 ym)):FnOk P w K mg base CX0 10 f fd ["_law_script"] (spV K 1 zam):=
 xS (g:=zfZ) (n:=1) (m:=8) [7] rfl rfl (by decide) F sc_law fun cdv A outer s H E hr=>by
  have nd:=sc_law.nd
  have hu:=yH hr
  have hu64:=hr.units
  exact (zD (zM (i:=1) rfl (zO (i:=1) nd rfl (by first|exact .inl rfl|exact .inr rfl) (VE.sh (zaq c__law_floor (hr.mono (by decide)) rfl (zV c__law_pen (hr.mono (by decide)) rfl (zG (zB 0 rfl (pv 0)) (zG zH (zE (c:=.bo))))) (zE (c:=.bo))))))
   (zD (zM (i:=2) rfl (zO (i:=2) nd rfl (by first|exact .inl rfl|exact .inr rfl) (VE.sh (zV c_floor_of (hr.mono (by decide)) rfl (zG (za hu (zB 1 rfl (pv 1)) zH (fun _ _=>rfl)) (zG (za hu (zB 1 rfl (pv 1)) zH (fun _ _=>rfl)) (zG (yN wR (wS rfl) (by rfl) B.list_ boot_list (zG (za hu (zB 1 rfl (pv 1)) zH (fun _ _=>rfl)) (zE (c:=.bo)))) (zE (c:=.bo)))))))))
   (zD (zM (i:=3) rfl (zO (i:=3) nd rfl (by first|exact .inl rfl|exact .inr rfl) (VE.sh (yN zjg (zfn rfl) (by rfl) B.dict_ boot_dict (zG (xE (ow:=["_law_field"]) (js:=[1]) (.mv []) (Or.inl rfl) (by decide) rfl (zg false (za hu (zB 1 rfl (pv 1)) zH (fun _ _=>rfl))) (fun _ _ _ _=>(zR 0 rfl (zQ (i:=0) (show (["_law_field","_law_floor_here"]:List Str).Nodup by decide +kernel) rfl (by first|exact .inl rfl|exact .inr rfl)))) (fun _ _ _ _=>wN) (fun _ _ _ _=>(z7 (zx (VE.data (zB 0 rfl (pv 0)) (.mv [])) (zx (zV c__law_firsts (hr.mono (by decide)) (by rfl) (zG (zB 1 rfl (pv 1)) (zG (zB 0 rfl (pv 0)) (zE (c:=.bo))))) (zE (c:=.mv []))))))) (zE (c:=.bo)))))))
   (zD (zM (i:=4) rfl (zO (i:=4) nd rfl (by first|exact .inl rfl|exact .inr rfl) (VE.sh (zV c__law_grown (hr.mono (by decide)) rfl (zG (zB 3 rfl (pv 3)) (zG (zaq c__law_order (hr.mono (by decide)) rfl (zV c__law_pen (hr.mono (by decide)) rfl (zG (zB 0 rfl (pv 0)) (zG zH (zE (c:=.bo))))) (zG (za hu (zB 1 rfl (pv 1)) zH (fun _ _=>rfl)) (zE (c:=.bo)))) (zE (c:=.bo))))))))
   (zD (zM (i:=5) rfl (zO (i:=5) nd rfl (by first|exact .inl rfl|exact .inr rfl) (VE.sh (zV c__law_grown (hr.mono (by decide)) rfl (zG (zB 3 rfl (pv 3)) (zG (zaq c__law_order (hr.mono (by decide)) rfl (zV c__law_pen (hr.mono (by decide)) rfl (zG (zB 0 rfl (pv 0)) (zG zH (zE (c:=.bo))))) (zG (za hu (zB 1 rfl (pv 1)) zH (fun _ _=>rfl)) (zE (c:=.bo)))) (zE (c:=.bo))))))))
   (zD (zM (i:=6) rfl (zO (i:=6) nd rfl (by first|exact .inl rfl|exact .inr rfl) (yE (xF (VE.sh (yN wR (wS rfl) (by rfl) B.list_ boot_list (zG (zB 4 rfl (pv 4)) (zE (c:=.bo))))) (xF (VE.sh (yN wR (wS rfl) (by rfl) B.list_ boot_list (zG (zB 5 rfl (pv 5)) (zE (c:=.bo))))) (zE (c:=.sh)))))))
   (zD (zc (i:=7) (by decide) (zO (i:=7) nd rfl (by first|exact .inl rfl|exact .inr rfl) (zV c_exchanges (hr.mono (by decide)) rfl (zG (zB 2 rfl (pv 2)) (zG (za hu (zB 6 rfl (pv 6)) zH (fun _ _=>rfl)) (zG (za hu (zB 6 rfl (pv 6)) zH (fun _ _=>rfl)) (zE (c:=.bo))))))))
   (zD (yV (VW.vt (jv (ve (yW (zV c__law_walked (hr.mono (by decide)) rfl (zG (zB 3 rfl (pv 3)) (zG (zB 4 rfl (pv 4)) (zG (zB 5 rfl (pv 5)) (zG (yG 7 (pv 7)) (zE (c:=.bo))))))) (fun _=>rfl))) (j3 (zX (vq hu64) jw (zB 6 rfl (pv 6)) (yE (zG (zB 4 rfl (pv 4)) (zG (zB 5 rfl (pv 5)) (zE (c:=.bo))))) (zu _))))) (zK (zb u6)) zj)
   (zD (yc 7 (by decide) (yZ (xa PySem.F.plainAttrs_list PySem.F.slot_list_append PySem.F.type_list_append yB (pv 7) (zw (z7 (zx zH (zx zH (zE (c:=.mv []))))) pa_nil))))
   (zD (yV (ve (yW (zV c__law_walked (hr.mono (by decide)) rfl (zG (zB 3 rfl (pv 3)) (zG (zB 5 rfl (pv 5)) (zG (zB 4 rfl (pv 4)) (zG (zV c_exchanges (hr.mono (by decide)) rfl (zG (zB 2 rfl (pv 2)) (zG (za hu (zB 6 rfl (pv 6)) zH (fun _ _=>rfl)) (zG (za hu (zB 6 rfl (pv 6)) zH (fun _ _=>rfl)) (zE (c:=.bo)))))) (zE (c:=.bo))))))) (fun _=>rfl))) (zK (zb u6)) zj)
   (zD (yV (zX (vq hu64) jw (zV c_exchanges (hr.mono (by decide)) rfl (zG (zB 2 rfl (pv 2)) (zG (zB 4 rfl (pv 4)) (zG (yN wR (wS rfl) (by rfl) B.list_ boot_list (zG (zB 4 rfl (pv 4)) (zE (c:=.bo)))) (zE (c:=.bo)))))) (yE (zE (c:=.bo))) (zu _)) (zK (zb u6)) zj)
   (zK (zb (zV c__law_walked (hr.mono (by decide)) rfl (zG (zB 3 rfl (pv 3)) (zG (zB 4 rfl (pv 4)) (zG (zB 5 rfl (pv 5)) (zG (zV c_exchanges (hr.mono (by decide)) rfl (zG (zB 2 rfl (pv 2)) (zG (zB 4 rfl (pv 4)) (zG (zB 5 rfl (pv 5)) (zE (c:=.bo)))))) (zE (c:=.bo))))))))))))))))))))
open PySem.W
theorem zdb{us:List Value}(h:us.length=1):∃ a,us=[a]:=List.length_eq_one_iff.mp h
theorem km{us:List Value}(h:us.length=2):∃ a0 a1,us=[a0,a1]:=by
 cases us with
 | nil=>cases h
 | cons a0 r=>obtain ⟨a1,rfl⟩:=zdb (us:=r) (Nat.succ.inj h);exact ⟨a0,a1,rfl⟩
theorem zaa{us:List Value}(h:us.length=3):∃ a0 a1 a2,us=[a0,a1,a2]:=by
 cases us with
 | nil=>cases h
 | cons a0 r=>obtain ⟨a1,a2,rfl⟩:=km (us:=r) (Nat.succ.inj h);exact ⟨a0,a1,a2,rfl⟩
theorem zlZ{us:List Value}(h:us.length=4):∃ a0 a1 a2 a3,us=[a0,a1,a2,a3]:=by
 cases us with
 | nil=>cases h
 | cons a0 r=>obtain ⟨a1,a2,a3,rfl⟩:=zaa (us:=r) (Nat.succ.inj h);exact ⟨a0,a1,a2,a3,rfl⟩
theorem all_mk {l : PySem.W.OpenLaw} {w : World} {K : PySem.W.Frag} {h : Heap} {mg : Str → Option Value} {fa : Addr} (X : K.In h) (G : h.Ns mainGlobals mg) (hfa : mg "law" = some (.ref fa))
    {t_MOST_PLACES : Tok}
    (k_MOST_PLACES : nsIn K mainGlobals "MOST_PLACES" = some (some (.int 6 t_MOST_PLACES)))
    (d0 : Df K "_law_near" jL)
    (d1 : Df K "_law_reached" wv)
    (d2 : Df K "_law_take" jK)
    (d3 : Df K "_law_floor" ub)
    (d4 : Df K "is_outermost" wu)
    (d5 : Df K "places_beside" wc)
    (d6 : Df K "reached" qL)
    (d7 : Df K "have_hole" jH)
    (d8 : Df K "is_whole" j6)
    (d9 : Df K "are_fields" uX)
    (d10 : Df K "hang_together" wd)
    (d11 : Df K "is_length" jG)
    (d12 : Df K "floor_of" j7)
    (d13 : Df K "_law_piece" uY)
    (d14 : Df K "_law_grown" ua)
    (d15 : Df K "without" qK)
    (d16 : Df K "runs" zeH)
    (d17 : Df K "field_left" uW)
    (d18 : Df K "row_runs" j5)
    (d19 : Df K "field_below" vi)
    (d20 : Df K "column_runs" vj)
    (d21 : Df K "strips" zaz)
    (d22 : Df K "crossings" jJ)
    (d23 : Df K "there_and_back" wC)
    (d24 : Df K "brace_steps" vk)
    (d25 : Df K "onward_from" vh)
    (d26 : Df K "walks_from" uV)
    (d27 : Df K "pieces" zaA)
    (d28 : Df K "labels" zaC)
    (d29 : Df K "joining" qM)
    (d30 : Df K "exchanges" jI)
    (d31 : Df K "_law_walked" vm)
    (d32 : Df K "_law_pen" j8)
    (d33 : Df K "_law_order" uZ)
    (d34 : Df K "_law_firsts" vn)
    (d35 : Df K "law" zaB)
    (z_bool : nsIn K mainGlobals "bool" = some none)
    (z_dict : nsIn K mainGlobals "dict" = some none)
    (z_enumerate : nsIn K mainGlobals "enumerate" = some none)
    (z_int : nsIn K mainGlobals "int" = some none)
    (z_isinstance : nsIn K mainGlobals "isinstance" = some none)
    (z_len : nsIn K mainGlobals "len" = some none)
    (z_list : nsIn K mainGlobals "list" = some none)
    (z_range : nsIn K mainGlobals "range" = some none)
    (z_sorted : nsIn K mainGlobals "sorted" = some none)
    (z_tuple : nsIn K mainGlobals "tuple" = some none)
    (z_zip : nsIn K mainGlobals "zip" = some none)
    : ∃ fd : FuncData, (∀ (s : Shared) (v : Value), BindsTo s fd ⟨[v], []⟩ [("_law_script", v)]) ∧ ∀ base : Heap, K.In base → base.Ns mainGlobals mg → FnOk l.prog w K mg base CX0 10 fa fd ["_law_script"] (spV K 1 zam) := by
  obtain @⟨f, oc, od, kV, dc, pm, an, cd, ct, sl, a, lk, c, k⟩ := d35
  cases hfa.symm.trans (mg_of X G a)
  have B : Blt mg := ⟨mg_none_of X G z_bool, mg_none_of X G z_dict, mg_none_of X G z_enumerate, mg_none_of X G z_int, mg_none_of X G z_isinstance, mg_none_of X G z_len, mg_none_of X G z_list, mg_none_of X G z_range, mg_none_of X G z_sorted, mg_none_of X G z_tuple, mg_none_of X G z_zip⟩
  have h_MOST_PLACES := mg_of X G k_MOST_PLACES
  refine ⟨fnOf "law" "law" (uz zaB) (wQ zaB) (zN zaB) .none kV dc pm an cd ct, fun s v => .of_eq rfl, fun base _ _ => ?_⟩
  have c__law_near : Fn l.prog w K mg base _ _ _ _ := d0.fn X G (fun _ _ F => zcY F B) fun _ _ _ _ _ _ us hl => by obtain ⟨_, _, _, rfl⟩ := zaa hl; rfl
  have c__law_reached : Fn l.prog w K mg base _ _ _ _ := d1.fn X G (fun _ _ F => q9 F B c__law_near) fun _ _ _ _ _ _ us hl => by obtain ⟨_, _, _, _, rfl⟩ := zlZ hl; rfl
  have c__law_take : Fn l.prog w K mg base _ _ _ _ := d2.fn X G (fun _ _ F => zcX F B) fun _ _ _ _ _ _ us hl => by obtain ⟨_, _, rfl⟩ := km hl; rfl
  have c__law_floor : Fn l.prog w K mg base _ _ _ _ := d3.fn X G (fun _ _ F => zbT F B c__law_reached c__law_take) fun _ _ _ _ _ _ us hl => by obtain ⟨_, rfl⟩ := zdb hl; rfl
  have c_is_outermost : Fn l.prog w K mg base _ _ _ _ := d4.fn X G (fun _ _ F => qz F B) fun _ _ _ _ _ _ us hl => by obtain ⟨_, _, _, rfl⟩ := zaa hl; rfl
  have c_places_beside : Fn l.prog w K mg base _ _ _ _ := d5.fn X G (fun _ _ F => qP F B) fun _ _ _ _ _ _ us hl => by obtain ⟨_, _, _, rfl⟩ := zaa hl; rfl
  have c_reached : Fn l.prog w K mg base _ _ _ _ := d6.fn X G (fun _ _ F => zeR F B c_places_beside) fun _ _ _ _ _ _ us hl => by obtain ⟨_, _, _, _, rfl⟩ := zlZ hl; rfl
  have c_have_hole : Fn l.prog w K mg base _ _ _ _ := d7.fn X G (fun _ _ F => zcU F B c_is_outermost c_reached) fun _ _ _ _ _ _ us hl => by obtain ⟨_, _, _, rfl⟩ := zaa hl; rfl
  have c_is_whole : Fn l.prog w K mg base _ _ _ _ := d8.fn X G (fun _ _ F => zdT F B) fun _ _ _ _ _ _ us hl => by obtain ⟨_, rfl⟩ := zdb hl; rfl
  have c_are_fields : Fn l.prog w K mg base _ _ _ _ := d9.fn X G (fun _ _ F => zbP F B c_is_whole) fun _ _ _ _ _ _ us hl => by obtain ⟨_, _, _, rfl⟩ := zaa hl; rfl
  have c_hang_together : Fn l.prog w K mg base _ _ _ _ := d10.fn X G (fun _ _ F => qQ F B c_reached) fun _ _ _ _ _ _ us hl => by obtain ⟨_, _, _, rfl⟩ := zaa hl; rfl
  have c_is_length : Fn l.prog w K mg base _ _ _ _ := d11.fn X G (fun _ _ F => zcT F B h_MOST_PLACES c_is_whole) fun _ _ _ _ _ _ us hl => by obtain ⟨_, rfl⟩ := zdb hl; rfl
  have c_floor_of : Fn l.prog w K mg base _ _ _ _ := d12.fn X G (fun _ _ F => zdU F B c_have_hole c_are_fields c_hang_together c_is_length) fun _ _ _ _ _ _ us hl => by obtain ⟨_, _, _, rfl⟩ := zaa hl; rfl
  have c__law_piece : Fn l.prog w K mg base _ _ _ _ := d13.fn X G (fun _ _ F => zbQ F B) fun _ _ _ _ _ _ us hl => by obtain ⟨_, _, _, rfl⟩ := zaa hl; rfl
  have c__law_grown : Fn l.prog w K mg base _ _ _ _ := d14.fn X G (fun _ _ F => zbS F B c__law_piece) fun _ _ _ _ _ _ us hl => by obtain ⟨_, _, rfl⟩ := km hl; rfl
  have c_without : Fn l.prog w K mg base _ _ _ _ := d15.fn X G (fun _ _ F => zeQ F B) fun _ _ _ _ _ _ us hl => by obtain ⟨_, _, rfl⟩ := km hl; rfl
  have c_runs : Fn l.prog w K mg base _ _ _ _ := d16.fn X G (fun _ _ F => zkg F B) fun _ _ _ _ _ _ us hl => by obtain ⟨_, _, rfl⟩ := km hl; rfl
  have c_field_left : Fn l.prog w K mg base _ _ _ _ := d17.fn X G (fun _ _ F => zbO F B) fun _ _ _ _ _ _ us hl => by obtain ⟨_, _, rfl⟩ := km hl; rfl
  have c_row_runs : Fn l.prog w K mg base _ _ _ _ := d18.fn X G (fun _ _ F => zdS F B c_runs c_field_left) fun _ _ _ _ _ _ us hl => by obtain ⟨_, rfl⟩ := zdb hl; rfl
  have c_field_below : Fn l.prog w K mg base _ _ _ _ := d19.fn X G (fun _ _ F => zaL F B) fun _ _ _ _ _ _ us hl => by obtain ⟨_, _, rfl⟩ := km hl; rfl
  have c_column_runs : Fn l.prog w K mg base _ _ _ _ := d20.fn X G (fun _ _ F => zaM F B c_runs c_field_below) fun _ _ _ _ _ _ us hl => by obtain ⟨_, rfl⟩ := zdb hl; rfl
  have c_strips : Fn l.prog w K mg base _ _ _ _ := d21.fn X G (fun _ _ F => zgS F B c_row_runs c_column_runs) fun _ _ _ _ _ _ us hl => by obtain ⟨_, rfl⟩ := zdb hl; rfl
  have c_crossings : Fn l.prog w K mg base _ _ _ _ := d22.fn X G (fun _ _ F => zcW F B c_strips) fun _ _ _ _ _ _ us hl => by obtain ⟨_, rfl⟩ := zdb hl; rfl
  have c_there_and_back : Fn l.prog w K mg base _ _ _ _ := d23.fn X G (fun _ _ F => kg F B) fun _ _ _ _ _ _ us hl => by obtain ⟨_, _, _, rfl⟩ := zaa hl; rfl
  have c_brace_steps : Fn l.prog w K mg base _ _ _ _ := d24.fn X G (fun _ _ F => zaN F B c_crossings c_there_and_back) fun _ _ _ _ _ _ us hl => by obtain ⟨_, _, rfl⟩ := km hl; rfl
  have c_onward_from : Fn l.prog w K mg base _ _ _ _ := d25.fn X G (fun _ _ F => zaK F B) fun _ _ _ _ _ _ us hl => by obtain ⟨_, rfl⟩ := zdb hl; rfl
  have c_walks_from : Fn l.prog w K mg base _ _ _ _ := d26.fn X G (fun _ _ F => zbN F B c_onward_from) fun _ _ _ _ _ _ us hl => by obtain ⟨_, _, rfl⟩ := km hl; rfl
  have c_pieces : Fn l.prog w K mg base _ _ _ _ := d27.fn X G (fun _ _ F => zgT F B c_brace_steps c_strips c_walks_from) fun _ _ _ _ _ _ us hl => by obtain ⟨_, _, rfl⟩ := km hl; rfl
  have c_labels : Fn l.prog w K mg base _ _ _ _ := d28.fn X G (fun _ _ F => zgU F B c_pieces) fun _ _ _ _ _ _ us hl => by obtain ⟨_, _, rfl⟩ := km hl; rfl
  have c_joining : Fn l.prog w K mg base _ _ _ _ := d29.fn X G (fun _ _ F => zeS F B c_labels c_crossings) fun _ _ _ _ _ _ us hl => by obtain ⟨_, _, _, rfl⟩ := zaa hl; rfl
  have c_exchanges : Fn l.prog w K mg base _ _ _ _ := d30.fn X G (fun _ _ F => zcV F B c_without c_joining) fun _ _ _ _ _ _ us hl => by obtain ⟨_, _, _, rfl⟩ := zaa hl; rfl
  have c__law_walked : Fn l.prog w K mg base _ _ _ _ := d31.fn X G (fun _ _ F => zaO F B c__law_piece) fun _ _ _ _ _ _ us hl => by obtain ⟨_, _, _, _, rfl⟩ := zlZ hl; rfl
  have c__law_pen : Fn l.prog w K mg base _ _ _ _ := d32.fn X G (fun _ _ F => zdV F B) fun _ _ _ _ _ _ us hl => by obtain ⟨_, _, rfl⟩ := km hl; rfl
  have c__law_order : Fn l.prog w K mg base _ _ _ _ := d33.fn X G (fun _ _ F => zbR F B c__law_take) fun _ _ _ _ _ _ us hl => by obtain ⟨_, _, rfl⟩ := km hl; rfl
  have c__law_firsts : Fn l.prog w K mg base _ _ _ _ := d34.fn X G (fun _ _ F => zaP F B) fun _ _ _ _ _ _ us hl => by obtain ⟨_, _, rfl⟩ := km hl; rfl
  exact zlV (ziS (st := zaB) lk c k) B c__law_floor c_floor_of c__law_grown c_exchanges c__law_walked c__law_pen c__law_order c__law_firsts
theorem walk{l:PySem.W.OpenLaw}{q:Program}{loose:List Str}{XP:(Str->Option Value)->Heap->Prop}{YP:World->Heap->Prop}{d:DefRec}{K:Params->PySem.W.Frag}(hn:l.most=some 63)(hdf:d.params.defaults=[])
  (hY:∀ (w:World) (h:Heap),YP w h->(K w.params).In h)
  (F:∀ (w:World) (mg:Str->Option Value) (fa:Addr) (h:Heap),(K w.params).In h->h.Ns mainGlobals mg->mg d.name=some (.ref fa)->
   ∃ fd:FuncData,(∀ (s:Shared) (u:Value),BindsTo s fd ⟨[u],[]⟩ [("_law_script",u)])/\∀ base:Heap,(K w.params).In base->base.Ns mainGlobals mg->FnOk l.prog w (K w.params) mg base CX0 10 fa fd ["_law_script"] (spV (K w.params) 1 zam)):
  PySem.W.WalkO q loose XP YP l.row.toRowW d [] (fun f vs=>PySem.call f vs):=
 L2.walk_ofB (n:=63) (k:=10) (x:="_law_script") (CX:=fun _=>CX0) (sp:=fun w=>spV (K w.params) 1 zam) hn (by decide) hdf ⟨rfl,by decide,by decide⟩ hY F (fun _ _ a ns hl hb ho hS=>zma ho hS (ziA ns hl hb)) fun _ _ _ _ _ z=>z
end Cb
noncomputable def PySem.W.Fast.tw11771946322387481613:Nat:=0
noncomputable def PySem.W.Fast.tw10652935851919298875:Nat:=0
noncomputable def PySem.W.Fast.tw4321955066803749576:Nat:=0
noncomputable def PySem.W.Fast.tw3594210466479817316:Nat:=0
noncomputable def PySem.W.Fast.tw2851006851278179716:Nat:=0
noncomputable def PySem.W.Fast.tw10809178726690744489:Nat:=0
noncomputable def PySem.W.Fast.tw4109519333428613310:Nat:=0
noncomputable def PySem.W.Fast.tw10509489322999850832:Nat:=0
noncomputable def PySem.W.Fast.tw804020110565317031:Nat:=0
noncomputable def PySem.W.Fast.tw16101175107438934854:Nat:=0
open PySem PySem.W PyProof.Rows
set_option maxRecDepth 100000 in
set_option maxHeartbeats 0 in
theorem PySem.Challenge.cw_crossbrace_k27_from_choice_to_choice_holds : PySem.Challenge.rw_crossbrace_k27_from_choice_to_choice.Holds := by
 w_on;o_law;k_head;(case hw=>w_witness2)
 k_fill
 refine Cb.walk (l:=PySem.Challenge.rw_crossbrace_k27_from_choice_to_choice) rfl rfl (fun w h Y=>PySem.W.kIn_of Y) ?F
 case F=>
  intro w mg fa h KX G hmg
  refine' Cb.all_mk KX G hmg ?_ ?_ ?_ ?_ ?_ ?_ ?_ ?_ ?_ ?_ ?_ ?_ ?_ ?_ ?_ ?_ ?_ ?_ ?_ ?_ ?_ ?_ ?_ ?_ ?_ ?_ ?_ ?_ ?_ ?_ ?_ ?_ ?_ ?_ ?_ ?_ ?_ ?_ ?_ ?_ ?_ ?_ ?_ ?_ ?_ ?_ ?_ ?_
  try any_goals k_is
  try any_goals k_is
  try any_goals k_is
  try any_goals k_is
  any_goals exact .mk (by k_is) (by k_is) (by k_is) (by k_is)
